/- Stage 16's laws, plainly. -/
import Derived.Test.YtipeefehhaffkaaDagSize
namespace Go.Proofs.Ytipeefehhaffkaa
set_option linter.unusedVariables false

section
variable {l : List Br}
/-- Answers to the atoms that there are: all that matters. -/
theorem endG_congr (h : Dg l) {g g' : Int → Nat} (hg : ∀ b ∈ l, g b.a = g' b.a) : ∀ (n : Nat) (w : Int), w < n → w < l.length → endG l g w = endG l g' w
  | 0, w, hn, hl => by rw [endG_neg (by omega), endG_neg (by omega)]
  | n + 1, w, hn, hl => by
    by_cases h0 : w < 0
    · rw [endG_neg h0, endG_neg h0]
    · obtain ⟨b, hb⟩ := get_toNat (l := l) (w := w) (by omega) hl
      have hw := (h.2 w.toNat b hb).2.1 (g b.a)
      rw [endG_step h (by omega) hb, endG_step h (by omega) hb, ← hg b (List.mem_of_getElem? hb)]
      exact endG_congr h hg n _ (by omega) (by omega)
theorem walk_in {w : Int} (hw : w < l.length) (s : List Int) : walkD l w s = endG l (ansD s) w := if_neg (by omega)
/-- P16.3: a branch leads where the way of its answer leads. -/
theorem walk_kid (h : Dg l) {w : Int} {b : Br} (h0 : 0 ≤ w) (hb : l[w.toNat]? = some b) (s : List Int) : walkD l w s = walkD l (b.to (ansD s b.a)) s := by
  have hlt := (List.getElem?_eq_some_iff.1 hb).1
  have hw := (h.2 w.toNat b hb).2.1 (ansD s b.a)
  rw [walk_in (by omega), walk_in (by omega), endG_step h h0 hb]
/-- The answers of that number. -/
def ansN (a : Nat) : List Int := [((a % 3 : Nat) : Int), ((a / 3 % 3 : Nat) : Int), ((a / 9 % 3 : Nat) : Int), ((a / 27 : Nat) : Int)]
theorem ansN_at {g : Int → Nat} (hg : ∀ a, g a ≤ 2) {a : Int} (h0 : 0 ≤ a) (h3 : a ≤ 3) : ansD (ansN (g 0 + 3 * g 1 + 9 * g 2 + 27 * g 3)) a = g a := by
  have g0 := hg 0
  have g1 := hg 1
  have g2 := hg 2
  have g3 := hg 3
  rcases (show a = 0 ∨ a = 1 ∨ a = 2 ∨ a = 3 by omega) with rfl | rfl | rfl | rfl
  · show (if 0 ≤ (((g 0 + 3 * g 1 + 9 * g 2 + 27 * g 3) % 3 : Nat) : Int) ∧ (((g 0 + 3 * g 1 + 9 * g 2 + 27 * g 3) % 3 : Nat) : Int) ≤ 2 then (((g 0 + 3 * g 1 + 9 * g 2 + 27 * g 3) % 3 : Nat) : Int).toNat else 1) = g 0
    rw [if_pos (by omega)]
    omega
  · show (if 0 ≤ (((g 0 + 3 * g 1 + 9 * g 2 + 27 * g 3) / 3 % 3 : Nat) : Int) ∧ (((g 0 + 3 * g 1 + 9 * g 2 + 27 * g 3) / 3 % 3 : Nat) : Int) ≤ 2 then (((g 0 + 3 * g 1 + 9 * g 2 + 27 * g 3) / 3 % 3 : Nat) : Int).toNat else 1) = g 1
    rw [if_pos (by omega)]
    omega
  · show (if 0 ≤ (((g 0 + 3 * g 1 + 9 * g 2 + 27 * g 3) / 9 % 3 : Nat) : Int) ∧ (((g 0 + 3 * g 1 + 9 * g 2 + 27 * g 3) / 9 % 3 : Nat) : Int) ≤ 2 then (((g 0 + 3 * g 1 + 9 * g 2 + 27 * g 3) / 9 % 3 : Nat) : Int).toNat else 1) = g 2
    rw [if_pos (by omega)]
    omega
  · show (if 0 ≤ (((g 0 + 3 * g 1 + 9 * g 2 + 27 * g 3) / 27 : Nat) : Int) ∧ (((g 0 + 3 * g 1 + 9 * g 2 + 27 * g 3) / 27 : Nat) : Int) ≤ 2 then (((g 0 + 3 * g 1 + 9 * g 2 + 27 * g 3) / 27 : Nat) : Int).toNat else 1) = g 3
    rw [if_pos (by omega)]
    omega
/-- P16.5 by eighty-one rows of answers, of diagrams of four atoms. -/
theorem canon81 (h : Dg l) (h4 : ∀ b ∈ l, b.a ≤ 3) {v w : Int} (hv : v < l.length) (hw : w < l.length) (he : ∀ a, a < 81 → walkD l v (ansN a) = walkD l w (ansN a)) : v = w := by
  refine canon h _ v w (Nat.le_refl _) hv hw fun g hg => ?_
  have hin : ∀ b ∈ l, ansD (ansN (g 0 + 3 * g 1 + 9 * g 2 + 27 * g 3)) b.a = g b.a := fun b hb => by
    obtain ⟨i, hi, rfl⟩ := List.getElem_of_mem hb
    have h1 := (h.2 i _ (List.getElem?_eq_getElem hi)).1
    exact ansN_at hg h1.1 (h4 _ hb)
  have h1 := he (g 0 + 3 * g 1 + 9 * g 2 + 27 * g 3) (by have := hg 0; have := hg 1; have := hg 2; have := hg 3; omega)
  rw [walk_in hv, walk_in hw] at h1
  rw [← endG_congr h hin (v + 1).toNat v (by omega) hv, ← endG_congr h hin (w + 1).toNat w (by omega) hw]
  exact h1
end
/-- DagFull's branches. -/
def brF (i : Nat) : Br := ⟨((i % 7 : Nat) : Int), -1 - i, -2 - i, -3 - i⟩
def fullL (k : Nat) : List Br := (List.range k).map brF
theorem fullL_len (k : Nat) : (fullL k).length = k := by simp [fullL]
theorem mem_fullL {k : Nat} {b : Br} : b ∈ fullL k ↔ ∃ i, i < k ∧ brF i = b := by simp [fullL]
theorem brF_inj {i j : Nat} (h : brF i = brF j) : i = j := by
  have := congrArg Br.x h
  simp only [brF] at this
  omega
theorem way_end {l : List Br} {a t : Int} (h0 : -1048576 ≤ t) (h1 : t < 0) : WayOk l a t := ⟨h0, by omega, fun h => by omega⟩
theorem brF_ok (l : List Br) {i : Nat} (hi : i ≤ 1000) : MakeOk l (brF i) :=
  ⟨⟨by show 0 ≤ ((i % 7 : Nat) : Int); omega, by show ((i % 7 : Nat) : Int) ≤ 63; omega⟩, way_end (by show -1048576 ≤ -1 - (i : Int); omega) (by show -1 - (i : Int) < 0; omega), way_end (by show -1048576 ≤ -2 - (i : Int); omega) (by show -2 - (i : Int) < 0; omega), way_end (by show -1048576 ≤ -3 - (i : Int); omega) (by show -3 - (i : Int) < 0; omega)⟩
theorem brF_ne (i : Nat) : ¬ ((brF i).x = (brF i).y ∧ (brF i).y = (brF i).z) := fun h => by
  have h1 : -1 - (i : Int) = -2 - (i : Int) := h.1
  omega
theorem make_full {n k : Nat} (hk : k < n) (hn : n ≤ 30) : makeD n (fullL k) (brF k) = ((k : Int), 0, fullL (k + 1)) := by
  have h1 : brF k ∉ fullL k := fun h => by
    obtain ⟨i, hi, e⟩ := mem_fullL.1 h
    have := brF_inj e
    omega
  unfold makeD
  rw [if_neg (not_not_intro (brF_ok _ (by omega))), if_neg (brF_ne k), if_neg h1, if_neg (by rw [fullL_len]; omega), fullL_len]
  show _ = ((k : Int), (0 : Int), fullL (k + 1))
  rw [show fullL (k + 1) = fullL k ++ [brF k] by simp [fullL, List.range_succ]]
theorem make_again {n j : Nat} (hj : j < n) (hn : n ≤ 30) : makeD n (fullL n) (brF j) = ((j : Int), 0, fullL n) := by
  have h1 : brF j ∈ fullL n := mem_fullL.2 ⟨j, hj, rfl⟩
  have h2 : placeD (fullL n) (brF j) = j := by
    unfold placeD
    rw [List.findIdx_eq (by rw [fullL_len]; exact hj)]
    refine ⟨by simp [fullL], fun i hi => ?_⟩
    rw [decide_eq_false_iff_not]
    intro e
    simp [fullL] at e
    have := brF_inj e
    omega
  unfold makeD
  rw [if_neg (not_not_intro (brF_ok _ (by omega))), if_neg (brF_ne j), if_pos h1, h2]
theorem make_over {n : Nat} (hn : n ≤ 30) : makeD n (fullL n) ⟨0, -100, -101, -102⟩ = (0, 6, fullL n) := by
  have h1 : (⟨0, -100, -101, -102⟩ : Br) ∉ fullL n := fun h => by
    obtain ⟨i, hi, e⟩ := mem_fullL.1 h
    have := congrArg Br.x e
    simp only [brF] at this
    omega
  unfold makeD
  rw [if_neg (not_not_intro ⟨by decide, way_end (by decide) (by decide), way_end (by decide) (by decide), way_end (by decide) (by decide)⟩), if_neg (by decide), if_neg h1, if_pos (by rw [fullL_len]; exact Int.le_refl _)]
theorem make_same (most : Int) (l : List Br) : makeD most l ⟨3, -50, -50, -50⟩ = (-50, 0, l) := by
  unfold makeD
  rw [if_neg (not_not_intro ⟨by decide, way_end (by decide) (by decide), way_end (by decide) (by decide), way_end (by decide) (by decide)⟩), if_pos (by decide)]
end Go.Proofs.Ytipeefehhaffkaa
