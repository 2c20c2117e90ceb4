/- Decision diagrams, plainly (chapter 16): P16.1 to P16.5 written out. -/
import Derived.Test.YtipeefehhaffkaaRows
namespace Go.Proofs.Ytipeefehhaffkaa
set_option linter.unusedVariables false

/-- A branch: its atom, where it leads by no, not known, yes. -/
structure Br where
  a : Int
  x : Int
  y : Int
  z : Int
  deriving DecidableEq
theorem Br.ext' {b c : Br} (h0 : b.a = c.a) (h1 : b.x = c.x) (h2 : b.y = c.y) (h3 : b.z = c.z) : b = c := by cases b; cases c; simp_all
def Br.to (b : Br) : Nat → Int
  | 0 => b.x
  | 1 => b.y
  | _ => b.z
theorem Br.to_all {b : Br} {P : Int → Prop} (h0 : P b.x) (h1 : P b.y) (h2 : P b.z) : ∀ k, P (b.to k)
  | 0 => h0
  | 1 => h1
  | _ + 2 => h2
/-- The atom of the branch of that number. -/
def atomD (l : List Br) (t : Int) : Int := match l[t.toNat]? with | some b => b.a | none => 0
theorem atomD_at {l : List Br} {t : Int} {b : Br} (h : l[t.toNat]? = some b) : atomD l t = b.a := by unfold atomD; rw [h]
/-- A way that a branch with that atom may go. -/
def WayOk (l : List Br) (a t : Int) : Prop := -1048576 ≤ t ∧ t < l.length ∧ (0 ≤ t → a < atomD l t)
instance (l : List Br) (a t : Int) : Decidable (WayOk l a t) := by unfold WayOk; infer_instance
def MakeOk (l : List Br) (b : Br) : Prop := (0 ≤ b.a ∧ b.a ≤ 63) ∧ WayOk l b.a b.x ∧ WayOk l b.a b.y ∧ WayOk l b.a b.z
instance (l : List Br) (b : Br) : Decidable (MakeOk l b) := by unfold MakeOk; infer_instance
def placeD (l : List Br) (b : Br) : Nat := l.findIdx (fun c => decide (c = b))
/-- P16.2: the way, the error, the branches behind it. -/
def makeD (most : Int) (l : List Br) (b : Br) : Int × Int × List Br :=
  if ¬ MakeOk l b then (0, 1, l) else if b.x = b.y ∧ b.y = b.z then (b.x, 0, l) else if b ∈ l then (placeD l b, 0, l) else if most ≤ l.length then (0, 6, l) else (l.length, 0, l ++ [b])
/-- What holds of all branches that were made. -/
def BrOk (l : List Br) (i : Nat) (b : Br) : Prop := (0 ≤ b.a ∧ b.a ≤ 63) ∧ (∀ k, -1048576 ≤ b.to k ∧ b.to k < (i : Int) ∧ (0 ≤ b.to k → b.a < atomD l (b.to k))) ∧ ¬ (b.x = b.y ∧ b.y = b.z)
def Dg (l : List Br) : Prop := l.Nodup ∧ ∀ (i : Nat) (b : Br), l[i]? = some b → BrOk l i b
theorem Dg.nil : Dg [] := ⟨List.nodup_nil, fun i b h => by simp at h⟩
theorem atomD_app {l : List Br} {b : Br} {t : Int} (h0 : 0 ≤ t) (h : t < l.length) : atomD (l ++ [b]) t = atomD l t := by
  unfold atomD
  rw [List.getElem?_append_left (by omega)]
theorem Dg.make {l : List Br} (h : Dg l) (most : Int) (b : Br) : Dg (makeD most l b).2.2 := by
  unfold makeD
  split
  · exact h
  · rename_i h1
    have h1 : MakeOk l b := Decidable.byContradiction h1
    split
    · exact h
    · rename_i h2
      split
      · exact h
      · rename_i h3
        split
        · exact h
        · refine ⟨?_, fun i c hc => ?_⟩
          · show (l ++ [b]).Nodup
            rw [List.nodup_append]
            exact ⟨h.1, by simp, fun x hx y hy => by rw [List.mem_singleton] at hy; subst hy; rintro rfl; exact h3 hx⟩
          · have hc : (l ++ [b])[i]? = some c := hc
            by_cases hi : i < l.length
            · rw [List.getElem?_append_left hi] at hc
              obtain ⟨g1, g2, g3⟩ := h.2 i c hc
              exact ⟨g1, fun k => ⟨(g2 k).1, (g2 k).2.1, fun h0 => by rw [atomD_app h0 (by have := (g2 k).2.1; omega)]; exact (g2 k).2.2 h0⟩, g3⟩
            · rw [List.getElem?_append_right (by omega)] at hc
              have hi2 : i = l.length := by
                have := (List.getElem?_eq_some_iff.1 hc).1
                simp only [List.length_cons, List.length_nil] at this
                omega
              subst hi2
              rw [Nat.sub_self] at hc
              obtain rfl : b = c := by simpa using hc
              obtain ⟨g1, w0, w1, w2⟩ := h1
              refine ⟨g1, Br.to_all (P := fun t => -1048576 ≤ t ∧ t < (l.length : Int) ∧ (0 ≤ t → b.a < atomD (l ++ [b]) t)) ?_ ?_ ?_, h2⟩
              · exact ⟨w0.1, w0.2.1, fun h0 => by rw [atomD_app h0 w0.2.1]; exact w0.2.2 h0⟩
              · exact ⟨w1.1, w1.2.1, fun h0 => by rw [atomD_app h0 w1.2.1]; exact w1.2.2 h0⟩
              · exact ⟨w2.1, w2.2.1, fun h0 => by rw [atomD_app h0 w2.2.1]; exact w2.2.2 h0⟩

/-- The end that answers lead to, in so many steps. -/
def endD (l : List Br) (g : Int → Nat) : Nat → Int → Int
  | 0, w => -1 - w
  | n + 1, w => if w < 0 then -1 - w else match l[w.toNat]? with | none => -1 | some b => endD l g n (b.to (g b.a))
def endG (l : List Br) (g : Int → Nat) (w : Int) : Int := endD l g (w + 1).toNat w
/-- The answer to an atom. -/
def ansD (s : List Int) (a : Int) : Nat := match s[a.toNat]? with | some v => if 0 ≤ v ∧ v ≤ 2 then v.toNat else 1 | none => 1
theorem ansD_two (s : List Int) (a : Int) : ansD s a ≤ 2 := by
  unfold ansD
  split
  · split <;> omega
  · omega
/-- P16.3. -/
def walkD (l : List Br) (w : Int) (s : List Int) : Int := if (l.length : Int) ≤ w then -1 else endG l (ansD s) w
section
variable {l : List Br} {g : Int → Nat}
theorem endD_neg {w : Int} (h : w < 0) : ∀ n, endD l g n w = -1 - w
  | 0 => rfl
  | n + 1 => by rw [endD, if_pos h]
theorem endD_more (h : Dg l) : ∀ (n : Nat) (w : Int), w < n → ∀ m : Nat, n ≤ m → w < l.length → endD l g m w = endD l g n w
  | 0, w, hn, m, hm, hl => by rw [endD_neg (by omega), endD_neg (by omega)]
  | n + 1, w, hn, m, hm, hl => by
    by_cases h0 : w < 0
    · rw [endD_neg h0, endD_neg h0]
    · match m, hm with
      | m + 1, hm =>
        rw [endD, endD, if_neg h0, if_neg h0]
        have hlt : w.toNat < l.length := by omega
        rw [List.getElem?_eq_getElem hlt]
        have hb := (h.2 w.toNat _ (List.getElem?_eq_getElem hlt)).2.1 (g l[w.toNat].a)
        exact endD_more h n _ (by omega) m (by omega) (by omega)
theorem endG_neg {w : Int} (h : w < 0) : endG l g w = -1 - w := endD_neg h _
theorem endG_step (h : Dg l) {w : Int} {b : Br} (h0 : 0 ≤ w) (hb : l[w.toNat]? = some b) : endG l g w = endG l g (b.to (g b.a)) := by
  have hlt := (List.getElem?_eq_some_iff.1 hb).1
  have hw := (h.2 w.toNat b hb).2.1 (g b.a)
  unfold endG
  rw [show (w + 1).toNat = w.toNat + 1 by omega, endD, if_neg (by omega), hb]
  show endD l g w.toNat (b.to (g b.a)) = _
  exact endD_more h _ _ (by omega) _ (by omega) (by omega)
/-- Answers to atoms ahead of it don't matter. -/
theorem endG_same (h : Dg l) {g g' : Int → Nat} : ∀ (n : Nat) (w : Int), w < n → w < l.length → (0 ≤ w → ∀ a, atomD l w ≤ a → g a = g' a) → endG l g w = endG l g' w
  | 0, w, hn, hl, _ => by rw [endG_neg (by omega), endG_neg (by omega)]
  | n + 1, w, hn, hl, hg => by
    by_cases h0 : w < 0
    · rw [endG_neg h0, endG_neg h0]
    · have hlt : w.toNat < l.length := by omega
      have hb := List.getElem?_eq_getElem hlt
      have hw := (h.2 w.toNat _ hb).2.1 (g l[w.toNat].a)
      have ha : atomD l w = l[w.toNat].a := atomD_at hb
      rw [endG_step h (by omega) hb, endG_step h (by omega) hb, ← hg (by omega) l[w.toNat].a (by omega)]
      refine endG_same h n _ (by omega) (by omega) fun h1 a ha2 => hg (by omega) a ?_
      have := hw.2.2 h1
      omega
/-- Another answer to one atom. -/
def updG (g : Int → Nat) (a : Int) (k : Nat) : Int → Nat := fun b => if b = a then k else g b
theorem updG_same (g : Int → Nat) (a : Int) (k : Nat) : updG g a k a = k := if_pos rfl
theorem updG_two {g : Int → Nat} (hg : ∀ a, g a ≤ 2) {k : Nat} (hk : k ≤ 2) (a : Int) : ∀ b, updG g a k b ≤ 2 := fun b => by
  unfold updG
  split
  · exact hk
  · exact hg b
/-- What lies behind an atom doesn't ask for it. -/
theorem endG_upd (h : Dg l) (g : Int → Nat) (a : Int) (k : Nat) {w : Int} (hl : w < l.length) (ha : 0 ≤ w → a < atomD l w) : endG l (updG g a k) w = endG l g w :=
  endG_same h (w + 1).toNat w (by omega) hl fun h0 b hb => if_neg (by have := ha h0; omega)
/-- A branch by one of its answers. -/
theorem endG_kid (h : Dg l) (g : Int → Nat) {w : Int} {b : Br} (h0 : 0 ≤ w) (hb : l[w.toNat]? = some b) (k : Nat) : endG l (updG g b.a k) w = endG l g (b.to k) := by
  have hw := (h.2 w.toNat b hb).2.1 k
  have hlt := (List.getElem?_eq_some_iff.1 hb).1
  rw [endG_step h h0 hb, updG_same]
  exact endG_upd h g b.a k (by omega) hw.2.2
theorem Br.of_to {b c : Br} (ha : b.a = c.a) (h : ∀ k, k ≤ 2 → b.to k = c.to k) : b = c := Br.ext' ha (h 0 (by omega)) (h 1 (by omega)) (h 2 (by omega))
theorem get_toNat {w : Int} (h0 : 0 ≤ w) (hl : w < l.length) : ∃ b, l[w.toNat]? = some b := ⟨_, List.getElem?_eq_getElem (by omega)⟩
/-- P16.5: ways that lead to the same ends are the same. -/
theorem canon (h : Dg l) : ∀ (n : Nat) (v w : Int), (v + 1).toNat + (w + 1).toNat ≤ n → v < l.length → w < l.length → (∀ g : Int → Nat, (∀ a, g a ≤ 2) → endG l g v = endG l g w) → v = w
  | n, v, w, hn, hv, hw, he => by
    have one : ∀ {v w : Int}, (v + 1).toNat + (w + 1).toNat ≤ n → v < l.length → w < l.length → (∀ g : Int → Nat, (∀ a, g a ≤ 2) → endG l g v = endG l g w) → ∀ {b : Br}, 0 ≤ v → l[v.toNat]? = some b → ¬ (0 ≤ w → b.a < atomD l w) := by
      intro v w hn hv hw he b h0 hb hlt
      have hB := h.2 v.toNat b hb
      have all : ∀ k, k ≤ 2 → b.to k = w := fun k hk => by
        have hk' := hB.2.1 k
        refine canon h (n - 1) _ _ (by omega) (by omega) hw fun g hg => ?_
        rw [← endG_kid h g h0 hb k, he _ (updG_two hg hk _)]
        exact endG_upd h g b.a k hw hlt
      exact hB.2.2 ⟨(all 0 (by omega)).trans (all 1 (by omega)).symm, (all 1 (by omega)).trans (all 2 (by omega)).symm⟩
    by_cases h0 : v < 0
    · by_cases h1 : w < 0
      · have := he (fun _ => 0) (fun _ => by omega)
        rw [endG_neg h0, endG_neg h1] at this
        omega
      · obtain ⟨c, hc⟩ := get_toNat (l := l) (w := w) (by omega) hw
        exact absurd (fun h2 => by omega) (one (v := w) (w := v) (by omega) hw hv (fun g hg => (he g hg).symm) (by omega) hc)
    · obtain ⟨b, hb⟩ := get_toNat (l := l) (w := v) (by omega) hv
      by_cases h1 : w < 0
      · exact absurd (fun h2 => by omega) (one (v := v) (w := w) hn hv hw he (by omega) hb)
      · obtain ⟨c, hc⟩ := get_toNat (l := l) (w := w) (by omega) hw
        have n1 := one (v := v) (w := w) hn hv hw he (by omega) hb
        have n2 := one (v := w) (w := v) (by omega) hw hv (fun g hg => (he g hg).symm) (by omega) hc
        have ab := atomD_at hb
        have ac := atomD_at hc
        have hab : b.a = c.a := by
          rcases Int.lt_trichotomy b.a c.a with h2 | h2 | h2
          · exact absurd (fun _ => by omega) n1
          · exact h2
          · exact absurd (fun _ => by omega) n2
        have e : b = c := Br.of_to hab fun k hk => by
          have hb' := (h.2 v.toNat b hb).2.1 k
          have hc' := (h.2 w.toNat c hc).2.1 k
          refine canon h (n - 1) _ _ (by omega) (by omega) (by omega) fun g hg => ?_
          rw [← endG_kid h g (by omega) hb k, ← endG_kid h g (by omega) hc k, ← hab]
          exact he _ (updG_two hg hk _)
        subst e
        have i1 := (List.getElem?_eq_some_iff.1 hb).1
        have : v.toNat = w.toNat := (List.getElem?_inj i1 h.1).1 (hb.trans hc.symm)
        omega
  termination_by n => n
  decreasing_by all_goals omega
end
end Go.Proofs.Ytipeefehhaffkaa
