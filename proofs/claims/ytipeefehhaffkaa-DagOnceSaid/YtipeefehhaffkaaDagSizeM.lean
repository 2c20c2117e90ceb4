/- Rows of marks by which a diagram's size is reckoned, plainly. -/
import Derived.Test.YtipeefehhaffkaaDagMark
namespace Go.Proofs.Ytipeefehhaffkaa
set_option linter.unusedVariables false

/-- The row behind one way. -/
def mk1 (f : List Bool) (t : Int) : List Bool := if 0 ≤ t then f.set t.toNat true else f
def mkN (f : List Bool) (c : Br) : Nat → List Bool
  | 0 => f
  | 1 => mk1 f c.x
  | 2 => mk1 (mk1 f c.x) c.y
  | _ => mk1 (mk1 (mk1 f c.x) c.y) c.z
theorem mk1_len (f : List Bool) (t : Int) : (mk1 f t).length = f.length := by
  unfold mk1
  split
  · rw [List.length_set]
  · rfl
theorem mkN_len (f : List Bool) (c : Br) : ∀ k, (mkN f c k).length = f.length
  | 0 => rfl
  | 1 => mk1_len _ _
  | 2 => by show (mk1 _ _).length = _; rw [mk1_len, mk1_len]
  | _ + 3 => by show (mk1 _ _).length = _; rw [mk1_len, mk1_len, mk1_len]
theorem mk1_at {f : List Bool} {t : Int} {j : Nat} (hj : j < f.length) : (mk1 f t)[j]? = some true ↔ (f[j]? = some true ∨ t = (j : Int)) := by
  unfold mk1
  split
  · rename_i h
    rw [List.getElem?_set]
    split
    · rename_i e
      constructor
      · intro _; right; omega
      · intro _; rw [if_pos (by omega)]
    · rename_i e
      constructor
      · intro h; exact .inl h
      · rintro (h | h)
        · exact h
        · omega
  · constructor
    · intro h; exact .inl h
    · rintro (h | h)
      · exact h
      · omega
theorem mkN_at {f : List Bool} {c : Br} {j : Nat} (hj : j < f.length) : (mkN f c 3)[j]? = some true ↔ (f[j]? = some true ∨ ∃ t, t ≤ 2 ∧ c.to t = (j : Int)) := by
  show (mk1 (mk1 (mk1 f c.x) c.y) c.z)[j]? = some true ↔ _
  rw [mk1_at (by rw [mk1_len, mk1_len]; exact hj), mk1_at (by rw [mk1_len]; exact hj), mk1_at hj]
  constructor
  · rintro (((h | h) | h) | h)
    · exact .inl h
    · exact .inr ⟨0, by omega, h⟩
    · exact .inr ⟨1, by omega, h⟩
    · exact .inr ⟨2, by omega, h⟩
  · rintro (h | ⟨t, ht, h⟩)
    · exact .inl (.inl (.inl h))
    · rcases (show t = 0 ∨ t = 1 ∨ t = 2 by omega) with rfl | rfl | rfl
      · exact .inl (.inl (.inr h))
      · exact .inl (.inr h)
      · exact .inr h
/-- The row tells what has been marked. -/
def MarkF (l : List Br) (r k : Nat) (f : List Bool) (L : Nat) : Prop := f.length = L ∧ ∀ j, j < L → (f[j]? = some true ↔ Marked l (r : Int) k j)
section
variable {l : List Br} {r k L : Nat} {f : List Bool}
theorem MarkF.start (h : Dg l) (hr : r < L) : MarkF l r (r + 1) ((List.replicate L false).set r true) L := by
  refine ⟨by rw [List.length_set, List.length_replicate], fun j hj => ?_⟩
  rw [marked_top h (by omega), List.getElem?_set]
  split
  · rename_i e
    rw [List.length_replicate, if_pos hr]
    exact ⟨fun _ => by omega, fun _ => rfl⟩
  · rename_i e
    rw [List.getElem?_replicate, if_pos hj]
    simp only [Option.some.injEq, Bool.false_eq_true, false_iff]
    omega
theorem MarkF.turn (h : Dg l) (hm : MarkF l r (k + 1) f L) (hk : k < L) (hkl : k < l.length) (hr : r < l.length) : f[k]? = some (rch l (r : Int) k) := by
  have h1 := hm.2 k hk
  rw [marked_turn h hkl (by omega) (by omega)] at h1
  have hkf : k < f.length := by rw [hm.1]; exact hk
  obtain ⟨b, hb⟩ : ∃ b, f[k]? = some b := ⟨_, List.getElem?_eq_getElem hkf⟩
  rw [hb] at h1 ⊢
  generalize rch l (r : Int) k = q at *
  cases b <;> cases q <;> simp at h1 ⊢
theorem MarkF.skip (hm : MarkF l r (k + 1) f L) (hkl : k < l.length) (hf : rch l (r : Int) k = false) : MarkF l r k f L ∧ cntD l (r : Int) k = cntD l (r : Int) (k + 1) := by
  refine ⟨⟨hm.1, fun j hj => ?_⟩, by rw [cnt_step hkl, hf]; simp⟩
  rw [marked_step (List.getElem?_eq_getElem hkl), hm.2 j hj]
  constructor
  · exact .inl
  · rintro (h | ⟨h, _⟩)
    · exact h
    · rw [hf] at h; cases h
theorem MarkF.take {c : Br} (hm : MarkF l r (k + 1) f L) (hc : l[k]? = some c) (hf : rch l (r : Int) k = true) : MarkF l r k (mkN f c 3) L ∧ cntD l (r : Int) k = cntD l (r : Int) (k + 1) + 1 := by
  have hkl := (List.getElem?_eq_some_iff.1 hc).1
  refine ⟨⟨by rw [mkN_len, hm.1], fun j hj => ?_⟩, by rw [cnt_step hkl, hf]; simp⟩
  rw [marked_step hc, ← hm.2 j hj, mkN_at (by rw [hm.1]; exact hj)]
  constructor
  · rintro (h | h)
    · exact .inl h
    · exact .inr ⟨hf, h⟩
  · rintro (h | ⟨_, h⟩)
    · exact .inl h
    · exact .inr h
end
end Go.Proofs.Ytipeefehhaffkaa
