/- A rule on the way through a policy (the project's walk.rule, and each over rules). -/
import Derived.Test.YtipeefehhaffkaaPolOr
import Derived.Test.YtipeefehhaffkaaQTail
namespace Go.Proofs.Ytipeefehhaffkaa
set_option linter.unusedVariables false
open Go.RowKit Go.Sort

/-- Only blocks g and B, and what is new, have changed. -/
def Only2 (g B : Nat) (w w' : World) : Prop := w'.os = w.os ∧ w'.tape = w.tape ∧ w'.output = w.output ∧ w.heap.size ≤ w'.heap.size ∧ ∀ k, k < w.heap.size → k ≠ g → k ≠ B → w'.heap[k]? = w.heap[k]?
section
variable {g B : Nat} {w w' w'' : World}
theorem Only2.refl : Only2 g B w w := ⟨rfl, rfl, rfl, Nat.le_refl _, fun _ _ _ _ => rfl⟩
theorem Only2.trans (h : Only2 g B w w') (k : Only2 g B w' w'') : Only2 g B w w'' :=
  ⟨k.1.trans h.1, k.2.1.trans h.2.1, k.2.2.1.trans h.2.2.1, Nat.le_trans h.2.2.2.1 k.2.2.2.1, fun i hi h1 h2 => (k.2.2.2.2 i (Nat.lt_of_lt_of_le hi h.2.2.2.1) h1 h2).trans (h.2.2.2.2 i hi h1 h2)⟩
theorem Only2.of_B (h : Only B w w') : Only2 g B w w' := ⟨h.os, h.tape, h.output, h.size, fun k hk _ h2 => h.heap hk h2⟩
theorem Only2.of_g (h : Only g w w') : Only2 g B w w' := ⟨h.os, h.tape, h.output, h.size, fun k hk h1 _ => h.heap hk h1⟩
theorem Only2.of_below (h : Below w.heap.size w w') : Only2 g B w w' := ⟨h.os, h.tape, h.output, h.size, fun k hk _ _ => h.block k hk⟩
theorem Only2.size (h : Only2 g B w w') : w.heap.size ≤ w'.heap.size := h.2.2.2.1
theorem Only2.heap (h : Only2 g B w w') {k : Nat} (hk : k < w.heap.size) (h1 : k ≠ g) (h2 : k ≠ B) : w'.heap[k]? = w.heap[k]? := h.2.2.2.2 k hk h1 h2
theorem Only2.kept (h : Only2 g B w w') {R : Nat → Prop} (hR : ∀ b, R b → b ≠ g ∧ b ≠ B) : Kept R w w' := ⟨h.size, fun b hb hl => h.heap hl (hR b hb).1 (hR b hb).2⟩
theorem Only2.below (h : Only2 g B w w') {L : Nat} (hL : L ≤ w.heap.size) (h1 : L ≤ g) (h2 : L ≤ B) : Below L w w' :=
  ⟨h.1, h.2.1, h.2.2.1, h.size, fun k hk => h.heap (by omega) (by omega) (by omega)⟩
theorem Only2.alloc (o : Obj) : Only2 g B w (w.alloc o) := Only2.of_below ((Below.refl _ _).alloc (Nat.le_refl _) _)
end

theorem idS_some {x : ByteArray} {s : Seen} (h : (decide (Named (bl x)) && !metB x s.ids) = true) : idS x s = some ⟨s.ids ++ [x], s.n⟩ := by
  simp at h
  unfold idS
  rw [if_pos h]
theorem idS_none {x : ByteArray} {s : Seen} (h : (decide (Named (bl x)) && !metB x s.ids) = false) : idS x s = none := by
  unfold idS
  rw [if_neg]
  rintro ⟨h1, h2⟩
  simp [h1, h2] at h

theorem firstS_app {α : Type} (f : α → Seen → Int × Seen) : ∀ (l m : List α) (s : Seen), firstS f (l ++ m) s = if (firstS f l s).1 ≠ 0 then firstS f l s else firstS f m (firstS f l s).2
  | [], m, s => by simp [firstS]
  | x :: l, m, s => by
    simp only [List.cons_append, firstS]
    by_cases h : (f x s).1 = 0
    · simp only [h, ne_eq, not_true, if_false]
      exact firstS_app f l m (f x s).2
    · simp [h]
/-- So far without an error, and this was met. -/
def StTo {α : Type} (f : α → Seen → Int × Seen) (l : List α) (s0 : Seen) (k : Nat) (s : Seen) : Prop := firstS f (l.take k) s0 = (0, s)
section
variable {α : Type} {f : α → Seen → Int × Seen} {l : List α} {s0 s : Seen} {k : Nat} {x : α}
theorem StTo.zero (f : α → Seen → Int × Seen) (l : List α) (s0 : Seen) : StTo f l s0 0 s0 := rfl
theorem StTo.step (h : StTo f l s0 k s) (hx : l[k]? = some x) (h0 : (f x s).1 = 0) : StTo f l s0 (k + 1) (f x s).2 := by
  unfold StTo at h ⊢
  rw [take_next hx, firstS_app, h]
  simp only [ne_eq, not_true, if_false, firstS, h0]
theorem StTo.err (h : StTo f l s0 k s) (hx : l[k]? = some x) (h0 : (f x s).1 ≠ 0) : firstS f l s0 = f x s := by
  have e : firstS f (l.take (k + 1)) s0 = f x s := by
    unfold StTo at h
    rw [take_next hx, firstS_app, h]
    simp [firstS, h0]
  rw [← List.take_append_drop (k + 1) l, firstS_app, e, if_pos h0]
theorem StTo.all {n : Nat} (h : StTo f l s0 n s) (hn : l.length = n) : firstS f l s0 = (0, s) := by
  unfold StTo at h
  rwa [List.take_of_length_le (by omega)] at h
end
theorem idS_ids {x : ByteArray} {s s1 : Seen} (h : idS x s = some s1) : s1.ids.length = s.ids.length + 1 := by
  unfold idS at h
  split at h
  · obtain rfl := Option.some.inj h; simp
  · cases h
theorem ruleS_ids (r : Rul) (s : Seen) : (ruleS r s).2.ids.length ≤ s.ids.length + 1 := by
  unfold ruleS
  split
  · exact Nat.le_succ _
  · rename_i s1 h
    have := idS_ids h
    split <;> (simp only; omega)

end Go.Proofs.Ytipeefehhaffkaa
