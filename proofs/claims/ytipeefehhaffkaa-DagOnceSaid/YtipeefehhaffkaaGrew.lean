/- A row of the call's own that grows, and all else that stands. -/
import Derived.Test.YtipeefehhaffkaaPolOw
namespace Go.Proofs.Ytipeefehhaffkaa
set_option linter.unusedVariables false
open Go.RowKit

/-- All stands but the row's own block; where the row lies behind it. -/
def Grew (v v' : Value) (w w' : World) : Prop := w.grownBy w' v.ownBlock ∧ (v'.ownBlock = v.ownBlock ∨ ∃ b, v'.ownBlock = some b ∧ w.heap.size ≤ b)
section
variable {v v' v'' : Value} {w w' w'' : World}
theorem Grew.of_below (h : Below w.heap.size w w') (v : Value) : Grew v v w w' := ⟨⟨h.os, h.tape, h.output, h.size, fun k hk _ => h.block k hk⟩, .inl rfl⟩
theorem Grew.refl (v : Value) (w : World) : Grew v v w w := Grew.of_below (Below.refl _ _) v
theorem Grew.size (h : Grew v v' w w') : w.heap.size ≤ w'.heap.size := h.1.size
theorem Grew.other (h : Grew v v' w w') {k : Nat} (hk : k < w.heap.size) (hne : some k ≠ v.ownBlock) : some k ≠ v'.ownBlock := by
  rcases h.2 with e | ⟨b, e, hb⟩
  · rw [e]; exact hne
  · rw [e]; intro h; injection h with h; omega
theorem Grew.trans (h : Grew v v' w w') (k : Grew v' v'' w' w'') : Grew v v'' w w'' := by
  refine ⟨⟨k.1.os.trans h.1.os, k.1.tape.trans h.1.tape, k.1.output.trans h.1.output, Nat.le_trans h.size k.size, fun i hi hn => (k.1.block i (Nat.lt_of_lt_of_le hi h.size) (h.other hi hn)).trans (h.1.block i hi hn)⟩, ?_⟩
  rcases k.2 with e | ⟨b, e, hb⟩
  · rw [e]; exact h.2
  · exact .inr ⟨b, e, Nat.le_trans h.size hb⟩
theorem Grew.ob {g : Nat} {t : TypeId} {cs : Array Value} (h : Grew v v' w w') (o : Ob w g t cs) (hne : some g ≠ v.ownBlock) : Ob w' g t cs := o.keep (h.1.block g o.lt hne)
theorem Grew.kept {R : Nat → Prop} (h : Grew v v' w w') (hR : ∀ b, R b → some b ≠ v.ownBlock) : Kept R w w' := ⟨h.size, fun b hb hlt => h.1.block b hlt (hR b hb)⟩
end
end Go.Proofs.Ytipeefehhaffkaa
