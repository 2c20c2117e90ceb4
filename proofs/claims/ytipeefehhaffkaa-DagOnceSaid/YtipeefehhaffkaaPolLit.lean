/- Rows that are laid as literals. -/
import Derived.Test.YtipeefehhaffkaaPolRight
namespace Go.Proofs.Ytipeefehhaffkaa
set_option linter.unusedVariables false
open Go.RowKit

theorem flat_at {α : Type} {f : α → List Value} {k : Nat} : ∀ {l : List α} {j : Nat} {x : α} {i : Nat} {v : Value}, (∀ y ∈ l, (f y).length = k) → l[j]? = some x → (f x)[i]? = some v → (l.flatMap f)[j * k + i]? = some v
  | [], _, _, _, _, _, hx, _ => by simp at hx
  | y :: l, 0, x, i, v, hk, hx, hv => by
    simp at hx
    subst hx
    rw [List.flatMap_cons, Nat.zero_mul, Nat.zero_add, List.getElem?_append_left (by rw [List.getElem?_eq_some_iff] at hv; exact hv.1)]
    exact hv
  | y :: l, j + 1, x, i, v, hk, hx, hv => by
    have hy := hk y (by simp)
    rw [List.flatMap_cons, List.getElem?_append_right (by rw [hy, Nat.add_mul]; omega), hy, show (j + 1) * k + i - k = j * k + i by rw [Nat.add_mul]; omega]
    exact flat_at (fun y h => hk y (by simp [h])) (by simpa using hx) hv
theorem Rw.lit {α : Type} {k : Nat} {P : List Value → α → Prop} {R : Nat → Prop} (w : World) (t : TypeId) (f : α → List Value) (l : List α) {n : Nat} (hn : l.length = n) (hc : n ≤ 1000000) (hR : R w.heap.size) (hk : ∀ x ∈ l, (f x).length = k) (hP : ∀ x ∈ l, P (f x) x) :
    Rw k P (w.alloc (.cells (l.flatMap f).toArray t)) R (some ⟨w.heap.size, 0, none⟩) n n l := by
  refine ⟨hn, Nat.le_refl _, ⟨by simp [maxLen]; omega, by omega⟩, .inr ⟨w.heap.size, 0, rfl, hR, by simp, fun j x hx => ⟨f x, hk x (List.mem_of_getElem? hx), fun i v hv => ?_, hP x (List.mem_of_getElem? hx)⟩⟩⟩
  have := (Ob.made w t (l.flatMap f).toArray).cell (j * k + i)
  rw [Nat.zero_add, this, List.getElem?_toArray]
  exact flat_at hk hx hv
end Go.Proofs.Ytipeefehhaffkaa
