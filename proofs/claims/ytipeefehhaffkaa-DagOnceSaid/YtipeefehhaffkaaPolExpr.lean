/- Expressions: the project's. -/
import Derived.Test.YtipeefehhaffkaaPolHolds
import Derived.Test.YtipeefehhaffkaaMade
namespace Go.Proofs.Ytipeefehhaffkaa
set_option linter.unusedVariables false
open Go.RowKit

theorem runX_app : ∀ (l m : List Nod) (st : List Bool), runX (l ++ m) st = (match runX l st with | some st' => runX m st' | none => none)
  | [], m, st => rfl
  | x :: l, m, st => by
    simp only [List.cons_append, runX]
    cases stepX x st with
    | none => rfl
    | some st' => exact runX_app l m st'
/-- So far. -/
def RunTo (l : List Nod) (k : Nat) (st : List Bool) : Prop := runX (l.take k) [] = some st
theorem RunTo.zero (l : List Nod) : RunTo l 0 [] := rfl
theorem take_next {α : Type} {l : List α} {k : Nat} {x : α} (h : l[k]? = some x) : l.take (k + 1) = l.take k ++ [x] := by
  obtain ⟨hk, rfl⟩ := List.getElem?_eq_some_iff.1 h
  exact List.take_succ_eq_append_getElem hk
theorem RunTo.step {l : List Nod} {k : Nat} {st st' : List Bool} {x : Nod} (h : RunTo l k st) (hx : l[k]? = some x) (hs : stepX x st = some st') : RunTo l (k + 1) st' := by
  unfold RunTo at h ⊢
  rw [take_next hx, runX_app, h]
  simp only [runX, hs]
theorem RunTo.err {l : List Nod} {k : Nat} {st : List Bool} {x : Nod} (h : RunTo l k st) (hx : l[k]? = some x) (hs : stepX x st = none) : runX l [] = none := by
  rw [← List.take_append_drop (k + 1) l, runX_app, take_next hx, runX_app, h]
  simp only [runX, hs]
theorem RunTo.all {l : List Nod} {n : Nat} {st : List Bool} (h : RunTo l n st) (hn : l.length = n) : runX l [] = some st := by
  unfold RunTo at h
  rwa [List.take_of_length_le (by omega)] at h
theorem expr_err {l : List Nod} (hl : l.length ≤ 32) (h : runX l [] = none) : exprE l = 1 := by
  unfold exprE
  rw [if_neg (by omega), h]
theorem expr_end {l : List Nod} {st : List Bool} (hl : l.length ≤ 32) (h : runX l [] = some st) : exprE l = if l = [] ∨ st = [false] then 0 else 1 := by
  unfold exprE
  rw [if_neg (by omega), h]

end Go.Proofs.Ytipeefehhaffkaa
