/- What was met on the way through a policy: the map of names, the count of rules (the project's walk). -/
import Derived.Test.YtipeefehhaffkaaPolExpr
import Derived.Test.YtipeefehhaffkaaPolEach
import Derived.Maps.OwnOps
import Derived.Maps.Views
namespace Go.Proofs.Ytipeefehhaffkaa
set_option linter.unusedVariables false
open Go.RowKit Go.Maps

/-- How often was a name met? -/
def cnt (x : ByteArray) (l : List ByteArray) : Nat := l.countP fun y => decide (y = x)
theorem cnt_snoc (x : ByteArray) (l : List ByteArray) : cnt x (l ++ [x]) = cnt x l + 1 := by simp [cnt]
theorem cnt_other {x y : ByteArray} (h : y ≠ x) (l : List ByteArray) : cnt x (l ++ [y]) = cnt x l := by simp [cnt, h]
theorem cnt_le (x : ByteArray) (l : List ByteArray) : cnt x l ≤ l.length := List.countP_le_length
theorem cnt_met (x : ByteArray) : ∀ (l : List ByteArray), (cnt x l = 0) = (metB x l = false)
  | [] => by simp [cnt, metB]
  | y :: l => by
    have := cnt_met x l
    unfold cnt metB at this ⊢
    by_cases e : y = x
    · simp [e]
    · simp only [List.countP_cons, List.any_cons, e, decide_false, Bool.false_or, if_false, Nat.add_zero, Bool.false_eq_true]
      exact this

theorem law9 : Keyed Try.prog 9 := string_keyed Try.underlying9
theorem zero3 (w : World) : (zeroValue 3).run Try.prog w = .ok (.int .i64 0) w := by kernel_rfl

/-- Block B is the map of the names that were met: how often each. -/
def MapIs (w : World) (B : Nat) (ids : List ByteArray) : Prop :=
  ∃ D : DataW Unit, w.ownsMap Try.prog 9 (plainElem Try.prog 3) B ids.length D ∧ IsMap D ∧ ∀ x : ByteArray, D.atKey (.string x.data.toList) (.lit (.int .i64 0)) = .lit (.int .i64 (cnt x ids))
theorem MapIs.lt {w : World} {B : Nat} {ids : List ByteArray} (h : MapIs w B ids) : B < w.heap.size := by obtain ⟨D, h, _⟩ := h; exact h.lt
theorem MapIs.kept {w w' : World} {B : Nat} {ids : List ByteArray} {r : Nat} (h : MapIs w B ids) (ho : Only r w w') (hr : B ≠ r) : MapIs w' B ids := by
  obtain ⟨D, h1, h2, h3⟩ := h
  exact ⟨D, h1.kept ho (fun e => hr (Option.some.inj e)), h2, h3⟩
theorem MapIs.below {w w' : World} {B : Nat} {ids : List ByteArray} (h : MapIs w B ids) (ho : Below w.heap.size w w') : MapIs w' B ids :=
  h.kept (r := w.heap.size) (Only.of_below ho) (Nat.ne_of_lt h.lt)
theorem MapIs.made (w : World) : MapIs (w.alloc (.map #[] 0)) w.heap.size [] :=
  ⟨.map [], World.ownsMap_made _ _ _ _, isMap_empty, fun x => rfl⟩
theorem text_key {x y : ByteArray} (h : x ≠ y) : (Lit.string x.data.toList) ≠ .string y.data.toList := by
  intro e
  injection e with e
  exact h (text_eq e)

end Go.Proofs.Ytipeefehhaffkaa
