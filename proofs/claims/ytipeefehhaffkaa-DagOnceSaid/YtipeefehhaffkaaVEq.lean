/- Values held against each other by ==. -/
import Derived.Test.YtipeefehhaffkaaVBox
import Derived.Laws.StructEq
import Derived.Laws.Tables
import Derived.Laws.Cover2
namespace Go.Proofs.Ytipeefehhaffkaa
set_option linter.unusedVariables false
open Go.RowKit

/-- Are two values the same? -/
def veq (a b : Vl) : Bool := decide (a = b)
theorem veq_true {a b : Vl} (h : a = b) : veq a b = true := decide_eq_true h
theorem veq_false {a b : Vl} (h : a ≠ b) : veq a b = false := decide_eq_false h
theorem veq_iff {a b : Vl} : veq a b = true ↔ a = b := decide_eq_true_iff

end Go.Proofs.Ytipeefehhaffkaa
