/- Attributes, nodes, matches, duties held against each other by ==. -/
import Derived.Test.YtipeefehhaffkaaPolMem
import Derived.Test.YtipeefehhaffkaaVEq
namespace Go.Proofs.Ytipeefehhaffkaa
set_option linter.unusedVariables false
open Go.RowKit

theorem text_same (s s' : ByteArray) : (s.toList = s'.toList) = (s = s') := propext ⟨fun c => text_eq (by show s.data.toList = s'.data.toList; rw [← ByteArray.toList_eq, ← ByteArray.toList_eq]; exact c), fun h => by rw [h]⟩

theorem vl_ext {a b : Vl} (h1 : a.k = b.k) (h2 : a.n = b.n) (h3 : a.s = b.s) : a = b := by cases a; cases b; simp_all
end Go.Proofs.Ytipeefehhaffkaa
