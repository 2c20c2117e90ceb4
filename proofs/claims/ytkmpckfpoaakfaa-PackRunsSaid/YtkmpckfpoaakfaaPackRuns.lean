/- PackRuns: the walk, under the law's name. -/
import Derived.Test.YtkmpckfpoaakfaaRuns
namespace Go.Proofs.Ytkmpckfpoaakfaa
open Go.RowKit
theorem packRuns_walk (w : World) : Calls Try.prog 3 #[] w fun e w' => e = .returned (.bool true) ∧ Below w.heap.size w w' := runs_any w
end Go.Proofs.Ytkmpckfpoaakfaa
