/- LexRuns: the walk by its name. -/
import Derived.Test.YtpedfkigneahgaaLexRuns
namespace Go.Proofs.Ytpedfkigneahgaa
open Go.RowKit
theorem lexRuns_walk (w : World) : Calls Try.prog 3 #[] w fun e w' => e = .returned (.bool true) ∧ Below w.heap.size w w' := lexruns_any w
end Go.Proofs.Ytpedfkigneahgaa
