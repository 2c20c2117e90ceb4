/- PolicyRuns: the walk by its name. -/
import Derived.Test.YtacfmabflmjalaaPolRuns
namespace Go.Proofs.Ytacfmabflmjalaa
open Go.RowKit
theorem policyRuns_walk (w : World) : Calls Try.prog 3 #[] w fun e w' => e = .returned (.bool true) ∧ Below w.heap.size w w' := pruns_any w
end Go.Proofs.Ytacfmabflmjalaa
