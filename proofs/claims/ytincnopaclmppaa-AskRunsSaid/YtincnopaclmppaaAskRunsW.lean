/- AskRuns: the walk by its name. -/
import Derived.Test.YtincnopaclmppaaAskNil
namespace Go.Proofs.Ytincnopaclmppaa
open Go.RowKit
theorem askRuns_walk (w : World) : Calls Try.prog 4 #[] w fun e w' => e = .returned (.bool true) ∧ Below w.heap.size w w' := aruns_any w
end Go.Proofs.Ytincnopaclmppaa
