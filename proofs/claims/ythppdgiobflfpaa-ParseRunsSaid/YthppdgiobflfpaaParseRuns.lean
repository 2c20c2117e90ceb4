/- ParseRuns: the walk, by the law's name. -/
import Derived.Test.YthppdgiobflfpaaNineI
namespace Go.Proofs.Ythppdgiobflfpaa
open Go.RowKit
theorem parseRuns_walk (w : World) : Calls Try.prog 3 #[] w fun e w' => e = .returned (.bool true) ∧ Below w.heap.size w w' := runs9_any w
end Go.Proofs.Ythppdgiobflfpaa
