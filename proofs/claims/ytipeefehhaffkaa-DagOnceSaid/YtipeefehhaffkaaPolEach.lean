/- The first error of a list: the project's each, over matches, AllOfs, AnyOfs, duties; targets and duties by it. -/
import Derived.Test.YtipeefehhaffkaaPolLeaf
namespace Go.Proofs.Ytipeefehhaffkaa
set_option linter.unusedVariables false
open Go.RowKit

end Go.Proofs.Ytipeefehhaffkaa
