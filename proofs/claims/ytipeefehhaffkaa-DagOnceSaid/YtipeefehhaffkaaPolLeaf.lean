/- What a policy's smallest parts must be: attributes, matches, duties, counts (the project's). -/
import Derived.Test.YtipeefehhaffkaaPolMem
import Derived.Test.YtipeefehhaffkaaVRightV
namespace Go.Proofs.Ytipeefehhaffkaa
set_option linter.unusedVariables false
open Go.RowKit

end Go.Proofs.Ytipeefehhaffkaa
