/- A value as Go has it, and in a block of its own. -/
import Derived.Test.YtipeefehhaffkaaVMath
import Derived.Test.YtipeefehhaffkaaMade
namespace Go.Proofs.Ytipeefehhaffkaa
set_option linter.unusedVariables false
open Go.RowKit

/-- A value as Go has it. -/
def Vl.val (v : Vl) : Value := .agg #[.int .i64 v.k, .int .i64 v.n, .string v.s]
/-- Its cells. -/
def Vl.cells (v : Vl) : List Value := [.int .i64 v.k, .int .i64 v.n, .string v.s]

section
variable {w w' : World} {g : Nat} {k n : Int} {s : ByteArray}
end
end Go.Proofs.Ytipeefehhaffkaa
