/- A policy, one depth more (the project's walk.policy); Right, Rules. -/
import Derived.Test.YtipeefehhaffkaaPolPol
namespace Go.Proofs.Ytipeefehhaffkaa
set_option linter.unusedVariables false
open Go.RowKit Go.Sort

theorem each_len {a b d n2 n3 l : Nat} (h : a + (16 + 16 * d) < 800000) (h1 : b ≤ a + l * 1) (hl : l = n2) (h2 : n2 ≤ 16) (h3 : n3 ≤ 16) : b + n3 * d < 800000 := by
  have : n3 * d ≤ 16 * d := Nat.mul_le_mul_right _ h3
  omega
end Go.Proofs.Ytipeefehhaffkaa
