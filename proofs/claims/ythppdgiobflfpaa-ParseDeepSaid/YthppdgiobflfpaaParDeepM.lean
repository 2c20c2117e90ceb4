/- ParseDeep, plainly: how deep functions and sets may stand. -/
import Derived.Test.YthppdgiobflfpaaNineA
namespace Go.Proofs.Ythppdgiobflfpaa
set_option linter.unusedVariables false

def deepX : Nat → List UInt8
  | 0 => [116, 114, 117, 101]
  | k + 1 => [40, 110, 111, 116, 32] ++ deepX k ++ [41]
def deepA (k : Nat) : List UInt8 := [112, 111, 108, 105, 99, 121, 32, 112, 32, 102, 105, 114, 115, 116, 32, 123, 32, 112, 101, 114, 109, 105, 116, 32, 114, 32, 105, 102, 32] ++ deepX k ++ [59, 32, 125]
def deepS : Nat → List UInt8
  | 0 => [112, 111, 108, 105, 99, 121, 32, 122, 32, 102, 105, 114, 115, 116, 32, 123, 32, 125]
  | k + 1 => [115, 101, 116, 32] ++ [UInt8.ofNat (97 + k)] ++ [32, 102, 105, 114, 115, 116, 32, 123, 32] ++ deepS k ++ [32, 125]
theorem deepA_all : ∀ k ∈ List.range 61, (parseF ((deepA k).length + 1) (deepA k)).2.1 = if k < 32 then 0 else 6 := by decide +kernel
theorem deepS_all : ∀ k ∈ List.range 8, (parseF ((deepS k).length + 1) (deepS k)).2.1 = (if k < 4 then 0 else 6) ∧ (4 ≤ k → (parseF ((deepS k).length + 1) (deepS k)).2.2 = 56) := by decide +kernel
theorem deepX_len : ∀ k, (deepX k).length = 4 + 6 * k
  | 0 => rfl
  | k + 1 => by simp [deepX, deepX_len k]; omega
theorem deepS_len : ∀ k, (deepS k).length = 18 + 16 * k
  | 0 => rfl
  | k + 1 => by simp [deepS, deepS_len k]; omega
end Go.Proofs.Ythppdgiobflfpaa
