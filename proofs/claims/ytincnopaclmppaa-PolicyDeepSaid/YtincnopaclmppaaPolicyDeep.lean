/- PolicyDeep: the walk, both ways. -/
import Derived.Test.YtincnopaclmppaaPolicyDeepA
import Derived.Test.YtincnopaclmppaaPolicyDeepB
namespace Go.Proofs.Ytincnopaclmppaa
set_option linter.unusedVariables false
open Go.RowKit
theorem policyDeep_walk (a0 : Int) (h0 : (Lit.int .i64 a0).wf = true) (a1 : Int) (h1 : (Lit.int .i64 a1).wf = true) (W : World) :
    Calls Try.prog 3 #[.int .i64 a0, .int .i64 a1] W fun e w' => e = .returned (.bool true) ∧ Below W.heap.size W w' := by
  have b0 := within_le (n := a0) (lo := 0) (hi := 6) (by omega)
  have b1 := within_le (n := a1) (lo := 0) (hi := 80) (by omega)
  obtain ⟨k, hk⟩ : ∃ k : Nat, withinOf a0 0 6 = (k : Int) := ⟨(withinOf a0 0 6).toNat, by omega⟩
  obtain ⟨m, hm⟩ : ∃ m : Nat, withinOf a1 0 80 = (m : Int) := ⟨(withinOf a1 0 80).toNat, by omega⟩
  by_cases h4 : k < 4
  · exact policyDeep_walkA a0 a1 k m hk hm (by omega) (by omega) h4 W
  · exact policyDeep_walkB a0 a1 k m hk hm (by omega) (by omega) h4 W
end Go.Proofs.Ytincnopaclmppaa
