/- bailiffbook.Within: a number brought between two bounds. -/
import Derived.Test.YtipeefehhaffkaaMem
namespace Go.Proofs.Ytipeefehhaffkaa
open Go.RowKit

def withinOf (n lo hi : Int) : Int := lo + n % (hi - lo + 1)
theorem within_le {n lo hi : Int} (h : lo ≤ hi) : lo ≤ withinOf n lo hi ∧ withinOf n lo hi ≤ hi := by
  unfold withinOf
  have h1 := Int.emod_nonneg n (b := hi - lo + 1) (by omega)
  have h2 := Int.emod_lt_of_pos n (b := hi - lo + 1) (by omega)
  omega

theorem tmod_emod {n m : Int} (hm : 0 < m) : -m ≤ n.tmod m ∧ n.tmod m < m ∧ ((n.tmod m < 0 ∧ n % m = n.tmod m + m) ∨ (0 ≤ n.tmod m ∧ n % m = n.tmod m)) := by
  have h1 := Int.emod_nonneg n (b := m) (by omega)
  have h2 := Int.emod_lt_of_pos n hm
  have e := Int.tmod_eq_emod (a := n) (b := m)
  split at e
  · omega
  · rw [Int.natAbs_of_nonneg (by omega)] at e
    omega

set_option maxHeartbeats 800000 in
theorem within_any {n lo hi : Int} {w : World} (h0 : 0 ≤ lo) (h1 : lo ≤ hi) (h2 : hi ≤ 4611686018427387904) :
    Calls Try.prog 19 #[.int .i64 n, .int .i64 lo, .int .i64 hi] w fun e w' => e = .returned (.int .i64 (withinOf n lo hi)) ∧ w = w' := by
  have hm := tmod_emod (n := n) (m := hi - lo + 1) (by omega)
  obtain ⟨hl, hb, hm⟩ := hm
  have HM := Lib.hid hm
  clear hm
  by_cases hneg : n.tmod (hi - lo + 1) < 0
  all_goals
    go_enter Try.func19, Try.ntmps19
    go_wp2_with fail
    go_ret
    refine ⟨ret_int ?_, rfl⟩
    have := HM.out
    unfold withinOf
    omega
end Go.Proofs.Ytipeefehhaffkaa
