/- FunOver: the walk. -/
import Derived.Test.YtjcegpakacedoaaFunRuns
import Derived.Test.YtjcegpakacedoaaWithin
namespace Go.Proofs.Ytjcegpakacedoaa
set_option linter.unusedVariables false
open Go.RowKit Go.Sort

theorem prod_small {s t : Int} (hs : -1073741824 ≤ s ∧ s ≤ 1073741824) (ht : -1073741824 ≤ t ∧ t ≤ 1073741824) : In64 (s * t) := by
  have h : (s * t).natAbs = s.natAbs * t.natAbs := Int.natAbs_mul s t
  have h1 : s.natAbs ≤ 1073741824 := by omega
  have h2 : t.natAbs ≤ 1073741824 := by omega
  have h3 : s.natAbs * t.natAbs ≤ 1073741824 * 1073741824 := Nat.mul_le_mul h1 h2
  unfold In64
  omega

set_option maxHeartbeats 3200000 in
theorem funOver_walk (a : Int) (ha : (Lit.int .i64 a).wf = true) (b : Int) (hb : (Lit.int .i64 b).wf = true) (w : World) :
    Calls Try.prog 6 #[.int .i64 a, .int .i64 b] w fun e w' => e = .returned (.bool true) ∧ Below w.heap.size w w' := by
  clear ha hb
  have k1 := fun w => within_any (n := a) (lo := 0) (hi := 2147483648) (w := w) (by omega) (by omega) (by omega)
  have k2 := fun w => within_any (n := b) (lo := 0) (hi := 2147483648) (w := w) (by omega) (by omega) (by omega)
  have k3 := fun w => within_any (n := a) (lo := 0) (hi := 4611686018427387904) (w := w) (by omega) (by omega) (by omega)
  have l1 := within_le (n := a) (lo := 0) (hi := 2147483648) (by omega)
  have l2 := within_le (n := b) (lo := 0) (hi := 2147483648) (by omega)
  have l3 := within_le (n := a) (lo := 0) (hi := 4611686018427387904) (by omega)
  generalize withinOf a 0 2147483648 = u at *
  generalize withinOf b 0 2147483648 = v at *
  generalize withinOf a 0 4611686018427387904 = k at *
  obtain ⟨s, hs⟩ : ∃ s, u - 1073741824 = s := ⟨_, rfl⟩
  obtain ⟨t, ht⟩ : ∃ t, v - 1073741824 = t := ⟨_, rfl⟩
  have hws : IntKind.i64.wrap (u - 1073741824) = s := by rw [hs]; exact wrap_in (by unfold In64; omega)
  have hwt : IntKind.i64.wrap (v - 1073741824) = t := by rw [ht]; exact wrap_in (by unfold In64; omega)
  have hp := prod_small (s := s) (t := t) (by omega) (by omega)
  have hsum : In64 (s + t) := by unfold In64; omega
  have is : In64 s := by unfold In64; omega
  have it : In64 t := by unfold In64; omega
  have C1 := Lib.hid (fun w => fits_is (fits_in hp) (mul_any s t is it w))
  have C2 := Lib.hid (fun w => fits_is (fits_in hsum) (add_any s t is it w))
  have hwp := wrap_in hp
  have hwq := wrap_in hsum
  have C3 := Lib.hid (fun w => fits_is (x := 9223372036854775807) (e := 0) (by rw [show 9223372036854775807 - k + k = 9223372036854775807 by omega]; decide +kernel) (add_any (9223372036854775807 - k) k (by unfold In64; omega) (by unfold In64; omega) w))
  have C4 := Lib.hid (fun w => fits_is (x := 0) (e := 3) (by rw [show 9223372036854775807 - k + (k + 1) = 9223372036854775808 by omega]; decide +kernel) (add_any (9223372036854775807 - k) (k + 1) (by unfold In64; omega) (by unfold In64; omega) w))
  have C5 := Lib.hid (fun w => fits_is (x := -9223372036854775808) (e := 0) (by rw [show -9223372036854775808 + k - k = -9223372036854775808 by omega]; decide +kernel) (sub_any (-9223372036854775808 + k) k (by unfold In64; omega) (by unfold In64; omega) w))
  have C6 := Lib.hid (fun w => fits_is (x := 0) (e := 3) (by rw [show -9223372036854775808 + k - (k + 1) = -9223372036854775809 by omega]; decide +kernel) (sub_any (-9223372036854775808 + k) (k + 1) (by unfold In64; omega) (by unfold In64; omega) w))
  have K1 := Lib.hid k1
  have K2 := Lib.hid k2
  have K3 := Lib.hid k3
  have b1 : (s * t != s * t) = false := by simp
  clear k1 k2 k3 hp hsum is it l1 l2 hs ht
  go_enter Try.func6, Try.ntmps6
  go_wp2_with fail
  refine (K1.out _).mono ?_
  rintro e w' ⟨rfl, rfl⟩
  go_wp2_with fail
  refine (K2.out _).mono ?_
  rintro e w' ⟨rfl, rfl⟩
  go_wp2_with fail
  refine (C1.out _).mono ?_
  rintro e w' ⟨rfl, rfl⟩
  go_wp2_with fail
  refine (C2.out _).mono ?_
  rintro e w' ⟨rfl, rfl⟩
  go_wp2_with fail
  refine (K3.out _).mono ?_
  rintro e w' ⟨rfl, rfl⟩
  go_wp2_with fail
  refine (C3.out _).mono ?_
  rintro e w' ⟨rfl, rfl⟩
  go_wp2_with fail
  refine (C4.out _).mono ?_
  rintro e w' ⟨rfl, rfl⟩
  go_wp2_with fail
  refine (C5.out _).mono ?_
  rintro e w' ⟨rfl, rfl⟩
  go_wp2_with fail
  refine (C6.out _).mono ?_
  rintro e w' ⟨rfl, rfl⟩
  go_wp2_with fail
  refine (fruns_any _).mono ?_
  rintro e w1 ⟨rfl, hb⟩
  have D1 := Lib.hid hb
  clear hb
  go_wp2_with fail
  go_ret
  exact ⟨rfl, D1.out⟩
end Go.Proofs.Ytjcegpakacedoaa
