/- sum.shifted and sum.joined: eight single steps of Sum, and one of Chain. -/
import Derived.Test.YtfehafeopoejgaaMem
import Derived.Test.YtfehafeopoejgaaSumMath
import Derived.IntWalk
namespace Go.Proofs.Ytfehafeopoejgaa
open Go.RowKit

theorem step_odd {s : BitVec 32} (h : s.getLsbD 0 = true) : (crcStep s).toNat = s.toNat / 2 ^^^ 3988292384 := by
  unfold crcStep
  rw [if_pos h, BitVec.toNat_xor, BitVec.toNat_ushiftRight, Nat.shiftRight_eq_div_pow]
  rfl
theorem step_even {s : BitVec 32} (h : s.getLsbD 0 = false) : (crcStep s).toNat = s.toNat / 2 := by
  unfold crcStep
  rw [if_neg (by rw [h]; simp), BitVec.toNat_ushiftRight, Nat.shiftRight_eq_div_pow]
theorem low_bit (s : BitVec 32) : (s.toNat % 2 = 1 ↔ s.getLsbD 0 = true) := by
  rw [BitVec.getLsbD, Nat.testBit_zero]; simp

/-- What the steps come to, as a value. -/
def sv (s : BitVec 32) : Value := .int .u32 (s.toNat : Int)

/-- Go's words of one step, under the names that the walk gives them. -/
structure StepIs (s : BitVec 32) (n : Int) (odd : Bool) (m : Int) : Prop where
  low : bits .and .u32 n 1 = if odd then 1 else 0
  out : m = ((crcStep s).toNat : Int)
  tur : odd = true → bits .xor .u32 (n / 2) 3988292384 = m
  evn : odd = false → n / 2 = m
theorem step_is (s : BitVec 32) : StepIs s (s.toNat : Int) (s.getLsbD 0) ((crcStep s).toNat : Int) := by
  have hlt := s.isLt
  refine ⟨?_, rfl, fun h => ?_, fun h => ?_⟩
  · have := u32_and_nat s.toNat 1 (by omega) (by omega)
    have e : ((1 : Nat) : Int) = 1 := rfl
    rw [e] at this
    rw [this, nat_mask1]
    have hb := low_bit s
    cases h : s.getLsbD 0 with
    | true => rw [hb.2 h]; rfl
    | false =>
      have : s.toNat % 2 = 0 := by
        rcases Nat.mod_two_eq_zero_or_one s.toNat with h0 | h1
        · exact h0
        · rw [hb.1 h1] at h; cases h
      rw [this]; rfl
  · rw [step_odd h]
    have := u32_xor_nat (s.toNat / 2) 3988292384 (by omega) (by omega)
    have e : ((3988292384 : Nat) : Int) = 3988292384 := rfl
    rw [e, Int.natCast_ediv] at this
    exact this
  · rw [step_even h, Int.natCast_ediv]; rfl

set_option maxHeartbeats 800000 in
theorem shifted_any (s : BitVec 32) (w : World) :
    Calls Try.prog 15 #[sv s] w fun e w' => e = .returned (sv (crcSteps 8 s)) ∧ w = w' := by
  unfold sv
  go_enter Try.func15, Try.ntmps15
  go_wp2_with fail
  go_loop [0, 4] (fun u i => ∃ k : Nat, k ≤ 8 ∧ i = .int .i64 (k : Int) ∧ u = sv (crcSteps k s)) (fun _ i => 8 - (intOf i).toNat)
  case atStart => exact ⟨0, by omega, rfl, rfl⟩
  case round =>
    obtain ⟨k, hk, rfl, rfl⟩ := hrel
    have hlt32 := (crcSteps k s).isLt
    have hlt33 := (crcStep (crcSteps k s)).isLt
    by_cases hlt : k < 8
    · obtain ⟨h1, h2, h3, h4⟩ := step_is (crcSteps k s)
      have H2 : Hid (crcSteps (k + 1) s = crcStep (crcSteps k s)) := rfl
      clear h2
      unfold sv
      generalize crcStep (crcSteps k s) = y at *
      generalize (crcSteps k s).toNat = n at *
      have HY := Lib.hid hlt33
      clear hlt33
      cases hb : (crcSteps k s).getLsbD 0 with
      | true =>
        have h5 := h3 hb
        rw [hb, if_pos rfl] at h1
        clear h3 h4 hb
        have h6 : (bits .and .u32 (n : Int) 1 == 1) = true := by rw [h1]; rfl
        clear h1
        go_wp2_with fail
        go_round
        case rel => exact ⟨k + 1, by omega, by go_num, by rw [H2.out]⟩
        case measure => simp [intOf]; omega
      | false =>
        have h5 := h4 hb
        rw [hb, if_neg (by simp)] at h1
        clear h3 h4 hb
        have h6 : (bits .and .u32 (n : Int) 1 == 1) = false := by rw [h1]; rfl
        clear h1
        go_wp2_with fail
        go_round
        case rel => exact ⟨k + 1, by omega, by go_num, by rw [H2.out]⟩
        case measure => simp [intOf]; omega
    · obtain rfl : k = 8 := by omega
      go_wp2_with fail
      go_ret
      exact ⟨rfl, rfl⟩

/-- A number of the chain, as a value. -/
def hv (h : Nat) : Value := .int .u64 (h : Int)
theorem ch_xor {h c : Nat} (hh : h < 18446744073709551616) (hc : c < 256) : bits .xor .u64 (h : Int) (c : Int) = ((h ^^^ c : Nat) : Int) := u64_xor_nat h c hh (by omega)
theorem ch_mul (h c : Nat) : IntKind.u64.wrap (((h ^^^ c : Nat) : Int) * 1099511628211) = (chStep h c : Int) := by
  rw [IntKind.wrap_u64]
  unfold chStep chTimes
  rw [Int.natCast_emod, Int.natCast_mul]
  rfl

set_option maxHeartbeats 800000 in
theorem joined_any {h c : Nat} (hh : h < 18446744073709551616) (hc : c < 256) (w : World) :
    Calls Try.prog 16 #[hv h, .int .u8 (c : Int)] w fun e w' => e = .returned (hv (chStep h c)) ∧ w = w' := by
  have h1 := ch_xor hh hc
  have h2 := ch_mul h c
  unfold hv
  go_enter Try.func16, Try.ntmps16
  go_wp2_with fail
  go_ret
  exact ⟨rfl, rfl⟩
end Go.Proofs.Ytfehafeopoejgaa
