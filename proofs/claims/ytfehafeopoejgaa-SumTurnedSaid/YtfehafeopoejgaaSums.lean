/- sum.Sum and sum.Chain, and the document's own: what they come to over any bytes. -/
import Derived.Test.YtfehafeopoejgaaShift
namespace Go.Proofs.Ytfehafeopoejgaa
open Go.RowKit

theorem take_snoc {l : List UInt8} {k : Nat} (h : k < l.length) : l.take (k + 1) = l.take k ++ [l[k]] := List.take_succ_eq_append_getElem h

theorem crc_in (s : BitVec 32) (c : UInt8) : bits .xor .u32 (s.toNat : Int) (c.toNat : Int) = ((s ^^^ wide c).toNat : Int) := by
  have hc := c.toNat_lt
  rw [u32_xor_nat _ _ s.isLt (by omega), BitVec.toNat_xor, wide_nat]
theorem crc_not (s : BitVec 32) : bits .xor .u32 IntKind.u32.max (s.toNat : Int) = ((~~~s).toNat : Int) := by
  have := u32_xor_nat 4294967295 s.toNat (by omega) s.isLt
  have e : ((4294967295 : Nat) : Int) = IntKind.u32.max := by decide
  rw [e] at this
  rw [this, ← BitVec.allOnes_xor, BitVec.toNat_xor, BitVec.toNat_allOnes]

theorem crc_end (l : List UInt8) : ∃ r : Nat, Hid (r = (crcOf l).toNat) ∧ bits .xor .u32 IntKind.u32.max ((crcFold crcStart l).toNat : Int) = (r : Int) := ⟨_, rfl, crc_not _⟩

theorem hv_start (p : Nat) : Value.int .u64 14695981039346656037 = hv (chHead p 0) := by
  unfold hv; rw [chHead_zero]; rfl

set_option maxHeartbeats 800000 in
theorem sum_any {w : World} {B n c : Nat} {A : Option Addr} {l : List UInt8} (h : Sl w B A n c (bv l)) :
    Calls Try.prog 8 #[.slice A n c] w fun e w' => e = .returned (sv (crcOf l)) ∧ w = w' := by
  have hl : l.length = n := by rw [← bv_len]; exact h.len
  have hcap := h.cap
  have hle := h.le
  unfold maxLen at hcap
  have H := Lib.hid h
  have HL := Lib.hid hl
  clear h hl
  go_enter Try.func8, Try.ntmps8
  go_wp2_with fail
  go_loop [3, 8] (fun u i => ∃ k : Nat, k ≤ n ∧ i = .int .i64 (k : Int) ∧ u = sv (crcFold crcStart (l.take k))) (fun _ i => n - (intOf i).toNat)
  case atStart => exact ⟨0, Nat.zero_le _, rfl, rfl⟩
  case round =>
    obtain ⟨k, hk, rfl, rfl⟩ := hrel
    by_cases hlt : k < n
    · obtain ⟨b, o, rfl, _, hkl, hc⟩ := H.out.byte hlt
      have hx := crc_in (crcFold crcStart (l.take k)) l[k]
      have hcb := l[k].toNat_lt
      have hs : crcFold crcStart (l.take (k + 1)) = crcSteps 8 (crcFold crcStart (l.take k) ^^^ wide l[k]) := by rw [take_snoc hkl, crcFold_snoc]; rfl
      have HS := Lib.hid hs
      clear hs
      have C := shifted_any (crcFold crcStart (l.take k) ^^^ wide l[k]) w
      generalize crcFold crcStart (l.take k) = x at *
      generalize x ^^^ wide l[k] = y at *
      have HC := Lib.hid C
      clear C
      unfold sv at *
      go_wp2_with fail
      refine HC.out.mono ?_
      rintro e w' ⟨rfl, rfl⟩
      go_wp2_with fail
      go_round
      case rel => exact ⟨k + 1, by omega, by go_num, by rw [HS.out]⟩
      case measure => simp [intOf]; omega
    · obtain rfl : k = n := by omega
      have hs : l.take k = l := List.take_of_length_le (by rw [HL.out]; omega)
      rw [hs]
      clear hs
      obtain ⟨r, HR, hx⟩ := crc_end l
      generalize (crcFold crcStart l) = x at *
      unfold sv
      go_wp2_with fail
      go_ret
      exact ⟨by rw [HR.out]; rfl, rfl⟩

set_option maxHeartbeats 800000 in
theorem refsum_any {w : World} {B n c : Nat} {A : Option Addr} {l : List UInt8} (h : Sl w B A n c (bv l)) :
    Calls Try.prog 10 #[.slice A n c] w fun e w' => e = .returned (sv (crcOf l)) ∧ w = w' := by
  have hl : l.length = n := by rw [← bv_len]; exact h.len
  have hcap := h.cap
  have hle := h.le
  unfold maxLen at hcap
  have H := Lib.hid h
  have HL := Lib.hid hl
  clear h hl
  go_enter Try.func10, Try.ntmps10
  go_wp2_with fail
  go_loop [3, 9] (fun u i => ∃ k : Nat, k ≤ n ∧ i = .int .i64 (k : Int) ∧ u = sv (crcFold crcStart (l.take k))) (fun _ i => n - (intOf i).toNat)
  case atStart => exact ⟨0, Nat.zero_le _, rfl, rfl⟩
  case round =>
    obtain ⟨k, hk, rfl, rfl⟩ := hrel
    by_cases hlt : k < n
    · obtain ⟨b, o, rfl, _, hkl, hc⟩ := H.out.byte hlt
      have hx := crc_in (crcFold crcStart (l.take k)) l[k]
      have hcb := l[k].toNat_lt
      have hs : crcFold crcStart (l.take (k + 1)) = crcSteps 8 (crcFold crcStart (l.take k) ^^^ wide l[k]) := by rw [take_snoc hkl, crcFold_snoc]; rfl
      have HS := Lib.hid hs
      clear hs
      generalize crcFold crcStart (l.take k) = x at *
      generalize x ^^^ wide l[k] = y at *
      unfold sv
      go_wp2_with fail
      clear hx
      go_loop [3, 6] (fun u i => ∃ j : Nat, j ≤ 8 ∧ i = .int .i64 (j : Int) ∧ u = sv (crcSteps j y)) (fun _ i => 8 - (intOf i).toNat)
      case atStart => exact ⟨0, by omega, rfl, rfl⟩
      case round =>
        obtain ⟨j, hj, rfl, rfl⟩ := hrel
        have hlt32 := (crcSteps j y).isLt
        have hlt33 := (crcStep (crcSteps j y)).isLt
        by_cases hlt8 : j < 8
        · obtain ⟨h1, h2, h3, h4⟩ := step_is (crcSteps j y)
          have H2 : Hid (crcSteps (j + 1) y = crcStep (crcSteps j y)) := rfl
          clear h2
          unfold sv
          generalize crcStep (crcSteps j y) = z at *
          generalize (crcSteps j y).toNat = m at *
          have HY := Lib.hid hlt33
          clear hlt33
          cases hb : (crcSteps j y).getLsbD 0 with
          | true =>
            have h5 := h3 hb
            rw [hb, if_pos rfl] at h1
            clear h3 h4 hb
            have h6 : (bits .and .u32 (m : Int) 1 == 1) = true := by rw [h1]; rfl
            clear h1
            go_wp2_with fail
            go_round
            case rel => exact ⟨j + 1, by omega, by go_num, by rw [H2.out]⟩
            case measure => simp [intOf]; omega
          | false =>
            have h5 := h4 hb
            rw [hb, if_neg (by simp)] at h1
            clear h3 h4 hb
            have h6 : (bits .and .u32 (m : Int) 1 == 1) = false := by rw [h1]; rfl
            clear h1
            go_wp2_with fail
            go_round
            case rel => exact ⟨j + 1, by omega, by go_num, by rw [H2.out]⟩
            case measure => simp [intOf]; omega
        · obtain rfl : j = 8 := by omega
          unfold sv
          go_wp2_with fail
          go_round
          case rel => exact ⟨k + 1, by omega, by go_num, by rw [HS.out]⟩
          case measure => simp [intOf]; omega
    · obtain rfl : k = n := by omega
      have hs : l.take k = l := List.take_of_length_le (by rw [HL.out]; omega)
      rw [hs]
      clear hs
      obtain ⟨r, HR, hx⟩ := crc_end l
      generalize (crcFold crcStart l) = x at *
      unfold sv
      go_wp2_with fail
      go_ret
      exact ⟨by rw [HR.out]; rfl, rfl⟩

theorem chOf_def (p : Nat) (l : List UInt8) : chOf p l = chFold (chHead p 8) l := by unfold chOf; exact Eq.refl _

theorem hv_zero (h : Nat) (l : List UInt8) : Value.int .u64 (h : Int) = hv (chFold h (l.take 0)) := by
  unfold hv; rw [List.take_zero, chFold_nil]

theorem ch_byte {p : Nat} (hp : p < 18446744073709551616) (k : Nat) : bits .and .u64 ((p : Int) / 2 ^ (8 * k)) 255 = (chByte p k : Int) := by
  have e : (p : Int) / 2 ^ (8 * k) = ((p / 256 ^ k : Nat) : Int) := by
    rw [Int.natCast_ediv, Int.natCast_pow, show ((256 : Nat) : Int) = 2 ^ 8 from rfl, ← Int.pow_mul]
  have h := u64_and_nat (p / 256 ^ k) 255 (Nat.lt_of_le_of_lt (Nat.div_le_self _ _) hp) (by omega)
  rw [show ((255 : Nat) : Int) = 255 from rfl] at h
  rw [e, h, nat_mask8]
  rfl

theorem pow_div (p k : Nat) : p / 256 ^ (k + 1) = p / 256 ^ k / 256 := by rw [Nat.pow_succ, Nat.div_div_eq_div_mul]

set_option maxHeartbeats 800000 in
theorem chain_any {w : World} {B n c p : Nat} {A : Option Addr} {l : List UInt8} (hp : p < 18446744073709551616) (h : Sl w B A n c (bv l)) :
    Calls Try.prog 11 #[hv p, .slice A n c] w fun e w' => e = .returned (hv (chOf p l)) ∧ w = w' := by
  have hl : l.length = n := by rw [← bv_len]; exact h.len
  have hcap := h.cap
  have hle := h.le
  unfold maxLen at hcap
  have H := Lib.hid h
  have HL := Lib.hid hl
  clear h hl
  unfold hv
  go_enter Try.func11, Try.ntmps11
  go_wp2_with fail
  go_loop [0, 5, 8] (fun q u i => ∃ k : Nat, k ≤ 8 ∧ i = .int .i64 (k : Int) ∧ q = hv (p / 256 ^ k) ∧ u = hv (chHead p k)) (fun _ _ i => 8 - (intOf i).toNat)
  case atStart => exact ⟨0, Nat.zero_le _, rfl, by simp [hv], hv_start p⟩
  case round =>
    obtain ⟨k, hk, rfl, rfl, rfl⟩ := hrel
    by_cases hlt : k < 8
    · have C := joined_any (chHead_lt p k) (c := chByte p k) (by unfold chByte; omega) w
      have h1 : IntKind.u8.wrap ((p / 256 ^ k : Nat) : Int) = (chByte p k : Int) := by rw [IntKind.wrap_u8']; unfold chByte; omega
      have h2 : ((p / 256 ^ k : Nat) : Int) / 256 = ((p / 256 ^ (k + 1) : Nat) : Int) := by rw [pow_div]; omega
      have hq : p / 256 ^ k < 18446744073709551616 := Nat.lt_of_le_of_lt (Nat.div_le_self _ _) hp
      have HS : Hid (chHead p (k + 1) = chStep (chHead p k) (chByte p k)) := chHead_succ p k
      have HC := Lib.hid C
      clear C
      generalize p / 256 ^ k = q at *
      generalize chByte p k = y at *
      generalize chHead p k = x at *
      unfold hv at *
      go_wp2_with fail
      refine HC.out.mono ?_
      rintro e w' ⟨rfl, rfl⟩
      go_wp2_with fail
      go_round
      case rel => exact ⟨k + 1, by omega, by go_num, rfl, by rw [HS.out]⟩
      case measure => simp [intOf]; omega
    · obtain rfl : k = 8 := by omega
      unfold hv
      go_wp2_with fail
      go_loop [5, 19] (fun u i => ∃ k : Nat, k ≤ n ∧ i = .int .i64 (k : Int) ∧ u = hv (chFold (chHead p 8) (l.take k))) (fun _ i => n - (intOf i).toNat)
      case atStart => exact ⟨0, Nat.zero_le _, rfl, hv_zero _ _⟩
      case round =>
        obtain ⟨k, hk, rfl, rfl⟩ := hrel
        by_cases hlt : k < n
        · obtain ⟨b, o, rfl, _, hkl, hc⟩ := H.out.byte hlt
          have C := joined_any (chFold_lt (chHead_lt p 8) (l.take k)) (c := l[k].toNat) l[k].toNat_lt w
          have hcb := l[k].toNat_lt
          have hs : chFold (chHead p 8) (l.take (k + 1)) = chStep (chFold (chHead p 8) (l.take k)) l[k].toNat := by rw [take_snoc hkl, chFold_snoc]
          have HS := Lib.hid hs
          have HC := Lib.hid C
          clear C hs
          generalize chFold (chHead p 8) (l.take k) = x at *
          unfold hv at *
          go_wp2_with fail
          refine HC.out.mono ?_
          rintro e w' ⟨rfl, rfl⟩
          go_wp2_with fail
          go_round
          case rel => exact ⟨k + 1, by omega, by go_num, by rw [HS.out]⟩
          case measure => simp [intOf]; omega
        · obtain rfl : k = n := by omega
          have hs : l.take k = l := List.take_of_length_le (by rw [HL.out]; omega)
          have HS := Lib.hid hs
          clear hs
          unfold hv
          go_wp2_with fail
          go_ret
          exact ⟨by rw [HS.out, ← chOf_def]; rfl, rfl⟩

set_option maxHeartbeats 800000 in
theorem refchain_any {w : World} {B n c p : Nat} {A : Option Addr} {l : List UInt8} (hp : p < 18446744073709551616) (h : Sl w B A n c (bv l)) :
    Calls Try.prog 12 #[hv p, .slice A n c] w fun e w' => e = .returned (hv (chOf p l)) ∧ w = w' := by
  have hl : l.length = n := by rw [← bv_len]; exact h.len
  have hcap := h.cap
  have hle := h.le
  unfold maxLen at hcap
  have H := Lib.hid h
  have HL := Lib.hid hl
  clear h hl
  unfold hv
  go_enter Try.func12, Try.ntmps12
  go_wp2_with fail
  go_loop [5, 6] (fun u i => ∃ k : Nat, k ≤ 8 ∧ i = .int .i64 (k : Int) ∧ u = hv (chHead p k)) (fun _ i => 8 - (intOf i).toNat)
  case atStart => exact ⟨0, Nat.zero_le _, rfl, hv_start p⟩
  case round =>
    obtain ⟨k, hk, rfl, rfl⟩ := hrel
    by_cases hlt : k < 8
    · have h1 := ch_xor (chHead_lt p k) (c := chByte p k) (by unfold chByte; omega)
      have h2 := ch_mul (chHead p k) (chByte p k)
      have HS : Hid (chHead p (k + 1) = chStep (chHead p k) (chByte p k)) := chHead_succ p k
      have h3 : IntKind.i64.wrap (8 * (k : Int)) = 8 * (k : Int) := IntWalk.i64_in _ (by omega)
      have h4 := ch_byte hp k
      generalize chByte p k = y at *
      generalize chHead p k = x at *
      unfold hv
      go_wp2_with fail
      go_round
      case rel => exact ⟨k + 1, by omega, by go_num, by rw [HS.out]⟩
      case measure => simp [intOf]; omega
    · obtain rfl : k = 8 := by omega
      unfold hv
      go_wp2_with fail
      go_loop [5, 23] (fun u i => ∃ k : Nat, k ≤ n ∧ i = .int .i64 (k : Int) ∧ u = hv (chFold (chHead p 8) (l.take k))) (fun _ i => n - (intOf i).toNat)
      case atStart => exact ⟨0, Nat.zero_le _, rfl, hv_zero _ _⟩
      case round =>
        obtain ⟨k, hk, rfl, rfl⟩ := hrel
        by_cases hlt : k < n
        · obtain ⟨b, o, rfl, _, hkl, hc⟩ := H.out.byte hlt
          have h1 := ch_xor (chFold_lt (chHead_lt p 8) (l.take k)) (c := l[k].toNat) l[k].toNat_lt
          have h2 := ch_mul (chFold (chHead p 8) (l.take k)) l[k].toNat
          have hcb := l[k].toNat_lt
          have hs : chFold (chHead p 8) (l.take (k + 1)) = chStep (chFold (chHead p 8) (l.take k)) l[k].toNat := by rw [take_snoc hkl, chFold_snoc]
          have HS := Lib.hid hs
          clear hs
          generalize chFold (chHead p 8) (l.take k) = x at *
          unfold hv
          go_wp2_with fail
          go_round
          case rel => exact ⟨k + 1, by omega, by go_num, by rw [HS.out]⟩
          case measure => simp [intOf]; omega
        · obtain rfl : k = n := by omega
          have hs : l.take k = l := List.take_of_length_le (by rw [HL.out]; omega)
          have HS := Lib.hid hs
          clear hs
          unfold hv
          go_wp2_with fail
          go_ret
          exact ⟨by rw [HS.out, ← chOf_def]; rfl, rfl⟩
end Go.Proofs.Ytfehafeopoejgaa
