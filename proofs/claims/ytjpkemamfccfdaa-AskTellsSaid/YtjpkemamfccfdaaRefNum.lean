/- bailiffref1.Num and Text: behind bytes of the call's own. -/
import Derived.Test.YtjpkemamfccfdaaAskB
namespace Go.Proofs.Ytjpkemamfccfdaa
open Go.RowKit

theorem zig_ref {k : Int} (h1 : -9223372036854775808 ≤ k) (h2 : k < 0) : ∃ ku ku2 : Int, IntKind.u64.wrap k = ku ∧ IntKind.u64.wrap (ku * 2) = ku2 ∧ bits .xor .u64 IntKind.u64.max ku2 = (zig k : Int) := by
  refine ⟨k + 18446744073709551616, 2 * k + 18446744073709551616, ?_, ?_, ?_⟩
  · rw [IntKind.wrap_u64]; omega
  · rw [IntKind.wrap_u64]; omega
  · have e : IntKind.u64.max = 18446744073709551615 := by decide
    have hx : (2 * k + 18446744073709551616).toNat < 18446744073709551616 := by omega
    rw [e, u64_xor _ _ (by omega) (by omega) (by omega) (by omega)]
    have e2 : (18446744073709551615 : Int).toNat = 2 ^ 64 - 1 := by decide
    have e3 : (2 ^ 64 - 1) ^^^ (2 * k + 18446744073709551616).toNat = 2 ^ 64 - 1 - (2 * k + 18446744073709551616).toNat := by
      have := BitVec.toNat_not (x := BitVec.ofNat 64 (2 * k + 18446744073709551616).toNat)
      rw [← BitVec.allOnes_xor, BitVec.toNat_xor, BitVec.toNat_allOnes, BitVec.toNat_ofNat, Nat.mod_eq_of_lt (by omega)] at this
      omega
    rw [e2, e3]
    unfold zig; rw [if_pos h2]; omega

def RefNumRel (w : World) (base : Nat) (l all : List UInt8) (u out : Value) (wr : World) : Prop :=
  ∃ (m n c : Nat) (A : Option Addr) (done : List UInt8), u = .int .u64 (m : Int) ∧ out = .slice A n c ∧ wr.ownsRow base 5 1 (.slice A n c) n (bv (l ++ done)) ∧ done ++ enc m = all ∧ Below base w wr

set_option maxHeartbeats 1600000 in
set_option maxRecDepth 20000 in
theorem refnum_any {w : World} {base n c : Nat} {A : Option Addr} {l : List UInt8} {k : Int} (h : w.ownsRow base 5 1 (.slice A n c) n (bv l)) (hB : base ≤ w.heap.size) (hn : n ≤ 70368744177664) (hk1 : -9223372036854775808 ≤ k) (hk2 : k ≤ 9223372036854775807) :
    Calls Try.prog 51 #[.slice A n c, .int .i64 k] w fun e w' => ∃ A' n' c', e = .returned (.slice A' n' c') ∧ w'.ownsRow base 5 1 (.slice A' n' c') n' (bv (l ++ numB k)) ∧ Below base w w' := by
  obtain ⟨i, hi, hz0, hz1, hz2⟩ := info_parts u8info
  have hlen : l.length = n := by have := h.1; rw [bv_len] at this; omega
  have hstart : RefNumRel w base l (numB k) (.int .u64 (zig k : Nat)) (.slice A n c) w := ⟨zig k, n, c, _, [], rfl, rfl, by simpa using h, rfl, Below.refl _ _⟩
  have HS := Lib.hid hstart
  have HL := Lib.hid hlen
  clear h hlen hstart
  have H10 := Lib.hid (numB_len hk1 hk2)
  by_cases hneg : k < 0
  case' neg => have HU : Hid (k * 2 = (zig k : Int)) := by show _ = _; unfold zig; rw [if_neg hneg]; omega
  case' pos => obtain ⟨ku, ku2, hw1, hw2, hw3⟩ := zig_ref hk1 hneg
  all_goals
    go_enter Try.func51, Try.ntmps51
    go_wp2_with fail
    go_loopw [0, 5] (fun out u wr => RefNumRel w base l (numB k) u out wr) (fun _ u _ => (intOf u).toNat)
    case atStart =>
      first | exact HS.out | (rw [HU.out]; exact HS.out)
    case round =>
      obtain ⟨m, n1, c1, A1, done, rfl, rfl, hown, hdone, hbel⟩ := hrel
      have HD := Lib.hid hdone
      have hl1 : n1 = l.length + done.length := by have := hown.1; simp [bv_len] at this; omega
      have hd10 : done.length + (enc m).length ≤ 10 := by rw [← List.length_append, HD.out]; exact H10.out
      have hp := enc_pos m
      have hlb : l.length = n := HL.out
      have hnb : n1 ≤ 140737488355327 := by omega
      clear hdone hl1 hd10 hp hlb
      have hm0 : 0 ≤ (m : Int) := by omega
      have hwrap : IntKind.u8.wrap (m : Int) = (m : Int) % 256 := IntKind.wrap_u8' _
      by_cases hbig : 128 ≤ m
      · have hor : bits .or .u8 ((m : Int) % 256) 128 = (m : Int) % 128 + 128 := by rw [u8_or128 (by omega) (by omega)]; omega
        obtain ⟨A2, c2, w2, hap, hown2, hbel2⟩ := append_one (P := Try.prog) (ty := 61) Try.underlying61 hi hz0 hz1 hz2 hown hnb (Nat.le_trans hB hbel.size) ((m : Int) % 128 + 128)
        have HO2 := Lib.hid hown2
        have HAP := Lib.hid hap
        clear hown hnb hown2 hap
        go_wp2_with (at_builtin; refine wpList_append_run rfl _ _ _ _ rfl rfl rfl HAP.out ?_)
        go_roundw
        case rel =>
          refine ⟨m / 128, n1 + 1, c2, A2, done ++ [UInt8.ofNat (m % 128 + 128)], by go_num, rfl, ?_, ?_, hbel.trans hbel2⟩
          · have e := HO2.out
            rw [← List.append_assoc, bv_app]
            have e2 : bv [UInt8.ofNat (m % 128 + 128)] = [.int .u8 ((m : Int) % 128 + 128)] := by
              simp only [bv, List.map_cons, List.map_nil, ofNat_toNat (show m % 128 + 128 < 256 by omega)]
              simp
            rw [e2]; exact e
          · rw [List.append_assoc, List.singleton_append, ← enc_big hbig]; exact HD.out
        case measure => simp [intOf]; omega
      · obtain ⟨A2, c2, w2, hap, hown2, hbel2⟩ := append_one (P := Try.prog) (ty := 61) Try.underlying61 hi hz0 hz1 hz2 hown hnb (Nat.le_trans hB hbel.size) ((m : Int) % 256)
        have HO2 := Lib.hid hown2
        have HAP := Lib.hid hap
        clear hown hnb hown2 hap
        go_wp2_with (at_builtin; refine wpList_append_run rfl _ _ _ _ rfl rfl rfl HAP.out ?_)
        go_ret
        refine ⟨A2, n1 + 1, c2, rfl, ?_, hbel.trans hbel2⟩
        have e := HO2.out
        rw [← HD.out, enc_small (by omega), ← List.append_assoc, bv_app]
        have e2 : bv [UInt8.ofNat m] = [.int .u8 ((m : Int) % 256)] := by
          simp only [bv, List.map_cons, List.map_nil, ofNat_toNat (show m < 256 by omega)]
          rw [show (m : Int) % 256 = (m : Int) from by omega]
        rw [e2]; exact e
end Go.Proofs.Ytjpkemamfccfdaa
