/- pack.Num: behind the bytes that are handed in, in new memory, the number's bytes. -/
import Derived.Test.YtincnopaclmppaaMake
import Derived.Test.YtincnopaclmppaaMath
namespace Go.Proofs.Ytincnopaclmppaa
open Go.RowKit

/-- What the loop of Num holds: the bytes that are there already, those of the number that were put behind them, what is left of it. -/
def NumRel (w : World) (base : Nat) (l all : List UInt8) (u out : Value) (wr : World) : Prop :=
  ∃ (m n c : Nat) (A : Option Addr) (done : List UInt8), u = .int .u64 (m : Int) ∧ out = .slice A n c ∧ wr.ownsRow base 5 1 (.slice A n c) n (bv (l ++ done)) ∧ done ++ enc m = all ∧ Below base w wr

set_option maxHeartbeats 1600000 in
set_option maxRecDepth 20000 in
theorem num_any {w : World} {B n c : Nat} {A : Option Addr} {l : List UInt8} {k : Int} (h : Sl w B A n c (bv l)) (hB : B ≤ w.heap.size) (hn : n ≤ 70368744177664) (hk1 : -9223372036854775808 ≤ k) (hk2 : k ≤ 9223372036854775807) :
    Calls Try.prog 30 #[.slice A n c, .int .i64 k] w fun e w' => ∃ A' n' c', e = .returned (.slice A' n' c') ∧ w'.ownsRow w.heap.size 5 1 (.slice A' n' c') n' (bv (l ++ numB k)) ∧ Below w.heap.size w w' := by
  obtain ⟨i, hi, hz0, hz1, hz2⟩ := info_parts u8info
  have hmk := make_bytes n (n + 10) (by omega) (by omega)
  simp only [Int.natCast_add, Int.cast_ofNat_Int] at hmk
  have hob := Ob.made w 5 (List.replicate (n + 10) (Value.int .u8 0)).toArray
  have hsl : Sl (w.alloc (.cells (List.replicate (n + 10) (Value.int .u8 0)).toArray 5)) B A n c (bv l) := h.keep fun k hk => Below.heap_alloc w _ k (by omega)
  obtain ⟨w1, hcp, hob1, hz, honly⟩ := copy_all (P := Try.prog) (ty := 3) (m := n + 10) Try.underlying22 hi hz1 hob hsl (by simp) one_bv
  have hlen : l.length = n := by rw [← bv_len]; exact h.len
  have hown : w1.ownsRow w.heap.size 5 1 (.slice (some ⟨w.heap.size, 0, none⟩) n (n + 10)) n (bv (l ++ [])) := by
    refine ⟨by simp [bv_len, hlen], .inr ⟨w.heap.size, n + 10, _, rfl, Nat.le_refl _, hob1, by omega, by unfold maxLen; omega, ?_, ?_⟩⟩
    · simp [bv_len, hlen]
    · simp only [Nat.mul_one, List.append_nil]
      rw [List.take_append_of_le_length (by rw [bv_len, hlen]; omega), List.take_of_length_le (by rw [bv_len, hlen]; omega)]
  have hbel : Below w.heap.size w w1 := ((Below.refl _ w).alloc (Nat.le_refl _) _).trans (honly.below (by simp) (Nat.le_refl _))
  have hstart : NumRel w w.heap.size l (numB k) (.int .u64 (zig k : Nat)) (.slice (some ⟨w.heap.size, 0, none⟩) n (n + 10)) w1 := ⟨zig k, n, n + 10, _, [], rfl, rfl, hown, rfl, hbel⟩
  have HS := Lib.hid hstart
  have HL := Lib.hid hlen
  simp only [List.toArray_replicate] at hcp
  have hinv := i64_inv hk1 hk2
  clear h hob hsl hob1 hz honly hown hlen hbel hstart
  have hu : (k < 0 ∧ 2 * (-k - 1) + 1 = (zig k : Int)) ∨ (0 ≤ k ∧ 2 * k = (zig k : Int)) := by unfold zig; split <;> omega
  have HU := Lib.hid hu
  have H10 := Lib.hid (numB_len hk1 hk2)
  clear hu
  by_cases hneg : k < 0
  all_goals
    try (have hw1 : IntKind.u64.wrap (-k - 1) = -k - 1 := by rw [IntKind.wrap_u64]; omega)
    try (have hw2 : IntKind.u64.wrap (2 * (-k - 1)) = 2 * (-k - 1) := by rw [IntKind.wrap_u64]; omega)
    try (have hw3 : IntKind.u64.wrap (2 * (-k - 1) + 1) = 2 * (-k - 1) + 1 := by rw [IntKind.wrap_u64]; omega)
    go_enter Try.func30, Try.ntmps30
    go_wp2_with fail
    go_loopw [5, 6] (fun u out wr => NumRel w w.heap.size l (numB k) u out wr) (fun u _ _ => (intOf u).toNat)
    case atStart =>
      have e := HU.out
      first | (rw [(e.resolve_right (by omega)).2]; exact HS.out) | (rw [(e.resolve_left (by omega)).2]; exact HS.out)
    case round =>
      obtain ⟨m, n1, c1, A1, done, rfl, rfl, hown, hdone, hbel⟩ := hrel
      have HD := Lib.hid hdone
      have hl1 : n1 = l.length + done.length := by have := hown.1; simp [bv_len] at this; omega
      have hd10 : done.length + (enc m).length ≤ 10 := by rw [← List.length_append, HD.out]; exact H10.out
      have hp := enc_pos m
      have hlb : l.length = n := HL.out
      have hnb : n1 ≤ 140737488355327 := by omega
      clear hdone hl1 hd10 hp hlb
      have hm0 : 0 ≤ (m : Int) := by omega
      have hwrap : IntKind.u8.wrap (m : Int) = (m : Int) % 256 := IntKind.wrap_u8' _
      by_cases hbig : 128 ≤ m
      · have hor : bits .or .u8 ((m : Int) % 256) 128 = (m : Int) % 128 + 128 := by rw [u8_or128 (by omega) (by omega)]; omega
        obtain ⟨A2, c2, w2, hap, hown2, hbel2⟩ := append_one (P := Try.prog) (ty := 22) Try.underlying22 hi hz0 hz1 hz2 hown hnb hbel.size ((m : Int) % 128 + 128)
        have HO2 := Lib.hid hown2
        have HAP := Lib.hid hap
        clear hown hnb hown2 hap
        go_wp2_with (at_builtin; refine wpList_append_run rfl _ _ _ _ rfl rfl rfl HAP.out ?_)
        go_roundw
        case rel =>
          refine ⟨m / 128, n1 + 1, c2, A2, done ++ [UInt8.ofNat (m % 128 + 128)], by go_num, rfl, ?_, ?_, hbel.trans hbel2⟩
          · have e := HO2.out
            rw [← List.append_assoc, bv_app]
            have e2 : bv [UInt8.ofNat (m % 128 + 128)] = [.int .u8 ((m : Int) % 128 + 128)] := by
              simp only [bv, List.map_cons, List.map_nil, ofNat_toNat (show m % 128 + 128 < 256 by omega)]
              simp
            rw [e2]; exact e
          · rw [List.append_assoc, List.singleton_append, ← enc_big hbig]; exact HD.out
        case measure => simp [intOf]; omega
      · obtain ⟨A2, c2, w2, hap, hown2, hbel2⟩ := append_one (P := Try.prog) (ty := 22) Try.underlying22 hi hz0 hz1 hz2 hown hnb hbel.size ((m : Int) % 256)
        have HO2 := Lib.hid hown2
        have HAP := Lib.hid hap
        clear hown hnb hown2 hap
        go_wp2_with (at_builtin; refine wpList_append_run rfl _ _ _ _ rfl rfl rfl HAP.out ?_)
        go_ret
        refine ⟨A2, n1 + 1, c2, rfl, ?_, hbel.trans hbel2⟩
        have e := HO2.out
        rw [← HD.out, enc_small (by omega), ← List.append_assoc, bv_app]
        have e2 : bv [UInt8.ofNat m] = [.int .u8 ((m : Int) % 256)] := by
          simp only [bv, List.map_cons, List.map_nil, ofNat_toNat (show m < 256 by omega)]
          rw [show (m : Int) % 256 = (m : Int) from by omega]
        rw [e2]; exact e
end Go.Proofs.Ytincnopaclmppaa
