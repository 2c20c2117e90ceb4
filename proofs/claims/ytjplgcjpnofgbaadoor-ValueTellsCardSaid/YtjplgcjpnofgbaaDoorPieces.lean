/- pack's pieces: what a row of bytes begins with, as dec tells it. -/
import Derived.Test.YtjplgcjpnofgbaaDoorText
namespace Go.Proofs.YtjplgcjpnofgbaaDoor
open Go.RowKit

/-- What pieces answers: nought and nought where dec finds nothing. -/
def pcs (l : List UInt8) : Nat × Nat := (dec 0 0 l).getD (0, 0)

theorem pow7 (k : Nat) : (2 : Nat) ^ (7 * k) = 128 ^ k := by rw [Nat.pow_mul]

theorem or_shift {m bb k : Nat} (hm : m < 128 ^ k) (h : k < 9 ∨ (k = 9 ∧ bb % 128 ≤ 1)) :
    bits .or .u64 (m : Int) (IntKind.u64.wrap ((bb : Int) % 128 * 2 ^ (7 * k))) = ((m + bb % 128 * 128 ^ k : Nat) : Int) := by
  have hlt : bb % 128 * 128 ^ k < 18446744073709551616 ∧ (128 : Nat) ^ k ≤ 9223372036854775808 := by
    rcases h with h | ⟨rfl, h⟩
    · have h2 : (128 : Nat) ^ k ≤ 128 ^ 8 := Nat.pow_le_pow_right (by omega) (by omega)
      have e8 : (128 : Nat) ^ 8 = 72057594037927936 := by decide
      have h1 : bb % 128 * 128 ^ k ≤ 127 * 128 ^ k := Nat.mul_le_mul_right _ (by omega)
      omega
    · have e9 : (128 : Nat) ^ 9 = 9223372036854775808 := by decide
      rw [e9]
      have h1 : bb % 128 * 9223372036854775808 ≤ 1 * 9223372036854775808 := Nat.mul_le_mul_right _ h
      omega
  have e : ((bb : Int) % 128 * 2 ^ (7 * k)) = ((bb % 128 * 128 ^ k : Nat) : Int) := by
    rw [← pow7]; simp
  rw [e, IntKind.wrap_u64, Int.emod_eq_of_lt (by omega) (by omega), u64_or_nat _ _ (by omega) hlt.1]
  congr 1
  rw [Nat.or_comm, Nat.add_comm, ← pow7]
  refine nat_join (7 * k) _ _ (by simp) (by rw [pow7]; exact hm)

def PcRel (l : List UInt8) (u i : Value) : Prop :=
  ∃ (k m : Nat) (x : Int), i = .int .i64 (k : Int) ∧ u = .int .u64 x ∧ k ≤ 10 ∧ k ≤ l.length ∧ (k < 10 → x = (m : Int) ∧ m < 128 ^ k) ∧ dec 0 0 l = dec k m (l.drop k)

theorem pc_step {l : List UInt8} {k m bb : Nat} {y : Int} (hk : k < 10) (hl : k < l.length) (hb : l[k].toNat = bb) (hbig : 128 ≤ bb) (hm : m < 128 ^ k) (hd : dec 0 0 l = dec k m (l.drop k))
    (hy : k < 9 → y = ((m + bb % 128 * 128 ^ k : Nat) : Int)) : PcRel l (.int .u64 y) (.int .i64 ((k : Int) + 1)) := by
  refine ⟨k + 1, m + (bb - 128) * 128 ^ k, y, by go_num, rfl, by omega, by omega, fun h => ?_, ?_⟩
  · have := l[k].toNat_lt
    rw [hy (by omega), show bb % 128 = bb - 128 from by omega]
    refine ⟨rfl, ?_⟩
    have h1 : (bb - 128) * 128 ^ k ≤ 127 * 128 ^ k := Nat.mul_le_mul_right _ (by omega)
    rw [Nat.pow_succ]; omega
  · rw [hd, List.drop_eq_getElem_cons hl]
    simp only [dec, hb]
    rw [if_neg (by omega), if_pos hbig]

theorem pc_good {l : List UInt8} {k m bb : Nat} (hk : k < 10) (hl : k < l.length) (hb : l[k].toNat = bb) (hbig : bb < 128) (hd : dec 0 0 l = dec k m (l.drop k))
    (h1 : ¬((0 < k ∧ bb = 0) ∨ (k = 9 ∧ 1 < bb))) : pcs l = (m + bb % 128 * 128 ^ k, k + 1) := by
  unfold pcs
  rw [hd, List.drop_eq_getElem_cons hl]
  simp only [dec, hb]
  rw [if_neg (by omega), if_neg (by omega), if_neg h1, show bb % 128 = bb from by omega]
  rfl
theorem pc_bad {l : List UInt8} {k m bb : Nat} (hk : k < 10) (hl : k < l.length) (hb : l[k].toNat = bb) (hbig : bb < 128) (hd : dec 0 0 l = dec k m (l.drop k))
    (h1 : (0 < k ∧ bb = 0) ∨ (k = 9 ∧ 1 < bb)) : pcs l = (0, 0) := by
  unfold pcs
  rw [hd, List.drop_eq_getElem_cons hl]
  simp only [dec, hb]
  rw [if_neg (by omega), if_neg (by omega), if_pos h1]
  rfl
theorem ret_pcs {l : List UInt8} {a b : Nat} (h : pcs l = (a, b)) : Ending.returned (.tuple #[.int .u64 (a : Int), .int .i64 (b : Int)]) = .returned (.tuple #[.int .u64 ((pcs l).1 : Int), .int .i64 ((pcs l).2 : Int)]) := by rw [h]

set_option maxHeartbeats 3200000 in
set_option maxRecDepth 20000 in
theorem pieces_any {w : World} {B n c : Nat} {A : Option Addr} {l : List UInt8} (h : Sl w B A n c (bv l)) :
    Calls Tryd.prog 59 #[.slice A n c] w fun e w' => e = .returned (.tuple #[.int .u64 ((pcs l).1 : Int), .int .i64 ((pcs l).2 : Int)]) ∧ w = w' := by
  have hlen := h.len
  have hcap := h.cap
  have hle := h.le
  unfold maxLen at hcap
  rw [bv_len] at hlen
  have H := Lib.hid h
  have HL := Lib.hid hlen
  clear h hlen
  go_enter Tryd.func59, Tryd.ntmps59
  go_wp2_with fail
  go_loop [4, 5] (fun u i => PcRel l u i) (fun _ i => 10 - (intOf i).toNat)
  case atStart => exact ⟨0, 0, 0, rfl, rfl, by omega, by omega, fun _ => ⟨rfl, by simp⟩, rfl⟩
  case round =>
    obtain ⟨k, m, x, rfl, rfl, hk10, hkl, hx, hdec⟩ := hrel
    have HX := Lib.hid hx
    have HD := Lib.hid hdec
    clear hx hdec
    have HKL := Lib.hid hkl
    clear hkl
    by_cases hlt : k < n
    · by_cases h10 : k < 10
      · obtain ⟨hxm, hm⟩ := HX.out h10
        subst hxm
        obtain ⟨b, o, rfl, _, hl, hc⟩ := H.out.byte hlt
        have hb := l[k].toNat_lt
        generalize hbb : l[k].toNat = bb at *
        have HB := Lib.hid hbb
        have HM := Lib.hid hm
        clear hbb hm
        have hand : bits .and .u8 (bb : Int) 127 = (bb : Int) % 128 := by rw [u8_and127 (by omega) (by omega)]
        obtain ⟨y, hor, hy⟩ : ∃ y : Int, bits .or .u64 (m : Int) (IntKind.u64.wrap ((bb : Int) % 128 * 2 ^ (7 * k))) = y ∧ ((k < 9 ∨ (k = 9 ∧ bb % 128 ≤ 1)) → y = ((m + bb % 128 * 128 ^ k : Nat) : Int)) :=
          ⟨_, rfl, fun h => or_shift HM.out h⟩
        have HY := Lib.hid hy
        clear hy
        by_cases hbig : 128 ≤ bb
        · go_wp2_with fail
          go_round
          case rel => exact pc_step h10 hl HB.out hbig HM.out HD.out (fun h => HY.out (.inl h))
          case measure => simp [intOf]; omega
        · by_cases hk0 : k = 0
          · have hk0' : ¬ 0 < k := by omega
            have hk9' : ((k : Int) == 9) = false := by rw [beq_eq_false_iff_ne]; omega
            have HK := Lib.hid hk0
            clear hk0
            go_wp2_with fail
            go_ret2
            refine ⟨?_, rfl⟩
            rw [HY.out (by first | omega | (have := HK.out; omega))]
            exact ret_pcs (b := k + 1) (pc_good h10 hl HB.out (by omega) HD.out (by first | omega | (have := HK.out; omega)))
          · have hk0' : 0 < k := by omega
            by_cases hb0 : bb = 0
            · subst hb0
              by_cases hk9 : k = 9
              · have hk9' : ((k : Int) == 9) = true := by rw [beq_iff_eq]; omega
                have HK := Lib.hid hk9
                clear hk9
                go_wp2_with fail
                all_goals go_ret2
                all_goals exact ⟨ret_pcs (a := 0) (b := 0) (pc_bad h10 hl HB.out (by omega) HD.out (by first | omega | (have := HK.out; omega))), rfl⟩
              · have hk9' : ((k : Int) == 9) = false := by rw [beq_eq_false_iff_ne]; omega
                go_wp2_with fail
                go_ret2
                exact ⟨ret_pcs (a := 0) (b := 0) (pc_bad h10 hl HB.out (by omega) HD.out (by first | omega | (have := HK.out; omega))), rfl⟩
            · have hb0' : ((bb : Int) == 0) = false := by rw [beq_eq_false_iff_ne]; omega
              by_cases hk9 : k = 9
              · have hk9' : ((k : Int) == 9) = true := by rw [beq_iff_eq]; omega
                have HK := Lib.hid hk9
                clear hk9
                by_cases hb1 : 1 < bb
                · go_wp2_with fail
                  go_ret2
                  exact ⟨ret_pcs (a := 0) (b := 0) (pc_bad h10 hl HB.out (by omega) HD.out (by first | omega | (have := HK.out; omega))), rfl⟩
                · go_wp2_with fail
                  go_ret2
                  refine ⟨?_, rfl⟩
                  rw [HY.out (by first | omega | (have := HK.out; omega))]
                  exact ret_pcs (b := k + 1) (pc_good h10 hl HB.out (by omega) HD.out (by first | omega | (have := HK.out; omega)))
              · have hk9' : ((k : Int) == 9) = false := by rw [beq_eq_false_iff_ne]; omega
                go_wp2_with fail
                go_ret2
                refine ⟨?_, rfl⟩
                rw [HY.out (by first | omega | (have := HK.out; omega))]
                exact ret_pcs (b := k + 1) (pc_good h10 hl HB.out (by omega) HD.out (by first | omega | (have := HK.out; omega)))
      · go_wp2_with fail
        go_ret2
        exact ⟨ret_pcs (a := 0) (b := 0) (by unfold pcs; rw [HD.out, dec_none_le (by omega)]; rfl), rfl⟩
    · go_wp2_with fail
      go_ret2
      exact ⟨ret_pcs (a := 0) (b := 0) (by unfold pcs; rw [HD.out, List.drop_of_length_le (by have := HL.out; omega)]; rfl), rfl⟩
end Go.Proofs.YtjplgcjpnofgbaaDoor
