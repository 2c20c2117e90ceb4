/- The reference's quoted. -/
import Derived.Test.YtpedfkigneahgaaLexRefN
import Derived.Test.YtpedfkigneahgaaLexText
namespace Go.Proofs.Ytpedfkigneahgaa
set_option linter.unusedVariables false
open Go.RowKit

/-- quoted's answer. -/
def RQuoP (l : List UInt8) (a : Nat) (w : World) (e : Ending) (w' : World) : Prop := ∃ (e' : Int) (x : ByteArray) (ok : Bool), e = .returned (.tuple #[.int .i64 e', .string x, .bool ok]) ∧ ok = (txtR (l.drop (a + 1))).isSome ∧ (∀ m j, txtR (l.drop (a + 1)) = some (m, j) → x = ⟨m.toArray⟩ ∧ e' = ((a + 1 + j : Nat) : Int)) ∧ Below w.heap.size w w'
theorem rquo_none {l : List UInt8} {a : Nat} {w w' : World} {e' : Int} {x : ByteArray} (h : txtR (l.drop (a + 1)) = none) (hb : Below w.heap.size w w') : RQuoP l a w (.returned (.tuple #[.int .i64 e', .string x, .bool false])) w' :=
  ⟨e', x, false, rfl, by rw [h]; rfl, (fun m j hh => by rw [h] at hh; cases hh), hb⟩
theorem rquo_some {l : List UInt8} {a j : Nat} {m : List UInt8} {w w' : World} {e' : Int} {x : ByteArray} (h : txtR (l.drop (a + 1)) = some (m, j)) (hx : x = ⟨m.toArray⟩) (he : e' = ((a + 1 + j : Nat) : Int)) (hb : Below w.heap.size w w') : RQuoP l a w (.returned (.tuple #[.int .i64 e', .string x, .bool true])) w' :=
  ⟨e', x, true, rfl, by rw [h]; rfl, (fun m' j' hh => by rw [h] at hh; cases hh; exact ⟨hx, he⟩), hb⟩

def RQRel (w : World) (l : List UInt8) (a n : Nat) (i o : Value) (wr : World) : Prop :=
  ∃ (k : Nat) (m : List UInt8) (x : ByteArray), k ≤ n ∧ i = .int .i64 (k : Int) ∧ o = .string x ∧ x.data.toList = m ∧ Below w.heap.size w wr ∧ QtTo l (a + 1) k m ∧ m.length ≤ k
theorem ba_snoc {x : ByteArray} {m : List UInt8} {c : UInt8} (h : x.data.toList = m) : (x ++ ⟨#[c]⟩ : ByteArray).data.toList = m ++ [c] := by
  rw [ByteArray.data_append, Array.toList_append, h]
theorem ba_mk {s : ByteArray} {l : List UInt8} (h : s.data.toList = l) : s = ⟨l.toArray⟩ := by
  subst h
  simp

set_option maxRecDepth 100000 in
set_option maxHeartbeats 3200000 in
theorem quoted7_any (s : ByteArray) (hs : s.size ≤ 100000) (a : Nat) (ha : a < s.size) (w : World) :
    Calls Try.prog 27 #[.string s, .int .i64 (a : Int)] w fun e w' => RQuoP s.data.toList a w e w' := by
  have hl := data_len s
  generalize hL : s.data.toList = l at *
  have HD : Hid (∀ k (h : k < s.size), l[k]? = some s[k]) := by
    show ∀ k (h : k < s.size), l[k]? = some s[k]
    subst hL; exact fun k h => data_at h
  have HL := Lib.hid hl
  clear hl hL
  have hstart : RQRel w l a s.size (.int .i64 ((a : Int) + 1)) (.string ⟨#[]⟩) w := ⟨a + 1, [], ⟨#[]⟩, by omega, by first | rfl | exact int_eq (by omega), rfl, rfl, Below.refl _ _, QtTo.start _ _, by simp⟩
  have HS := Lib.hid hstart
  clear hstart
  go_enter Try.func27, Try.ntmps27
  go_wp2_with fail
  go_loopw [1, 7] (fun i o wr => RQRel w l a s.size i o wr) (fun i _ _ => s.size - (intOf i).toNat)
  case atStart => exact HS.out
  case round =>
    obtain ⟨k, m, x, hk, rfl, rfl, hx, hbel, hq, hmk⟩ := hrel
    have HQ := Lib.hid hq
    have HB := Lib.hid hbel
    have HX := Lib.hid hx
    have hxs : x.size ≤ k := by rw [← data_len, hx]; exact hmk
    have HM := Lib.hid hmk
    have HXS : Hid (x.size = m.length) := by show _ = _; rw [← data_len, hx]
    have hxl : ¬ (9223372036854775807 : Int) < (x.size : Int) + 1 := by omega
    have hxl2 : ¬ 9223372036854775807 < x.size + 1 := by omega
    clear hq hx hmk hbel
    by_cases hlt : k < s.size
    · have hki : 0 ≤ (k : Int) ∧ (k : Int) < s.size := by omega
      have hc := HD.out k hlt
      generalize hcc : s[k] = b at *
      have HC := Lib.hid (drop_at hc)
      clear hc
      have hb8 : b.toNat < 256 := b.toNat_lt
      have hcv := conv_one b wr
      have HB2 := Lib.hid (HB.out.alloc HB.out.size (.cells #[.int .u8 (b.toNat : Int)] 5))
      rcases byte_ways7 b with h | h | h | h | h
      case inr.inr.inl =>
        obtain rfl : b = 34 := UInt8.toNat_inj.1 (by have : (34 : UInt8).toNat = 34 := rfl; omega)
        clear hcv h HB2
        by_cases h64 : x.size ≤ 64
        · have HV : Hid (txtR (l.drop (a + 1)) = some (m, k - (a + 1) + 1)) := by show _ = _; rw [HQ.out.quote HC.out, if_pos (by rw [← HXS.out]; exact h64)]
          have h64' : decide ((x.size : Int) ≤ 64) = true := decide_eq_true (by omega)
          have h64'' : (x.size : Int) ≤ 64 := by omega
          go_wp2_with fail
          go_ret3
          exact rquo_some HV.out (ba_mk HX.out) (by show (k : Int) + 1 = _; have := HQ.out.1; omega) HB.out
        · have HV : Hid (txtR (l.drop (a + 1)) = none) := by show _ = _; rw [HQ.out.quote HC.out, if_neg (by rw [← HXS.out]; exact h64)]
          have h64' : decide ((x.size : Int) ≤ 64) = false := decide_eq_false (by omega)
          have h64'' : ¬ (x.size : Int) ≤ 64 := by omega
          go_wp2_with fail
          go_ret3
          exact rquo_none HV.out HB.out
      case inr.inr.inr.inl =>
        obtain rfl : b = 92 := UInt8.toNat_inj.1 (by have : (92 : UInt8).toNat = 92 := rfl; omega)
        clear hcv h HB2
        by_cases h2 : k + 2 < s.size
        · have h2i : 0 ≤ (k : Int) + 1 ∧ (k : Int) + 1 < s.size := by omega
          have h3i : 0 ≤ (k : Int) + 2 ∧ (k : Int) + 2 < s.size := by omega
          have ht1 : ((k : Int) + 1).toNat = k + 1 := by omega
          have ht2 : ((k : Int) + 2).toNat = k + 2 := by omega
          have hk1 : k + 1 < s.size := by omega
          have hc1 := HD.out (k + 1) hk1
          have hc2 := HD.out (k + 2) h2
          generalize hca : s[k + 1] = c1 at *
          generalize hcb : s[k + 2] = c2 at *
          have hd1 := drop_at hc1
          have hd2 := drop_at hc2
          have hdr : l.drop k = 92 :: c1 :: c2 :: l.drop (k + 1 + 1 + 1) := by rw [HC.out, hd1, hd2]
          have HDR := Lib.hid hdr
          have hsa := unhex_any c1 wr
          have hsb := unhex_any c2 wr
          have HSA := Lib.hid hsa
          have HSB := Lib.hid hsb
          clear hc1 hc2 hd1 hd2 hdr hsa hsb
          cases hxa : hexv c1 with
          | none =>
            rw [hxa] at HSA
            have HV : Hid (txtR (l.drop (a + 1)) = none) := by show _ = _; exact HQ.out.bad (r := c1 :: c2 :: l.drop (k + 1 + 1 + 1)) HDR.out (by decide) (by rw [oneB_hex, hxa, hexB_none1])
            have hb1 : ((hexv c2).getD 0) < 16 := by
              cases hb : hexv c2 with
              | none => simp
              | some y => simpa using hexv_lt hb
            generalize (hexv c2).getD 0 = y at *
            generalize (hexv c2).isSome = yo at *
            clear hxa
            go_wp2_with (go_at_call 32; first | ((with_reducible refine HSA.out.mono ?_); rintro e w' ⟨rfl, rfl⟩) | ((with_reducible refine HSB.out.mono ?_); rintro e w' ⟨rfl, rfl⟩))
            go_ret3
            exact rquo_none HV.out HB.out
          | some p =>
            rw [hxa] at HSA
            have hp := hexv_lt hxa
            cases hxb : hexv c2 with
            | none =>
              rw [hxb] at HSB
              have HV : Hid (txtR (l.drop (a + 1)) = none) := by show _ = _; exact HQ.out.bad (r := c1 :: c2 :: l.drop (k + 1 + 1 + 1)) HDR.out (by decide) (by rw [oneB_hex, hxb, hexB_none2])
              clear hxa hxb
              go_wp2_with (go_at_call 32; first | ((with_reducible refine HSA.out.mono ?_); rintro e w' ⟨rfl, rfl⟩) | ((with_reducible refine HSB.out.mono ?_); rintro e w' ⟨rfl, rfl⟩))
              go_ret3
              exact rquo_none HV.out HB.out
            | some q =>
              rw [hxb] at HSB
              have hq := hexv_lt hxb
              have hor := u8_or16 hp hq
              have hsum : ((UInt8.ofNat (16 * p + q)).toNat : Int) = 16 * (p : Int) + (q : Int) := by
                rw [ofNat_toNat (by omega)]; omega
              have hcv := conv_one (UInt8.ofNat (16 * p + q)) wr
              rw [hsum] at hcv
              have HB2 := Lib.hid (HB.out.alloc HB.out.size (.cells #[.int .u8 (16 * (p : Int) + (q : Int))] 5))
              cases hoz : odd8 (UInt8.ofNat (16 * p + q)) with
              | true =>
                have HQ2 := Lib.hid (HQ.out.step (r := c1 :: c2 :: l.drop (k + 1 + 1 + 1)) HDR.out (by decide) (show oneB (92 :: c1 :: c2 :: l.drop (k + 1 + 1 + 1)) = some (UInt8.ofNat (16 * p + q), 3) by rw [oneB_hex, hxa, hxb, hexB_some, if_pos hoz]))
                have ways : (16 * (p : Int) + (q : Int) < 32) ∨ (32 ≤ 16 * (p : Int) + (q : Int) ∧ 126 < 16 * (p : Int) + (q : Int)) ∨ (p = 2 ∧ q = 2) ∨ (p = 5 ∧ q = 12) := by
                  rcases byte_ways7 (UInt8.ofNat (16 * p + q)) with h | h | h | h | h
                  · left; omega
                  · right; left; omega
                  · right; right; left; omega
                  · right; right; right; omega
                  · exfalso
                    obtain ⟨a1, a2, a3, _⟩ := h
                    simp only [beq_eq_false_iff_ne] at a2 a3
                    rw [odd8_f (by omega)] at hoz
                    cases hoz
                have HSUM := Lib.hid hsum
                clear hxa hxb hoz hsum
                rcases ways with h | h | ⟨rfl, rfl⟩ | ⟨rfl, rfl⟩
                case inr.inr.inl =>
                  clear hcv hor hp hq HSUM
                  have hcv := conv_lit 34 34 rfl wr
                  have hor : bits .or .u8 32 2 = 34 := by decide
                  replace HSA : Hid (Calls Try.prog 32 #[.int .u8 (c1.toNat : Int)] wr fun e w' => e = .returned (.tuple #[.int .u8 2, .bool true]) ∧ w' = wr) := HSA
                  replace HSB : Hid (Calls Try.prog 32 #[.int .u8 (c2.toNat : Int)] wr fun e w' => e = .returned (.tuple #[.int .u8 2, .bool true]) ∧ w' = wr) := HSB
                  replace HB2 : Hid (Below w.heap.size w (wr.alloc (.cells #[.int .u8 34] 5))) := HB2
                  go_wp2_with (go_at_call 32; first | ((with_reducible refine HSA.out.mono ?_); rintro e w' ⟨rfl, rfl⟩) | ((with_reducible refine HSB.out.mono ?_); rintro e w' ⟨rfl, rfl⟩))
                  go_roundw
                  case rel => exact ⟨k + 3, m ++ [34], _, by omega, by go_num, rfl, ba_snoc HX.out, HB2.out, HQ2.out, by rw [List.length_append]; have := HM.out; simp; omega⟩
                  case measure => simp [intOf]; omega
                case inr.inr.inr =>
                  clear hcv hor hp hq HSUM
                  have hcv := conv_lit 92 92 rfl wr
                  have hor : bits .or .u8 80 12 = 92 := by decide
                  replace HSA : Hid (Calls Try.prog 32 #[.int .u8 (c1.toNat : Int)] wr fun e w' => e = .returned (.tuple #[.int .u8 5, .bool true]) ∧ w' = wr) := HSA
                  replace HSB : Hid (Calls Try.prog 32 #[.int .u8 (c2.toNat : Int)] wr fun e w' => e = .returned (.tuple #[.int .u8 12, .bool true]) ∧ w' = wr) := HSB
                  replace HB2 : Hid (Below w.heap.size w (wr.alloc (.cells #[.int .u8 92] 5))) := HB2
                  go_wp2_with (go_at_call 32; first | ((with_reducible refine HSA.out.mono ?_); rintro e w' ⟨rfl, rfl⟩) | ((with_reducible refine HSB.out.mono ?_); rintro e w' ⟨rfl, rfl⟩))
                  go_roundw
                  case rel => exact ⟨k + 3, m ++ [92], _, by omega, by go_num, rfl, ba_snoc HX.out, HB2.out, HQ2.out, by rw [List.length_append]; have := HM.out; simp; omega⟩
                  case measure => simp [intOf]; omega
                all_goals
                  have hz : ((16 * p + q : Nat) : Int) = ((UInt8.ofNat (16 * p + q)).toNat : Int) := by have := HSUM.out; omega
                  rw [hz] at hor
                  rw [← HSUM.out] at h hcv HB2
                  clear hz HSUM
                  generalize UInt8.ofNat (16 * p + q) = z at *
                  have hz8 := z.toNat_lt
                  have hno : ((32 ≤ (z.toNat : Int)) = False) ∨ (((z.toNat : Int) ≤ 126) = False) ∧ 32 ≤ (z.toNat : Int) := by
                    by_cases h5 : 32 ≤ (z.toNat : Int)
                    · exact .inr ⟨eq_false (by omega), h5⟩
                    · exact .inl (eq_false h5)
                  clear h
                  rcases hno with h | ⟨h, h'⟩
                  all_goals
                   go_wp2_with (go_at_call 32; first | ((with_reducible refine HSA.out.mono ?_); rintro e w' ⟨rfl, rfl⟩) | ((with_reducible refine HSB.out.mono ?_); rintro e w' ⟨rfl, rfl⟩))
                   go_roundw
                   case rel => exact ⟨k + 3, m ++ [z], _, by omega, by go_num, rfl, ba_snoc HX.out, HB2.out, HQ2.out, by rw [List.length_append]; have := HM.out; simp; omega⟩
                   case measure => simp [intOf]; omega
              | false =>
                have HV : Hid (txtR (l.drop (a + 1)) = none) := by show _ = _; exact HQ.out.bad (r := c1 :: c2 :: l.drop (k + 1 + 1 + 1)) HDR.out (by decide) (by rw [oneB_hex, hxa, hxb, hexB_some, if_neg (by rw [hoz]; simp)])
                have ways : (32 ≤ 16 * (p : Int) + (q : Int) ∧ 16 * (p : Int) + (q : Int) ≤ 126) ∧ ((16 * (p : Int) + (q : Int) != 34) = true) ∧ ((16 * (p : Int) + (q : Int) != 92) = true) := by
                  have hh : ¬ ((UInt8.ofNat (16 * p + q)).toNat < 32 ∨ 126 < (UInt8.ofNat (16 * p + q)).toNat ∨ (UInt8.ofNat (16 * p + q)).toNat = 34 ∨ (UInt8.ofNat (16 * p + q)).toNat = 92) := fun h => by rw [odd8_t h] at hoz; cases hoz
                  refine ⟨by omega, ?_, ?_⟩ <;> rw [bne_iff_ne] <;> omega
                obtain ⟨wa, wb, wc⟩ := ways
                clear hxa hxb hoz hsum
                go_wp2_with (go_at_call 32; first | ((with_reducible refine HSA.out.mono ?_); rintro e w' ⟨rfl, rfl⟩) | ((with_reducible refine HSB.out.mono ?_); rintro e w' ⟨rfl, rfl⟩))
                go_ret3
                exact rquo_none HV.out HB.out
        · have HV : Hid (txtR (l.drop (a + 1)) = none) := by show _ = _; exact HQ.out.bad HC.out (by decide) (oneB_short (by rw [List.length_drop, HL.out]; omega))
          have h2i : (s.size : Int) ≤ (k : Int) + 2 := by omega
          go_wp2_with fail
          go_ret3
          exact rquo_none HV.out HB.out
      case inr.inr.inr.inr =>
        have hodd : odd8 b = false := odd8_f (by obtain ⟨a1, a2, a3, _⟩ := h; simp only [beq_eq_false_iff_ne] at a2 a3; omega)
        have h34 : b ≠ 34 := by rintro rfl; revert hodd; decide
        have HQ2 := Lib.hid (HQ.out.step HC.out h34 (oneB_plain hodd))
        clear hodd h34
        go_wp2_with fail
        go_roundw
        case rel => exact ⟨k + 1, m ++ [b], _, by omega, by go_num, rfl, ba_snoc HX.out, HB2.out, HQ2.out, by rw [List.length_append]; have := HM.out; simp; omega⟩
        case measure => simp [intOf]; omega
      all_goals
        have hodd : odd8 b = true := odd8_t (by omega)
        have h34 : b ≠ 34 := by rintro rfl; have : (34 : UInt8).toNat = 34 := rfl; omega
        have h92 : b ≠ 92 := by rintro rfl; have : (92 : UInt8).toNat = 92 := rfl; omega
        have HV : Hid (txtR (l.drop (a + 1)) = none) := by show _ = _; exact HQ.out.bad HC.out h34 (oneB_odd hodd h92)
        have e34 : ((b.toNat : Int) == 34) = false := by rw [beq_eq_false_iff_ne]; omega
        have e92 : ((b.toNat : Int) == 92) = false := by rw [beq_eq_false_iff_ne]; omega
        clear hodd h34 h92 hcv HB2
        go_wp2_with fail
        go_ret3
        exact rquo_none HV.out HB.out
    · obtain rfl : k = s.size := by omega
      have HV : Hid (txtR (l.drop (a + 1)) = none) := by show _ = _; exact HQ.out.end (by rw [HL.out]; exact Nat.le_refl _)
      go_wp2_with fail
      go_ret3
      exact rquo_none HV.out HB.out
end Go.Proofs.Ytpedfkigneahgaa
