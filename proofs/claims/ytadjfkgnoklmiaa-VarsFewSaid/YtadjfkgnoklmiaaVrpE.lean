/- Several texts in one: LexOneS, LexNumM, LexNum, LexNumS, LexText, Toks, Scopes, LexAllF, LexAll7, LexAll0, LexAll1, LexAll2, LexAll5, LexAll6, LexAll, Parse11, ParIn, VarsRuns, KeepTgt. -/
import Derived.Test.YtadjfkgnoklmiaaVrpD
import Derived.Test.YtadjfkgnoklmiaaVrpB
import Derived.OwnWalk
import Derived.Test.YtadjfkgnoklmiaaVrpA
import Derived.Deep.RegionLaw
import Derived.Laws.OwnMore
import Derived.Maps.AppendAt
import Derived.ScopeJumps
import Derived.WalkMore
import Derived.Deep.Cut
import Derived.Test.YtadjfkgnoklmiaaVrpC
/- one of package lex: a byte of a quoted text, and by how many it is written. -/
namespace Go.Proofs.Ytadjfkgnoklmiaa
set_option linter.unusedVariables false
open Go.RowKit

set_option maxRecDepth 100000 in
theorem or16f : ∀ x : Fin 16, ∀ y : Fin 16, (x.val * 16) ||| y.val = 16 * x.val + y.val := by decide +kernel
theorem u8_or16 {x y : Nat} (hx : x < 16) (hy : y < 16) : bits .or .u8 ((x : Int) * 16) (y : Int) = ((16 * x + y : Nat) : Int) := by
  rw [u8_or _ _ (by omega) (by omega) (by omega) (by omega)]
  have := or16f ⟨x, hx⟩ ⟨y, hy⟩
  dsimp only at this
  rw [show ((x : Int) * 16).toNat = x * 16 by omega, show ((y : Int)).toNat = y by omega, this]

def oneV (l : List UInt8) : Value := .tuple #[.int .u8 ((((oneB l).map Prod.fst).getD 0).toNat : Int), .int .i64 ((((oneB l).map Prod.snd).getD 0 : Nat) : Int)]
theorem oneV_none {l : List UInt8} (h : oneB l = none) : oneV l = .tuple #[.int .u8 0, .int .i64 0] := by unfold oneV; rw [h]; rfl
theorem oneV_some {l : List UInt8} {x : UInt8} {k : Nat} (h : oneB l = some (x, k)) : oneV l = .tuple #[.int .u8 (x.toNat : Int), .int .i64 (k : Int)] := by unfold oneV; rw [h]; rfl
theorem list_three {l : List UInt8} {c a b : UInt8} (h0 : l[0]? = some c) (h1 : l[1]? = some a) (h2 : l[2]? = some b) : ∃ r, l = c :: a :: b :: r := by
  match l, h0, h1, h2 with
  | x :: y :: z :: r, h0, h1, h2 => simp at h0 h1 h2; subst h0 h1 h2; exact ⟨r, rfl⟩
theorem list_one {l : List UInt8} {c : UInt8} (h0 : l[0]? = some c) : ∃ r, l = c :: r := by
  match l, h0 with
  | x :: r, h0 => simp at h0; subst h0; exact ⟨r, rfl⟩

set_option maxHeartbeats 1600000 in
theorem one_any (s : ByteArray) (hs : s.size ≤ maxLen) (h0 : 0 < s.size) (w : World) :
    Calls Try.prog 63 #[.string s] w fun e w' => e = .returned (oneV s.data.toList) ∧ w' = w := by
  have hl := data_len s
  have hc0 := data_at h0
  unfold maxLen at hs
  generalize hcc : s[0] = c at *
  have hal := alone_any c w
  have HA := Lib.hid hal
  clear hal
  cases ho : odd8 c with
  | false =>
    rw [ho] at HA
    obtain ⟨r, hr⟩ := list_one hc0
    have HR : Hid (oneV s.data.toList = .tuple #[.int .u8 (c.toNat : Int), .int .i64 ((1 : Nat) : Int)]) := by show _ = _; rw [hr]; exact oneV_some (oneB_plain ho)
    clear hl hc0 hr ho
    go_enter Try.func63, Try.ntmps63
    go_wp2_with (go_at_call 77; refine HA.out.mono ?_; rintro e w' ⟨rfl, rfl⟩)
    go_ret2
    exact ⟨by rw [HR.out]; rfl, rfl⟩
  | true =>
    rw [ho] at HA
    by_cases h92 : c = 92
    · subst h92
      replace HA : Hid (Calls Try.prog 77 #[.int .u8 92] w fun e w' => e = .returned (.bool (!true)) ∧ w' = w) := HA
      by_cases h3 : s.size < 3
      · obtain ⟨r, hr⟩ := list_one hc0
        have HR : Hid (oneV s.data.toList = .tuple #[.int .u8 0, .int .i64 0]) := by show _ = _; rw [hr] at hl ⊢; exact oneV_none (oneB_short (by simp only [List.length_cons] at hl; omega))
        clear hl hc0 hr ho
        go_enter Try.func63, Try.ntmps63
        go_wp2_with (go_at_call 77; refine HA.out.mono ?_; rintro e w' ⟨rfl, rfl⟩)
        go_ret2
        exact ⟨by rw [HR.out]; rfl, rfl⟩
      · have h1' : 1 < s.size := by omega
        have h2' : 2 < s.size := by omega
        have hc1 := data_at h1'
        have hc2 := data_at h2'
        generalize hca : s[1] = a at *
        generalize hcb : s[2] = b at *
        obtain ⟨r, hr⟩ := list_three hc0 hc1 hc2
        have hsa := sixteenth_any a w
        have hsb := sixteenth_any b w
        have HSA := Lib.hid hsa
        have HSB := Lib.hid hsb
        clear hsa hsb hc0 hc1 hc2 hl ho
        have HR := Lib.hid hr
        clear hr
        cases ha : hexv a with
        | none =>
          rw [ha] at HSA
          have HV : Hid (oneV s.data.toList = .tuple #[.int .u8 0, .int .i64 0]) := by show _ = _; rw [HR.out]; exact oneV_none (by rw [oneB_hex, ha, hexB_none1])
          have hb1 : ((hexv b).getD 0) < 16 := by
            cases hb : hexv b with
            | none => simp
            | some y => simpa using hexv_lt hb
          generalize (hexv b).getD 0 = y at *
          generalize (hexv b).isSome = yo at *
          clear ha
          have hx : ((none : Option Nat).getD 0 : Nat) = 0 := rfl
          go_enter Try.func63, Try.ntmps63
          go_wp2_with (first | (go_at_call 77; refine HA.out.mono ?_; rintro e w' ⟨rfl, rfl⟩) | (go_at_call 78; first | ((with_reducible refine HSA.out.mono ?_); rintro e w' ⟨rfl, rfl⟩) | ((with_reducible refine HSB.out.mono ?_); rintro e w' ⟨rfl, rfl⟩)))
          go_ret2
          exact ⟨by rw [HV.out]; rfl, rfl⟩
        | some x =>
          rw [ha] at HSA
          have hx := hexv_lt ha
          cases hb : hexv b with
          | none =>
            rw [hb] at HSB
            have HV : Hid (oneV s.data.toList = .tuple #[.int .u8 0, .int .i64 0]) := by show _ = _; rw [HR.out]; exact oneV_none (by rw [oneB_hex, hb, hexB_none2])
            clear ha hb
            go_enter Try.func63, Try.ntmps63
            go_wp2_with (first | (go_at_call 77; refine HA.out.mono ?_; rintro e w' ⟨rfl, rfl⟩) | (go_at_call 78; first | ((with_reducible refine HSA.out.mono ?_); rintro e w' ⟨rfl, rfl⟩) | ((with_reducible refine HSB.out.mono ?_); rintro e w' ⟨rfl, rfl⟩)))
            go_ret2
            exact ⟨by rw [HV.out]; rfl, rfl⟩
          | some y =>
            rw [hb] at HSB
            have hy := hexv_lt hb
            have hor := u8_or16 hx hy
            have hsum : ((UInt8.ofNat (16 * x + y)).toNat : Int) = 16 * (x : Int) + (y : Int) := by
              rw [ofNat_toNat (by omega)]; omega
            have hal2 := alone_any (UInt8.ofNat (16 * x + y)) w
            have HV := Lib.hid (show oneB (92 :: a :: b :: r) = if odd8 (UInt8.ofNat (16 * x + y)) = true then some (UInt8.ofNat (16 * x + y), 3) else none by rw [oneB_hex, ha, hb, hexB_some])
            clear ha hb
            rw [hsum] at hal2
            have HSUM := Lib.hid hsum
            clear hsum
            have HA2 := Lib.hid hal2
            clear hal2
            generalize hzz : UInt8.ofNat (16 * x + y) = z at *
            cases hoz : odd8 z with
            | true =>
              rw [hoz] at HA2
              have HV2 : Hid (oneV s.data.toList = .tuple #[.int .u8 (16 * (x : Int) + (y : Int)), .int .i64 ((3 : Nat) : Int)]) := by
                show _ = _
                rw [HR.out, ← HSUM.out]
                exact oneV_some (by rw [HV.out, if_pos hoz])
              clear hoz hzz
              go_enter Try.func63, Try.ntmps63
              go_wp2_with (first | (go_at_call 77; first | ((with_reducible refine HA.out.mono ?_); rintro e w' ⟨rfl, rfl⟩) | ((with_reducible refine HA2.out.mono ?_); rintro e w' ⟨rfl, rfl⟩)) | (go_at_call 78; first | ((with_reducible refine HSA.out.mono ?_); rintro e w' ⟨rfl, rfl⟩) | ((with_reducible refine HSB.out.mono ?_); rintro e w' ⟨rfl, rfl⟩)))
              go_ret2
              exact ⟨by rw [HV2.out]; rfl, rfl⟩
            | false =>
              rw [hoz] at HA2
              have HV2 : Hid (oneV s.data.toList = .tuple #[.int .u8 0, .int .i64 0]) := by
                show _ = _
                rw [HR.out]
                exact oneV_none (by rw [HV.out, if_neg (by rw [hoz]; simp)])
              clear hoz hzz
              go_enter Try.func63, Try.ntmps63
              go_wp2_with (first | (go_at_call 77; first | ((with_reducible refine HA.out.mono ?_); rintro e w' ⟨rfl, rfl⟩) | ((with_reducible refine HA2.out.mono ?_); rintro e w' ⟨rfl, rfl⟩)) | (go_at_call 78; first | ((with_reducible refine HSA.out.mono ?_); rintro e w' ⟨rfl, rfl⟩) | ((with_reducible refine HSB.out.mono ?_); rintro e w' ⟨rfl, rfl⟩)))
              go_ret2
              exact ⟨by rw [HV2.out]; rfl, rfl⟩
    · have h92' : ((c.toNat : Int) != 92) = true := by
        rw [bne_iff_ne]
        intro h
        exact h92 (UInt8.toNat_inj.1 (by have : (92 : UInt8).toNat = 92 := rfl; omega))
      obtain ⟨r, hr⟩ := list_one hc0
      have HR : Hid (oneV s.data.toList = .tuple #[.int .u8 0, .int .i64 0]) := by show _ = _; rw [hr]; exact oneV_none (oneB_odd ho h92)
      clear hl hc0 hr ho h92
      go_enter Try.func63, Try.ntmps63
      go_wp2_with (go_at_call 77; refine HA.out.mono ?_; rintro e w' ⟨rfl, rfl⟩)
      go_ret2
      exact ⟨by rw [HR.out]; rfl, rfl⟩
end Go.Proofs.Ytadjfkgnoklmiaa
/- Digits, plainly. -/
namespace Go.Proofs.Ytadjfkgnoklmiaa
set_option linter.unusedVariables false

def AllD (l : List UInt8) : Prop := ∀ c ∈ l, dgt c = true
theorem numD_app (l : List UInt8) (c : UInt8) : numD (l ++ [c]) = 10 * numD l + (c.toNat - 48) := by unfold numD; rw [List.foldl_append]; rfl
theorem numD_mono (l m : List UInt8) : numD l ≤ numD (l ++ m) := by
  induction m generalizing l with
  | nil => simp
  | cons c m ih =>
    have h1 := ih (l ++ [c])
    have h2 := numD_app l c
    rw [List.append_assoc] at h1
    simp only [List.cons_append, List.nil_append] at h1
    omega
end Go.Proofs.Ytadjfkgnoklmiaa
/- below, above, number of package lex. -/
namespace Go.Proofs.Ytadjfkgnoklmiaa
set_option linter.unusedVariables false
open Go.RowKit

def numP (o : Option Nat) (s : Int) : Value := .tuple #[.int .i64 (s * ((o.getD 0 : Nat) : Int)), .bool o.isSome]
def BRel (l : List UInt8) (most : Nat) (n i : Value) : Prop := ∃ k m : Nat, k ≤ l.length ∧ m ≤ most ∧ m = numD (l.take k) ∧ n = .int .i64 (-(m : Int)) ∧ i = .int .i64 (k : Int)

set_option maxHeartbeats 1600000 in
theorem below_any (s : ByteArray) (hs : s.size ≤ 1000000) (hd : AllD s.data.toList) (most : Nat) (hm : 9 ≤ most) (hm2 : most ≤ 9223372036854775808) (w : World) :
    Calls Try.prog 62 #[.string s, .int .i64 (-(most : Int))] w fun e w' => e = .returned (numP (decD most s.data.toList) (-1)) ∧ w' = w := by
  have hl := data_len s
  generalize hL : s.data.toList = l at *
  have HD : Hid (∀ k (h : k < s.size), l[k]? = some s[k]) := by
    show ∀ k (h : k < s.size), l[k]? = some s[k]
    subst hL; exact fun k h => data_at h
  have HL := Lib.hid hl
  have HA : Hid (AllD l) := hd
  clear hl hd
  by_cases h0 : s.size = 0
  · have he : l = [] := List.eq_nil_of_length_eq_zero (by rw [HL.out, h0])
    have hse : s = ⟨#[]⟩ := by
      apply ByteArray.ext
      exact Array.eq_empty_of_size_eq_zero h0
    have HV : Hid (numP (decD most l) (-1) = .tuple #[.int .i64 0, .bool false]) := by show _ = _; rw [he]; unfold decD; rw [if_pos (.inl rfl)]; rfl
    subst hse
    clear he h0 HD HL HA hL hs
    go_enter Try.func62, Try.ntmps62
    go_wp2_with fail
    go_ret2
    exact ⟨by rw [HV.out]; rfl, rfl⟩
  · have h0' : 0 < s.size := by omega
    have hl0 := HD.out 0 h0'
    have hts : s.toList = l := by rw [ByteArray.toList_eq, hL]
    generalize hcc : s[0] = c0 at *
    obtain ⟨r, hr⟩ : ∃ r, l = c0 :: r := by
      match l, hl0 with
      | x :: r, hl0 => simp at hl0; subst hl0; exact ⟨r, rfl⟩
    have e1 : (s.toList == []) = false := by rw [hts, hr]; rfl
    have e1' : s.toList.isEmpty = false := by rw [hts, hr]; rfl
    have e2 : (s.toList == [48]) = decide (l = [48]) := by rw [hts]; rw [Bool.eq_iff_iff]; simp
    have HR := Lib.hid hr
    have HTS := Lib.hid hts
    have HL0 := Lib.hid hl0
    clear hr hts hl0 hL
    by_cases hz : c0 = 48 ∧ l ≠ [48]
    · obtain ⟨rfl, hne⟩ := hz
      have HV : Hid (numP (decD most l) (-1) = .tuple #[.int .i64 0, .bool false]) := by show _ = _; unfold decD; rw [if_pos (.inr (.inl ⟨by rw [HR.out]; rfl, hne⟩))]; rfl
      rw [decide_eq_false hne] at e2
      clear hne
      go_enter Try.func62, Try.ntmps62
      go_wp2_with fail
      go_ret2
      exact ⟨by rw [HV.out]; rfl, rfl⟩
    · have HZ := Lib.hid hz
      clear hz
      have two : (((c0.toNat : Int) == 48) = true ∧ l = [48]) ∨ ((c0.toNat : Int) == 48) = false := by
        by_cases h : c0 = 48
        · left
          subst h
          exact ⟨rfl, Classical.byContradiction fun hh => HZ.out ⟨rfl, hh⟩⟩
        · right
          rw [beq_eq_false_iff_ne]
          intro hh
          exact h (UInt8.toNat_inj.1 (by have : (48 : UInt8).toNat = 48 := rfl; omega))
      have hstart : BRel l most (.int .i64 0) (.int .i64 0) := ⟨0, 0, by omega, by omega, rfl, rfl, rfl⟩
      have HS := Lib.hid hstart
      clear hstart
      rcases two with ⟨a, b⟩ | a
      case' inl => rw [decide_eq_true b] at e2; clear b
      all_goals
        go_enter Try.func62, Try.ntmps62
        go_wp2_with fail
        go_loop [6, 22] (fun n i => BRel l most n i) (fun _ i => s.size - (intOf i).toNat)
        case atStart => exact HS.out
        case round =>
          obtain ⟨k, m, hk, hmm, hmd, rfl, rfl⟩ := hrel
          have HM := Lib.hid hmd
          clear hmd
          have hk2 : k ≤ s.size := by have := HL.out; omega
          clear hk
          by_cases hlt : k < s.size
          · have hi : 0 ≤ (k : Int) ∧ (k : Int) < s.size := by omega
            have hc := HD.out k hlt
            generalize hck : s[k] = c at *
            have hcd : 48 ≤ (c.toNat : Int) ∧ (c.toNat : Int) ≤ 57 := by
              have := HA.out c (List.mem_of_getElem? hc)
              unfold dgt at this
              simp at this
              omega
            have HC := Lib.hid hc
            clear hc
            have HN : Hid (numD (l.take (k + 1)) = 10 * m + (c.toNat - 48)) := by
              show _ = _
              obtain ⟨hk3, e⟩ := List.getElem?_eq_some_iff.1 HC.out
              rw [List.take_succ_eq_append_getElem hk3, numD_app, e, ← HM.out]
            by_cases hov : most < 10 * m + (c.toNat - 48)
            · have hq : (-(m : Int)) < (-(most : Int) + ((c.toNat : Int) - 48)).tdiv 10 := by
                rw [show -(most : Int) + ((c.toNat : Int) - 48) = -((most : Int) - ((c.toNat : Int) - 48)) by omega, Int.neg_tdiv, Int.tdiv_eq_ediv_of_nonneg (by omega)]
                omega
              have HV : Hid (numP (decD most l) (-1) = .tuple #[.int .i64 0, .bool false]) := by
                show _ = _
                unfold decD
                rw [if_pos (.inr (.inr (by
                  have := numD_mono (l.take (k + 1)) (l.drop (k + 1))
                  rw [List.take_append_drop] at this
                  have := HN.out
                  omega)))]
                rfl
              go_wp2_with fail
              go_ret2
              exact ⟨by rw [HV.out]; rfl, rfl⟩
            · have hq : ¬ (-(m : Int)) < (-(most : Int) + ((c.toNat : Int) - 48)).tdiv 10 := by
                rw [show -(most : Int) + ((c.toNat : Int) - 48) = -((most : Int) - ((c.toNat : Int) - 48)) by omega, Int.neg_tdiv, Int.tdiv_eq_ediv_of_nonneg (by omega)]
                omega
              go_wp2_with fail
              go_round
              case rel => exact ⟨k + 1, 10 * m + (c.toNat - 48), by have := HL.out; omega, by omega, HN.out.symm, by first | rfl | (exact int_eq (by omega)), by go_num⟩
              case measure => simp [intOf]; omega
          · obtain rfl : k = s.size := by omega
            have HV : Hid (numP (decD most l) (-1) = .tuple #[.int .i64 (-(m : Int)), .bool true]) := by
              show _ = _
              have e : numD l = m := by rw [HM.out, ← HL.out, List.take_length]
              have e3 : decD most l = some m := by
                unfold decD
                rw [if_neg, e]
                rintro (h | ⟨h, h'⟩ | h)
                · rw [HR.out] at h; cases h
                · rw [HR.out] at h; simp at h; exact HZ.out ⟨h, h'⟩
                · omega
              rw [e3]
              unfold numP
              simp
            go_wp2_with fail
            go_ret2
            exact ⟨by rw [HV.out]; rfl, rfl⟩
end Go.Proofs.Ytadjfkgnoklmiaa
/- above, number of package lex. -/
namespace Go.Proofs.Ytadjfkgnoklmiaa
set_option linter.unusedVariables false
open Go.RowKit

def nmV (o : Option Int) : Value := .tuple #[.int .i64 (o.getD 0), .bool o.isSome]
theorem numD_le {most n : Nat} {l : List UInt8} (h : decD most l = some n) : n ≤ most := by
  unfold decD at h
  split at h
  · cases h
  · rename_i hh
    cases h
    omega
set_option maxHeartbeats 800000 in
theorem above_any (s : ByteArray) (hs : s.size ≤ 1000000) (hd : AllD s.data.toList) (most : Nat) (hm : 9 ≤ most) (hm2 : most ≤ 9223372036854775807) (w : World) :
    Calls Try.prog 39 #[.string s, .int .i64 (most : Int)] w fun e w' => e = .returned (nmV ((decD most s.data.toList).map fun (n : Nat) => (n : Int))) ∧ w' = w := by
  have hb := below_any s hs hd most hm (by omega) w
  cases ho : decD most s.data.toList with
  | none =>
    rw [ho] at hb
    have HB : Hid (Calls Try.prog 62 #[.string s, .int .i64 (-(most : Int))] w fun e w' => e = .returned (.tuple #[.int .i64 0, .bool false]) ∧ w' = w) := hb
    clear hb ho hd
    go_enter Try.func39, Try.ntmps39
    go_wp2_with (go_at_call 62; refine HB.out.mono ?_; rintro e w' ⟨rfl, rfl⟩)
    go_ret2
    exact ⟨rfl, rfl⟩
  | some m =>
    rw [ho] at hb
    have hml := numD_le ho
    have HB : Hid (Calls Try.prog 62 #[.string s, .int .i64 (-(most : Int))] w fun e w' => e = .returned (.tuple #[.int .i64 (-(m : Int)), .bool true]) ∧ w' = w) := hb.mono fun e w' hh => ⟨by rw [hh.1]; unfold numP; simp, hh.2⟩
    clear hb ho hd
    go_enter Try.func39, Try.ntmps39
    go_wp2_with (go_at_call 62; refine HB.out.mono ?_; rintro e w' ⟨rfl, rfl⟩)
    go_ret2
    exact ⟨by first | rfl | (unfold nmV; exact ret_pair (int_eq (by simp)) rfl), rfl⟩

theorem ext_drop (s : ByteArray) (k : Nat) : (s.extract k s.size).data.toList = s.data.toList.drop k := by
  have : (s.data.toList).length = s.size := data_len s
  simp [ByteArray.data_extract, Array.toList_extract, List.extract]
  rw [List.take_of_length_le (by rw [List.length_drop, this]; exact Nat.le_refl _)]
theorem ext_mid (s : ByteArray) (a b : Nat) : (s.extract a b).data.toList = (s.data.toList.drop a).take (b - a) := by
  simp [ByteArray.data_extract, Array.toList_extract, List.extract]
theorem ext_size (s : ByteArray) {a b : Nat} (hb : b ≤ s.size) : (s.extract a b).size = b - a := by rw [ByteArray.size_extract]; omega

def numbA : List UInt8 → Option Int
  | [] => none
  | c :: r => if c = 45 then (decD 9223372036854775808 r).bind fun (n : Nat) => if n = 0 then none else some (-(n : Int)) else (decD 9223372036854775807 (c :: r)).map fun (n : Nat) => (n : Int)
set_option maxHeartbeats 800000 in
theorem number_any (s : ByteArray) (hs : s.size ≤ 1000000) {c : UInt8} {r : List UInt8} (hl : s.data.toList = c :: r) (hr : AllD r) (hc : c = 45 ∨ dgt c = true) (w : World) :
    Calls Try.prog 38 #[.string s] w fun e w' => e = .returned (nmV (numbA s.data.toList)) ∧ w' = w := by
  have h0 : 0 < s.size := by rw [← data_len s, hl]; simp
  have hc0 : s[0] = c := by
    have := data_at h0
    rw [hl] at this
    simp at this
    exact this.symm
  by_cases h45 : c = 45
  · have hb := below_any (s.extract 1 s.size) (by rw [ext_size _ (Nat.le_refl _)]; omega) (by rw [ext_drop, hl]; exact hr) 9223372036854775808 (by omega) (by omega) w
    rw [ext_drop, hl] at hb
    simp only [List.drop_succ_cons, List.drop_zero] at hb
    have HV : Hid (numbA s.data.toList = (decD 9223372036854775808 r).bind fun (n : Nat) => if n = 0 then none else some (-(n : Int))) := by show _ = _; rw [hl, numbA, if_pos h45]
    subst h45
    have e45 : (45 : UInt8).toNat = 45 := rfl
    cases ho : decD 9223372036854775808 r with
    | none =>
      rw [ho] at hb HV
      have HB : Hid (Calls Try.prog 62 #[.string (s.extract 1 s.size), .int .i64 (-9223372036854775808)] w fun e w' => e = .returned (.tuple #[.int .i64 0, .bool false]) ∧ w' = w) := hb
      clear hb ho hr hl hc
      go_enter Try.func38, Try.ntmps38
      go_wp2_with (go_at_call 62; refine HB.out.mono ?_; rintro e w' ⟨rfl, rfl⟩)
      go_ret2
      exact ⟨by rw [HV.out]; rfl, rfl⟩
    | some m =>
      rw [ho] at hb HV
      have hml := numD_le ho
      have HB : Hid (Calls Try.prog 62 #[.string (s.extract 1 s.size), .int .i64 (-9223372036854775808)] w fun e w' => e = .returned (.tuple #[.int .i64 (-(m : Int)), .bool true]) ∧ w' = w) := hb.mono fun e w' hh => ⟨by rw [hh.1]; unfold numP; simp, hh.2⟩
      clear hb ho hr hl hc
      by_cases hz : m = 0
      · subst hz
        have HB' : Hid (Calls Try.prog 62 #[.string (s.extract 1 s.size), .int .i64 (-9223372036854775808)] w fun e w' => e = .returned (.tuple #[.int .i64 0, .bool true]) ∧ w' = w) := HB
        go_enter Try.func38, Try.ntmps38
        go_wp2_with (go_at_call 62; refine HB'.out.mono ?_; rintro e w' ⟨rfl, rfl⟩)
        go_ret2
        exact ⟨by rw [HV.out]; rfl, rfl⟩
      · have hne : ((-(m : Int)) != 0) = true := by rw [bne_iff_ne]; omega
        have HZ := Lib.hid hz
        clear hz
        go_enter Try.func38, Try.ntmps38
        go_wp2_with (go_at_call 62; refine HB.out.mono ?_; rintro e w' ⟨rfl, rfl⟩)
        go_ret2
        exact ⟨by rw [HV.out, Option.bind_some, if_neg HZ.out]; rfl, rfl⟩
  · have hd : dgt c = true := hc.resolve_left h45
    have ha := above_any s hs (by rw [hl]; intro x hx; rcases List.mem_cons.1 hx with rfl | hx; exact hd; exact hr x hx) 9223372036854775807 (by omega) (by omega) w
    have HV : Hid (numbA s.data.toList = (decD 9223372036854775807 s.data.toList).map fun (n : Nat) => (n : Int)) := by show _ = _; rw [hl, numbA, if_neg h45]
    have hne : ((c.toNat : Int) == 45) = false := by
      rw [beq_eq_false_iff_ne]
      intro h
      exact h45 (UInt8.toNat_inj.1 (by have : (45 : UInt8).toNat = 45 := rfl; omega))
    rw [← HV.out] at ha
    have HA : Hid (Calls Try.prog 39 #[.string s, .int .i64 9223372036854775807] w fun e w' => e = .returned (nmV (numbA s.data.toList)) ∧ w' = w) := ha
    clear ha hd hl hr hc h45
    generalize numbA s.data.toList = o at *
    have HO : Hid (nmV o = .tuple #[.int .i64 (o.getD 0), .bool o.isSome]) := rfl
    generalize o.getD 0 = on at *
    generalize o.isSome = os at *
    rw [HO.out] at HA ⊢
    go_enter Try.func38, Try.ntmps38
    go_wp2_with (go_at_call 39; refine HA.out.mono ?_; rintro e w' ⟨rfl, rfl⟩)
    go_ret2
    exact ⟨rfl, rfl⟩
end Go.Proofs.Ytadjfkgnoklmiaa
/- text of package lex: a quoted text. -/
namespace Go.Proofs.Ytadjfkgnoklmiaa
set_option linter.unusedVariables false
open Go.RowKit

def txtR (l : List UInt8) : Option (List UInt8 × Nat) := (qtB l).bind fun p => if p.1.length ≤ 64 then some p else none
def textV (l : List UInt8) (a : Nat) : Value := match txtR (l.drop a) with
  | some (m, j) => .tuple #[.string ⟨m.toArray⟩, .int .i64 ((a + j : Nat) : Int), .bool true]
  | none => .tuple #[.string ⟨#[]⟩, .int .i64 0, .bool false]
theorem textV_none {l : List UInt8} {a : Nat} (h : txtR (l.drop a) = none) : textV l a = .tuple #[.string ⟨#[]⟩, .int .i64 0, .bool false] := by unfold textV; rw [h]
theorem textV_some {l : List UInt8} {a j : Nat} {m : List UInt8} (h : txtR (l.drop a) = some (m, j)) : textV l a = .tuple #[.string ⟨m.toArray⟩, .int .i64 ((a + j : Nat) : Int), .bool true] := by unfold textV; rw [h]

def QtTo (l : List UInt8) (a k : Nat) (m : List UInt8) : Prop := a ≤ k ∧ qtB (l.drop a) = (qtB (l.drop k)).map fun p => (m ++ p.1, (k - a) + p.2)
theorem QtTo.start (l : List UInt8) (a : Nat) : QtTo l a a [] := ⟨Nat.le_refl _, by simp⟩
theorem QtTo.step {l : List UInt8} {a k : Nat} {m r : List UInt8} {c x : UInt8} {j : Nat} (h : QtTo l a k m) (hd : l.drop k = c :: r) (hc : c ≠ 34) (ho : oneB (c :: r) = some (x, j)) : QtTo l a (k + j) (m ++ [x]) := by
  obtain ⟨h1, h2⟩ := h
  refine ⟨by omega, ?_⟩
  rw [h2, hd, qtB_one hc ho, ← hd, List.drop_drop, Option.map_map]
  congr 1
  funext p
  simp [Function.comp]
  omega
theorem QtTo.bad {l : List UInt8} {a k : Nat} {m r : List UInt8} {c : UInt8} (h : QtTo l a k m) (hd : l.drop k = c :: r) (hc : c ≠ 34) (ho : oneB (c :: r) = none) : txtR (l.drop a) = none := by
  unfold txtR; rw [h.2, hd, qtB_bad hc ho]; rfl
theorem QtTo.end {l : List UInt8} {a k : Nat} {m : List UInt8} (h : QtTo l a k m) (hk : l.length ≤ k) : txtR (l.drop a) = none := by
  unfold txtR; rw [h.2, List.drop_of_length_le hk, qtB_nil]; rfl
theorem QtTo.quote {l : List UInt8} {a k : Nat} {m r : List UInt8} (h : QtTo l a k m) (hd : l.drop k = 34 :: r) : txtR (l.drop a) = if m.length ≤ 64 then some (m, k - a + 1) else none := by
  unfold txtR; rw [h.2, hd, qtB_end]; simp

def TRel (w : World) (l : List UInt8) (a n : Nat) (i o : Value) (wr : World) : Prop :=
  ∃ (k j c : Nat) (A : Option Addr) (m : List UInt8), k ≤ n ∧ i = .int .i64 (k : Int) ∧ o = .slice A j c ∧ wr.ownsRow w.heap.size 5 1 (.slice A j c) j (bv m) ∧ Below w.heap.size w wr ∧ QtTo l a k m ∧ m.length ≤ k

theorem drop_at {l : List UInt8} {k : Nat} {c : UInt8} (h : l[k]? = some c) : l.drop k = c :: l.drop (k + 1) := by
  obtain ⟨hk, e⟩ := List.getElem?_eq_some_iff.1 h
  rw [List.drop_eq_getElem_cons hk, e]

set_option maxHeartbeats 1600000 in
theorem ltext_any (s : ByteArray) (hs : s.size ≤ 100000) (a : Nat) (ha : a ≤ s.size) (w : World) :
    Calls Try.prog 40 #[.string s, .int .i64 (a : Int)] w fun e w' => e = .returned (textV s.data.toList a) ∧ Below w.heap.size w w' := by
  have hl := data_len s
  have hone : ∀ k w, k < s.size → Calls Try.prog 63 #[.string (s.extract k s.size)] w fun e w' => e = .returned (oneV (s.data.toList.drop k)) ∧ w' = w := fun k w hk => by
    have := one_any (s.extract k s.size) (by rw [ext_size _ (Nat.le_refl _)]; unfold maxLen; omega) (by rw [ext_size _ (Nat.le_refl _)]; omega) w
    rwa [ext_drop] at this
  generalize hL : s.data.toList = l at *
  have HONE := Lib.hid hone
  have HD : Hid (∀ k (h : k < s.size), l[k]? = some s[k]) := by
    show ∀ k (h : k < s.size), l[k]? = some s[k]
    subst hL; exact fun k h => data_at h
  have HL := Lib.hid hl
  clear hl hone hL
  have hstart : TRel w l a s.size (.int .i64 (a : Int)) (.slice none 0 0) w := ⟨a, 0, 0, none, [], ha, rfl, rfl, ⟨rfl, .inl ⟨rfl, rfl⟩⟩, Below.refl _ _, QtTo.start _ _, by simp⟩
  have HS := Lib.hid hstart
  clear hstart
  obtain ⟨i, hi, hz0, hz1, hz2⟩ := info_parts u8info
  have HI := Lib.hid (And.intro hi (And.intro hz0 (And.intro hz1 hz2)))
  clear hi hz0 hz1 hz2
  go_enter Try.func40, Try.ntmps40
  go_wp2_with fail
  go_loopw [1, 7] (fun i o wr => TRel w l a s.size i o wr) (fun i _ _ => s.size - (intOf i).toNat)
  case atStart => exact HS.out
  case round =>
    obtain ⟨k, j, c, A, m, hk, rfl, rfl, hown, hbel, hq, hmk⟩ := hrel
    have HQ := Lib.hid hq
    have HB := Lib.hid hbel
    have hj : m.length = j := by have := hown.1; simpa [bv_len] using this
    have HJ := Lib.hid hj
    clear hq hj
    by_cases hlt : k < s.size
    · have hki : 0 ≤ (k : Int) ∧ (k : Int) < s.size := by omega
      have hc := HD.out k hlt
      generalize hcc : s[k] = b at *
      have HC := Lib.hid (drop_at hc)
      clear hc
      have hb8 : b.toNat < 256 := b.toNat_lt
      by_cases h34 : b = 34
      · subst h34
        by_cases h64 : m.length ≤ 64
        · have HV : Hid (textV l a = .tuple #[.string ⟨m.toArray⟩, .int .i64 ((a + (k - a + 1) : Nat) : Int), .bool true]) := by show _ = _; exact textV_some (by rw [HQ.out.quote HC.out, if_pos h64])
          have hcv := conv_text Try.underlying115 Try.underlying5 Try.underlying9 (Sl.of_own hown)
          have hak : ((a + (k - a + 1) : Nat) : Int) = (k : Int) + 1 := by have := HQ.out.1; omega
          have HAK := Lib.hid hak
          have hkn : ((k : Int) == (s.size : Int)) = false := by rw [beq_eq_false_iff_ne]; omega
          have hj64 : ¬ (64 : Int) < (j : Int) := by have := HJ.out; omega
          clear hown hbel hak h64 hmk
          go_wp2_with fail
          go_ret3
          exact ⟨by rw [HV.out, HAK.out]; rfl, HB.out⟩
        · have HV : Hid (textV l a = .tuple #[.string ⟨#[]⟩, .int .i64 0, .bool false]) := by show _ = _; exact textV_none (by rw [HQ.out.quote HC.out, if_neg h64])
          have hkn : ((k : Int) == (s.size : Int)) = false := by rw [beq_eq_false_iff_ne]; omega
          have hj64 : (64 : Int) < (j : Int) := by have := HJ.out; omega
          clear hown hbel h64 hmk
          go_wp2_with fail
          go_ret3
          exact ⟨by rw [HV.out]; rfl, HB.out⟩
      · have hb34 : ((b.toNat : Int) != 34) = true := by
          rw [bne_iff_ne]
          intro h
          exact h34 (UInt8.toNat_inj.1 (by have : (34 : UInt8).toNat = 34 := rfl; omega))
        have ho := HONE.out k wr hlt
        rw [HC.out] at ho
        cases hone : oneB (b :: l.drop (k + 1)) with
        | none =>
          rw [oneV_none hone] at ho
          have HO := Lib.hid ho
          have HV : Hid (textV l a = .tuple #[.string ⟨#[]⟩, .int .i64 0, .bool false]) := by show _ = _; exact textV_none (HQ.out.bad HC.out h34 hone)
          clear hown hbel hmk ho hone h34
          go_wp2_with (go_at_call 63; refine HO.out.mono ?_; rintro e w' ⟨rfl, rfl⟩)
          go_ret3
          exact ⟨by rw [HV.out]; rfl, HB.out⟩
        | some xk =>
          obtain ⟨x, q⟩ := xk
          rw [oneV_some hone] at ho
          have HO := Lib.hid ho
          have hqp := oneB_pos hone
          have hqn : 1 ≤ q ∧ k + q ≤ s.size := by
            have := hqp.2
            rw [← HC.out, List.length_drop, HL.out] at this
            omega
          have hq0 : ((q : Int) == 0) = false := by rw [beq_eq_false_iff_ne]; omega
          obtain ⟨A2, c2, w2, hap, hown2, hbel2⟩ := append_one (P := Try.prog) (ty := 115) Try.underlying115 HI.out.1 HI.out.2.1 HI.out.2.2.1 HI.out.2.2.2 hown (by have := HJ.out; omega) hbel.size (x.toNat : Int)
          have hown3 : w2.ownsRow w.heap.size 5 1 (.slice A2 (j + 1) c2) (j + 1) (bv (m ++ [x])) := by rw [bv_app]; exact hown2
          have HO2 := Lib.hid hown3
          have HB2 := Lib.hid (hbel.trans hbel2)
          have HAP := Lib.hid hap
          have HQ2 := Lib.hid (HQ.out.step HC.out h34 hone)
          clear hown hbel ho hone h34 hqp hap hown2 hbel2 hown3
          go_wp2_with (first | (go_at_call 63; refine HO.out.mono ?_; rintro e w' ⟨rfl, rfl⟩) | (at_builtin; refine wpList_append_run rfl _ _ _ _ rfl rfl rfl HAP.out ?_))
          go_roundw
          case rel => exact ⟨k + q, j + 1, c2, A2, m ++ [x], hqn.2, by go_num, rfl, HO2.out, HB2.out, HQ2.out, by rw [List.length_append]; simp; omega⟩
          case measure => simp [intOf]; omega
    · obtain rfl : k = s.size := by omega
      have HV : Hid (textV l a = .tuple #[.string ⟨#[]⟩, .int .i64 0, .bool false]) := by show _ = _; exact textV_none (HQ.out.end (by rw [HL.out]; exact Nat.le_refl _))
      clear hown hbel
      go_wp2_with fail
      go_ret3
      exact ⟨by rw [HV.out]; rfl, HB.out⟩
end Go.Proofs.Ytadjfkgnoklmiaa
/- Tokens as Go has them: in a block of its own, and rows of them; append. -/
namespace Go.Proofs.Ytadjfkgnoklmiaa
set_option linter.unusedVariables false
open Go.RowKit

def Tk.val (t : Tk) : Value := .agg #[.int .i64 t.k, .int .i64 t.p, .int .i64 t.n, .string t.s]
def Tb (w : World) (g : Nat) (k p n : Int) (s : ByteArray) : Prop := Ob w g 85 #[.int .i64 k, .int .i64 p, .int .i64 n, .string s]
section
variable {w w' : World} {g : Nat} {k p n : Int} {s : ByteArray}
theorem Tb.made (w : World) (k p n : Int) (s : ByteArray) : Tb (w.alloc (.cells #[.int .i64 k, .int .i64 p, .int .i64 n, .string s] 85)) w.heap.size k p n s := Ob.made _ _ _
theorem Tb.lt (h : Tb w g k p n s) : g < w.heap.size := Ob.lt h
theorem Tb.alloc (h : Tb w g k p n s) (o : Obj) : Tb (w.alloc o) g k p n s := Ob.keep h (Below.heap_alloc w o g h.lt)
theorem Tb.then_ (h : Tb w g k p n s) (hb : Below w.heap.size w w') : Tb w' g k p n s := Ob.below h hb h.lt
theorem Tb.below {B : Nat} (h : Tb w g k p n s) (hb : Below B w w') (hg : g < B) : Tb w' g k p n s := Ob.below h hb hg
theorem Tb.only {r : Nat} (h : Tb w g k p n s) (ho : Only r w w') (hg : g ≠ r) : Tb w' g k p n s := Ob.keep h (ho.heap h.lt hg)
theorem Tb.drewN (h : Tb w g k p n s) (j : Nat) : Tb (w.drewN j) g k p n s := h
theorem Tb.c4 (h : Tb w g k p n s) : w.cell? ⟨g, 0, none⟩ = some (.int .i64 k) ∧ w.cell? ⟨g, 1, none⟩ = some (.int .i64 p) ∧ w.cell? ⟨g, 2, none⟩ = some (.int .i64 n) ∧ w.cell? ⟨g, 3, none⟩ = some (.string s) := ⟨Ob.cell h 0, Ob.cell h 1, Ob.cell h 2, Ob.cell h 3⟩
theorem Tb.fz (h : Tb w g k p n s) (i : Nat) : w.frozen? ⟨g, i, none⟩ = false := Ob.frozen h i
theorem Tb.setK (h : Tb w g k p n s) (k' : Int) : Tb (w.setCell ⟨g, 0, none⟩ (.int .i64 k')) g k' p n s := by unfold Tb; simpa using Ob.put h 0 (.int .i64 k')
theorem Tb.setN (h : Tb w g k p n s) (n' : Int) : Tb (w.setCell ⟨g, 2, none⟩ (.int .i64 n')) g k p n' s := by unfold Tb; simpa using Ob.put h 2 (.int .i64 n')
theorem Tb.setS (h : Tb w g k p n s) (s' : ByteArray) : Tb (w.setCell ⟨g, 3, none⟩ (.string s')) g k p n s' := by unfold Tb; simpa using Ob.put h 3 (.string s')
theorem Tb.put (h : Tb w g k p n s) (k' p' n' : Int) (s' : ByteArray) : Tb ((((w.setCell ⟨g, 0, none⟩ (.int .i64 k')).setCell ⟨g, 1, none⟩ (.int .i64 p')).setCell ⟨g, 2, none⟩ (.int .i64 n')).setCell ⟨g, 3, none⟩ (.string s')) g k' p' n' s' := by
  unfold Tb
  simpa using (((Ob.put h 0 (.int .i64 k')).put 1 (.int .i64 p')).put 2 (.int .i64 n')).put 3 (.string s')
end
def cells4 : List Tk → List Value
  | [] => []
  | t :: r => .int .i64 t.k :: .int .i64 t.p :: .int .i64 t.n :: .string t.s :: cells4 r
theorem cells4_len (l : List Tk) : (cells4 l).length = l.length * 4 := by
  induction l with
  | nil => rfl
  | cons v r ih => simp [cells4, ih]; omega
theorem cells4_app (l m : List Tk) : cells4 (l ++ m) = cells4 l ++ cells4 m := by
  induction l with
  | nil => rfl
  | cons v r ih => simp [cells4, ih]
theorem cells4_one {l : List Tk} : ∀ v ∈ cells4 l, v.oneCell' = true := by
  induction l with
  | nil => intro v hv; cases hv
  | cons x r ih =>
    intro v hv
    simp only [cells4, List.mem_cons] at hv
    rcases hv with rfl | rfl | rfl | rfl | hv
    · rfl
    · rfl
    · rfl
    · rfl
    · exact ih v hv
theorem cells4_at {l : List Tk} {j : Nat} {v : Tk} (h : l[j]? = some v) : (cells4 l)[j * 4]? = some (.int .i64 v.k) ∧ (cells4 l)[j * 4 + 1]? = some (.int .i64 v.p) ∧ (cells4 l)[j * 4 + 2]? = some (.int .i64 v.n) ∧ (cells4 l)[j * 4 + 3]? = some (.string v.s) := by
  induction l generalizing j with
  | nil => simp at h
  | cons x r ih =>
    cases j with
    | zero => simp at h; subst h; exact ⟨rfl, rfl, rfl, rfl⟩
    | succ j =>
      simp at h
      obtain ⟨a, b, c, d⟩ := ih h
      have e : (j + 1) * 4 = j * 4 + 1 + 1 + 1 + 1 := by omega
      rw [e]
      exact ⟨by simpa [cells4] using a, by simpa [cells4] using b, by simpa [cells4] using c, by simpa [cells4] using d⟩

def Ts (w : World) (B : Nat) (A : Option Addr) (n c : Nat) (l : List Tk) : Prop :=
  l.length = n ∧ n ≤ c ∧ c ≤ maxLen ∧ (n = 0 ∨ ∃ b o, A = some ⟨b, o, none⟩ ∧ b < B ∧ ∀ j v, l[j]? = some v → w.cell? ⟨b, o + j * 4, none⟩ = some (.int .i64 v.k) ∧ w.cell? ⟨b, o + j * 4 + 1, none⟩ = some (.int .i64 v.p) ∧ w.cell? ⟨b, o + j * 4 + 2, none⟩ = some (.int .i64 v.n) ∧ w.cell? ⟨b, o + j * 4 + 3, none⟩ = some (.string v.s))
section
variable {w w' : World} {B B' n c : Nat} {A : Option Addr} {l : List Tk}
theorem Ts.keep (h : Ts w B A n c l) (hk : ∀ k, k < B → w'.heap[k]? = w.heap[k]?) : Ts w' B A n c l := by
  obtain ⟨h1, h2, h3, h4⟩ := h
  refine ⟨h1, h2, h3, ?_⟩
  rcases h4 with h4 | ⟨b, o, e, hb, hc⟩
  · exact .inl h4
  · refine .inr ⟨b, o, e, hb, fun j v hv => ?_⟩
    obtain ⟨a1, a2, a3, a4⟩ := hc j v hv
    exact ⟨(World.cell?_of_block (hk b hb)).trans a1, (World.cell?_of_block (hk b hb)).trans a2, (World.cell?_of_block (hk b hb)).trans a3, (World.cell?_of_block (hk b hb)).trans a4⟩
theorem Ts.below (h : Ts w B A n c l) (hb : Below B w w') : Ts w' B A n c l := h.keep hb.block
theorem Ts.more (h : Ts w B A n c l) (hB : B ≤ B') : Ts w B' A n c l := by
  obtain ⟨h1, h2, h3, h4⟩ := h
  refine ⟨h1, h2, h3, ?_⟩
  rcases h4 with h4 | ⟨b, o, e, hb, hc⟩
  · exact .inl h4
  · exact .inr ⟨b, o, e, by omega, hc⟩
theorem Ts.then_ (h : Ts w w.heap.size A n c l) (hb : Below w.heap.size w w') : Ts w' w'.heap.size A n c l := (h.below hb).more hb.size
theorem Ts.at_ (h : Ts w B A n c l) {k : Nat} (hk : k < n) : ∃ b o v, A = some ⟨b, o, none⟩ ∧ b < B ∧ l[k]? = some v ∧ w.cell? ⟨b, o + k * 4, none⟩ = some (.int .i64 v.k) ∧ w.cell? ⟨b, o + k * 4 + 1, none⟩ = some (.int .i64 v.p) ∧ w.cell? ⟨b, o + k * 4 + 2, none⟩ = some (.int .i64 v.n) ∧ w.cell? ⟨b, o + k * 4 + 3, none⟩ = some (.string v.s) := by
  obtain ⟨h1, h2, h3, h4⟩ := h
  rcases h4 with h4 | ⟨b, o, e, hb, hc⟩
  · omega
  · have hl : k < l.length := by omega
    exact ⟨b, o, l[k], e, hb, List.getElem?_eq_getElem hl, hc k _ (List.getElem?_eq_getElem hl)⟩
theorem Ts.nil_ (w : World) (B : Nat) : Ts w B none 0 0 [] := ⟨rfl, Nat.le_refl _, by simp [maxLen], .inl rfl⟩
end

theorem tokinfo : (Try.prog.info? 85).map (fun i => (i.zero, i.size, i.bytes)) = some (some (.agg #[.int .i64 0, .int .i64 0, .int .i64 0, .string ⟨#[]⟩]), 4, 40) := by kernel_rfl
theorem tok_parts : ∃ i, Try.prog.info? 85 = some i ∧ i.zero = some (.agg #[.int .i64 0, .int .i64 0, .int .i64 0, .string ⟨#[]⟩]) ∧ i.size = 4 ∧ i.bytes = 40 := by
  have h := tokinfo
  cases hi : Try.prog.info? 85 with
  | none => rw [hi] at h; cases h
  | some i =>
    rw [hi] at h
    simp only [Option.map_some, Option.some.injEq, Prod.mk.injEq] at h
    exact ⟨i, rfl, h.1, h.2.1, h.2.2⟩

theorem Ts.of_own {w : World} {base n c : Nat} {A : Option Addr} {l : List Tk} (h : w.ownsRow base 85 4 (.slice A n c) n (cells4 l)) : Ts w w.heap.size A n c l := by
  have hl : l.length = n := by have := h.1; rw [cells4_len] at this; omega
  rcases h.2 with ⟨hv, hn⟩ | ⟨g, cap, cur, hv, hb, hg, hnc, hcm, hcs, ht⟩
  · injection hv with h1 h2 h3
    subst h1 h2 h3
    exact ⟨hl, Nat.le_refl _, by simp [maxLen], .inl rfl⟩
  · injection hv with h1 h2 h3
    subst h1 h3
    refine ⟨hl, hnc, hcm, .inr ⟨g, 0, rfl, ?_, fun j v hv => ?_⟩⟩
    · rcases Nat.lt_or_ge g w.heap.size with hlt | hge
      · exact hlt
      · rw [Array.getElem?_eq_none hge] at hg; cases hg
    · have add : ∀ j : Nat, (⟨g, 0, none⟩ : Addr).add j = ⟨g, 0 + j, none⟩ := fun j => by by_cases hj : j = 0 <;> simp [Addr.add, hj]
      obtain ⟨a, b, c, d⟩ := cells4_at hv
      have h1 := h.cells (g := g) rfl (j * 4) _ a
      have h2 := h.cells (g := g) rfl (j * 4 + 1) _ b
      have h3 := h.cells (g := g) rfl (j * 4 + 2) _ c
      have h4 := h.cells (g := g) rfl (j * 4 + 3) _ d
      rw [add] at h1 h2 h3 h4
      exact ⟨h1, h2, h3, h4⟩

theorem append_tok {w : World} {base n c ty : Nat} {A : Option Addr} {xs : List Tk} (h : w.ownsRow base 85 4 (.slice A n c) n (cells4 xs)) (t : Tk) (hn : n ≤ 1000000) (hbase : base ≤ w.heap.size) :
    ∃ A' c' w', (Builtin.append_ #[70, 70] ty #[.slice A n c, .slice (some ⟨w.heap.size, 0, none⟩) 1 1]).run Try.prog (w.alloc (.cells #[.int .i64 t.k, .int .i64 t.p, .int .i64 t.n, .string t.s] 85)) = .ok (.slice A' (n + 1) c') w' ∧
      w'.ownsRow base 85 4 (.slice A' (n + 1) c') (n + 1) (cells4 (xs ++ [t])) ∧ Below base w w' := by
  obtain ⟨i, hi, hz, hs, hb⟩ := tok_parts
  have add : ∀ j : Nat, (⟨w.heap.size, 0, none⟩ : Addr).add j = ⟨w.heap.size, 0 + j, none⟩ := fun j => by by_cases hj : j = 0 <;> simp [Addr.add, hj]
  obtain ⟨v', w', hrun, h2, h3, h4⟩ := run_append_own (P := Try.prog) (w.alloc (.cells #[.int .i64 t.k, .int .i64 t.p, .int .i64 t.n, .string t.s] 85)) base 70 ty 85 i _ 4 40 Try.underlying70 hi hz hs hb rfl (by omega) (.slice A n c) n (cells4 xs) (h.alloc _)
    ⟨w.heap.size, 0, none⟩ 1 1 (cells4 [t]) (by rw [cells4_len]; rfl) (by
      intro j u hu
      rw [add, Nat.zero_add, (Ob.made w 85 #[.int .i64 t.k, .int .i64 t.p, .int .i64 t.n, .string t.s]).cell j]
      simpa [cells4] using hu) cells4_one (by unfold maxLen; omega) (by omega) (by rw [size_al]; omega)
  have hform : ∃ A' c', v' = .slice A' (n + 1) c' := by
    rcases h2.2 with ⟨hv, hz⟩ | ⟨g, cap, cur, hv, _⟩
    · omega
    · exact ⟨_, _, hv⟩
  obtain ⟨A', c', rfl⟩ := hform
  refine ⟨A', c', w', hrun, by rw [cells4_app]; exact h2, ?_⟩
  refine ((Below.refl base w).alloc hbase _).grown h3 (by rw [size_al]; omega) (fun k hk => ?_)
  exact (h.lt k hk).1
theorem own_tok {w w' : World} {base size n : Nat} {e : TypeId} {v : Value} {xs : List Value} (h : w.ownsRow base e size v n xs) (hb : Below w.heap.size w w') : w'.ownsRow base e size v n xs :=
  h.kept (row := none) ⟨hb.os, hb.tape, hb.output, hb.size, fun k hk _ => hb.block k hk⟩ (by by_cases hv : v.ownBlock = none; exact .inl hv; exact .inr hv)
theorem own_only {w w' : World} {base size n r : Nat} {e : TypeId} {v : Value} {xs : List Value} (h : w.ownsRow base e size v n xs) (hb : Only r w w') (hr : r < base) : w'.ownsRow base e size v n xs :=
  h.kept (row := some r) hb (.inr fun hh => by have := (h.lt r hh).1; omega)
end Go.Proofs.Ytadjfkgnoklmiaa
/- A scope in which the run jumps to labels: what holds at each label's jump, and a measure that every pass lowers. -/
namespace Go.Proofs.Ytadjfkgnoklmiaa
set_option linter.unusedVariables false

def exitsTo (J : Nat → Act → World → Prop) (Q : Exit → Act → World → Prop) : Exit → Act → World → Prop
  | .goto l, a, w => J l a w
  | e, a, w => Q e a w

section
variable {P : Program} {a : Act} {w : World} {J J' : Nat → Act → World → Prop} {Q : Exit → Act → World → Prop}
theorem exitsTo_ret : exitsTo J Q .ret a w = Q .ret a w := rfl
theorem wp_scope_labels {c : Code} (J : Nat → Act → World → Prop) (μ : Nat → Act → World → Nat) (hf : ∀ l a w, J l a w → ∃ R, findLabel c l = some R ∧ R.wp P (exitsTo (fun l' a' w' => J l' a' w' ∧ μ l' a' w' < μ l a w) Q) a w)
    (first : c.wp P (exitsTo J Q) a w) : (Code.scope c).wp P Q a w := by
  intro b k cs
  have key : ∀ n l a w, μ l a w = n → J l a w → ∃ R, findLabel c l = some R ∧ ∃ e a' w', Q e a' w' ∧ Arrives P (lone (b.at a (.code R :: .inScope c :: k)) cs w) b k cs e a' w' := by
    intro n
    induction n using Nat.strongRecOn with
    | _ n ih =>
      intro l a w hn hJ
      obtain ⟨R, hR, pass⟩ := hf l a w hJ
      obtain ⟨e, a₁, w₁, hq, harr⟩ := pass b (.inScope c :: k) cs
      refine ⟨R, hR, ?_⟩
      cases e with
      | normal => exact ⟨.normal, a₁, w₁, hq, Steps.trans harr (.one step_inScope)⟩
      | exit id => exact ⟨.exit id, a₁, w₁, hq, fun k' hk => harr k' (by simp [exitTo, hk])⟩
      | goto l' =>
        obtain ⟨hJ', hlt⟩ := hq
        obtain ⟨R', hR', e₂, a₂, w₂, hq₂, harr₂⟩ := ih _ (by omega) l' a₁ w₁ rfl hJ'
        have hg : gotoIn l' (.inScope c :: k) = some (.code R' :: .inScope c :: k) := by simp [gotoIn, hR']
        exact ⟨e₂, a₂, w₂, hq₂, .of_steps (harr _ hg) harr₂⟩
      | ret => exact ⟨_, a₁, w₁, hq, harr⟩
      | panic ch => exact ⟨_, a₁, w₁, hq, harr⟩
      | outgrown => exact ⟨_, a₁, w₁, hq, harr⟩
  obtain ⟨e, a₁, w₁, hq, harr⟩ := first b (.inScope c :: k) cs
  cases e with
  | normal => exact ⟨.normal, a₁, w₁, hq, .head step_scope (Steps.trans harr (.one step_inScope))⟩
  | exit id => exact ⟨.exit id, a₁, w₁, hq, fun k' hk => .head step_scope (harr k' (by simp [exitTo, hk]))⟩
  | goto l' =>
    obtain ⟨R', hR', e₂, a₂, w₂, hq₂, harr₂⟩ := key _ l' a₁ w₁ rfl hq
    have hg : gotoIn l' (.inScope c :: k) = some (.code R' :: .inScope c :: k) := by simp [gotoIn, hR']
    exact ⟨e₂, a₂, w₂, hq₂, .of_steps (.head step_scope (harr _ hg)) harr₂⟩
  | ret => exact ⟨_, a₁, w₁, hq, .of_steps (.one step_scope) harr⟩
  | panic ch => exact ⟨_, a₁, w₁, hq, .of_steps (.one step_scope) harr⟩
  | outgrown => exact ⟨_, a₁, w₁, hq, .of_steps (.one step_scope) harr⟩
end
end Go.Proofs.Ytadjfkgnoklmiaa
/- lex.All: its frame, and what holds at each of its labels. -/
namespace Go.Proofs.Ytadjfkgnoklmiaa
set_option linter.unusedVariables false
open Go.RowKit

def Fr (a : Act) (s : ByteArray) (g : Nat) (vl va ve vo vc : Value) : Prop := ∃ u : Nat → Value, a = { tmps := #[.string s, u 1, u 2, u 3, u 4, vl, .pointer (some ⟨g, 0, none⟩), va, ve, vo, vc, u 11, u 12, u 13, u 14, u 15, u 16, u 17, u 18, u 19, u 20, u 21, u 22, u 23, u 24, u 25, u 26, u 27, u 28, u 29, u 30, u 31, u 32, u 33, u 34, u 35, u 36, u 37, u 38, u 39, u 40, u 41, u 42, u 43, u 44, u 45, u 46, u 47, u 48, u 49, u 50, u 51, u 52, u 53, u 54, u 55, u 56, u 57, u 58, u 59, u 60, u 61, u 62, u 63, u 64, u 65, u 66, u 67, u 68, u 69, u 70, u 71, u 72, u 73, u 74, u 75, u 76, u 77, u 78, u 79, u 80, u 81, u 82, u 83, u 84, u 85, u 86, u 87, u 88, u 89, u 90, u 91, u 92, u 93, u 94, u 95, u 96, u 97, u 98, u 99, u 100, u 101, u 102, u 103, u 104, u 105, u 106, u 107, u 108, u 109, u 110, u 111, u 112, u 113, u 114, u 115, u 116, u 117, u 118, u 119, u 120, u 121, u 122, u 123, u 124, u 125, u 126, u 127, u 128, u 129, u 130, u 131, u 132, u 133, u 134, u 135], defers := [] }
set_option maxRecDepth 100000 in
theorem Fr_mk {s : ByteArray} {g : Nat} {vl va ve vo vc x1 x2 x3 x4 x11 x12 x13 x14 x15 x16 x17 x18 x19 x20 x21 x22 x23 x24 x25 x26 x27 x28 x29 x30 x31 x32 x33 x34 x35 x36 x37 x38 x39 x40 x41 x42 x43 x44 x45 x46 x47 x48 x49 x50 x51 x52 x53 x54 x55 x56 x57 x58 x59 x60 x61 x62 x63 x64 x65 x66 x67 x68 x69 x70 x71 x72 x73 x74 x75 x76 x77 x78 x79 x80 x81 x82 x83 x84 x85 x86 x87 x88 x89 x90 x91 x92 x93 x94 x95 x96 x97 x98 x99 x100 x101 x102 x103 x104 x105 x106 x107 x108 x109 x110 x111 x112 x113 x114 x115 x116 x117 x118 x119 x120 x121 x122 x123 x124 x125 x126 x127 x128 x129 x130 x131 x132 x133 x134 x135 : Value} : Fr { tmps := #[.string s, x1, x2, x3, x4, vl, .pointer (some ⟨g, 0, none⟩), va, ve, vo, vc, x11, x12, x13, x14, x15, x16, x17, x18, x19, x20, x21, x22, x23, x24, x25, x26, x27, x28, x29, x30, x31, x32, x33, x34, x35, x36, x37, x38, x39, x40, x41, x42, x43, x44, x45, x46, x47, x48, x49, x50, x51, x52, x53, x54, x55, x56, x57, x58, x59, x60, x61, x62, x63, x64, x65, x66, x67, x68, x69, x70, x71, x72, x73, x74, x75, x76, x77, x78, x79, x80, x81, x82, x83, x84, x85, x86, x87, x88, x89, x90, x91, x92, x93, x94, x95, x96, x97, x98, x99, x100, x101, x102, x103, x104, x105, x106, x107, x108, x109, x110, x111, x112, x113, x114, x115, x116, x117, x118, x119, x120, x121, x122, x123, x124, x125, x126, x127, x128, x129, x130, x131, x132, x133, x134, x135], defers := [] } s g vl va ve vo vc := ⟨fun i => (#[undef, x1, x2, x3, x4, undef, undef, undef, undef, undef, undef, x11, x12, x13, x14, x15, x16, x17, x18, x19, x20, x21, x22, x23, x24, x25, x26, x27, x28, x29, x30, x31, x32, x33, x34, x35, x36, x37, x38, x39, x40, x41, x42, x43, x44, x45, x46, x47, x48, x49, x50, x51, x52, x53, x54, x55, x56, x57, x58, x59, x60, x61, x62, x63, x64, x65, x66, x67, x68, x69, x70, x71, x72, x73, x74, x75, x76, x77, x78, x79, x80, x81, x82, x83, x84, x85, x86, x87, x88, x89, x90, x91, x92, x93, x94, x95, x96, x97, x98, x99, x100, x101, x102, x103, x104, x105, x106, x107, x108, x109, x110, x111, x112, x113, x114, x115, x116, x117, x118, x119, x120, x121, x122, x123, x124, x125, x126, x127, x128, x129, x130, x131, x132, x133, x134, x135] : Array Value).getD i undef, rfl⟩
theorem Fr.at7 {a : Act} {s : ByteArray} {g : Nat} {vl va ve vo vc : Value} (h : Fr a s g vl va ve vo vc) : a.tmps.getD 7 undef = va := by
  obtain ⟨u, rfl⟩ := h
  rfl

def ABase (s : ByteArray) (W : World) (ts : List Tk) (A : Option Addr) (m c k : Nat) (wr : World) : Prop :=
  wr.ownsRow (W.heap.size + 1) 85 4 (.slice A m c) m (cells4 ts) ∧ Below W.heap.size W wr ∧ W.heap.size + 1 ≤ wr.heap.size ∧ ts.length ≤ k ∧ k ≤ s.size ∧ lexB s.data.toList 0 = cat ts (lexB (s.data.toList.drop k) k)
def goesTo (c : UInt8) : Nat := if lett c = true then 1 else if dgt c = true ∨ c = 45 then 2 else if c = 64 then 3 else if c = 35 then 4 else if c = 34 then 5 else 6
def JTok (s : ByteArray) (W : World) (lab : Nat) (a : Act) (wr : World) : Prop :=
  ∃ (ts : List Tk) (A : Option Addr) (m c k : Nat) (b : UInt8) (ve vo : Value), Fr a s W.heap.size (.slice A m c) (.int .i64 (k : Int)) ve vo (.int .u8 (b.toNat : Int)) ∧ ABase s W ts A m c k wr ∧ k < s.size ∧ s.data.toList[k]? = some b ∧ blk b = false ∧ goesTo b = lab ∧ Tb wr W.heap.size 0 (k : Int) 0 ⟨#[]⟩
def JBlank (s : ByteArray) (W : World) (a : Act) (wr : World) : Prop :=
  ∃ (ts : List Tk) (A : Option Addr) (m c k : Nat) (ve vo vc : Value) (kk pp nn : Int) (ss : ByteArray), Fr a s W.heap.size (.slice A m c) (.int .i64 (k : Int)) ve vo vc ∧ ABase s W ts A m c k wr ∧ Tb wr W.heap.size kk pp nn ss
def BackT (x : Option (Int × Int × List UInt8 × Nat)) (k : Nat) (ok : Bool) (kk nn : Int) (ss : ByteArray) (e : Int) : Prop :=
  ok = x.isSome ∧ ∀ k' n' st j, x = some (k', n', st, j) → kk = k' ∧ (k : Int) = (k : Int) ∧ nn = n' ∧ ss = ⟨st.toArray⟩ ∧ e = ((k + j : Nat) : Int)
def JBack (s : ByteArray) (W : World) (a : Act) (wr : World) : Prop :=
  ∃ (ts : List Tk) (A : Option Addr) (m c k : Nat) (b : UInt8) (e : Int) (ok : Bool) (vc : Value) (kk nn : Int) (ss : ByteArray), Fr a s W.heap.size (.slice A m c) (.int .i64 (k : Int)) (.int .i64 e) (.bool ok) vc ∧ ABase s W ts A m c k wr ∧ k < s.size ∧ s.data.toList[k]? = some b ∧ blk b = false ∧ Tb wr W.heap.size kk (k : Int) nn ss ∧ BackT (tokB (s.data.toList.drop k)) k ok kk nn ss e
def JAll (s : ByteArray) (W : World) (lab : Nat) (a : Act) (wr : World) : Prop :=
  if lab = 0 then JBlank s W a wr else if lab = 7 then JBack s W a wr else JTok s W lab a wr
def muAll (s : ByteArray) (lab : Nat) (a : Act) (_ : World) : Nat := 3 * (s.size - (intOf (a.tmps.getD 7 undef)).toNat) + if lab = 0 then 2 else if lab = 7 then 0 else 1
theorem mu_eq {s : ByteArray} {lab k : Nat} {a : Act} {w : World} {g : Nat} {vl ve vo vc : Value} (h : Fr a s g vl (.int .i64 (k : Int)) ve vo vc) : muAll s lab a w = 3 * (s.size - k) + if lab = 0 then 2 else if lab = 7 then 0 else 1 := by
  unfold muAll
  rw [h.at7]
  simp [intOf]
def AllP (W : World) (x : Except Nat (List Tk)) (e : Ending) (w' : World) : Prop :=
  match x with
  | .ok ts => ∃ A n c, e = .returned (.tuple #[.slice A n c, .int .i64 0, .int .i64 0]) ∧ w'.ownsRow (W.heap.size + 1) 85 4 (.slice A n c) n (cells4 ts) ∧ Below W.heap.size W w'
  | .error i => e = .returned (.tuple #[.slice none 0 0, .int .i64 5, .int .i64 (i : Int)]) ∧ Below W.heap.size W w'
def allQ (s : ByteArray) (W : World) : Exit → Act → World → Prop := bodyPost Try.prog Try.f23 fun e w' => AllP W (lexB s.data.toList 0) e w'

theorem drop_at' {l : List UInt8} {k : Nat} {c : UInt8} (h : l[k]? = some c) : l.drop k = c :: l.drop (k + 1) := drop_at h
theorem ba_of {s : ByteArray} {l : List UInt8} (h : s.data.toList = l) : s = ⟨l.toArray⟩ := by
  subst h
  simp
theorem size_set (w : World) (p : Addr) (v : Value) : (w.setCell p v).heap.size = w.heap.size := by simp [World.setCell]
section
variable {s : ByteArray} {W wr w2 : World} {ts : List Tk} {A : Option Addr} {m c k : Nat}
theorem ABase.then_ (h : ABase s W ts A m c k wr) (hb : Below wr.heap.size wr w2) : ABase s W ts A m c k w2 := by
  obtain ⟨h1, h2, h3, h4, h5, h6⟩ := h
  exact ⟨own_tok h1 hb, h2.trans (hb.mono (by omega)), by have := hb.size; omega, h4, h5, h6⟩
theorem ABase.set (h : ABase s W ts A m c k wr) (i : Nat) (v : Value) : ABase s W ts A m c k (wr.setCell ⟨W.heap.size, i, none⟩ v) := by
  obtain ⟨h1, h2, h3, h4, h5, h6⟩ := h
  exact ⟨own_only h1 (Only.refl.setCell (p := ⟨W.heap.size, i, none⟩) rfl v) (Nat.lt_succ_self _), h2.setCell (p := ⟨W.heap.size, i, none⟩) (Nat.le_refl _) v, by rw [size_set]; omega, h4, h5, h6⟩
end
theorem JAll7 {s : ByteArray} {W : World} {a : Act} {wr : World} (h : JBack s W a wr) : JAll s W 7 a wr := by unfold JAll; rw [if_neg (by omega), if_pos rfl]; exact h
theorem JAll0 {s : ByteArray} {W : World} {a : Act} {wr : World} (h : JBlank s W a wr) : JAll s W 0 a wr := by unfold JAll; rw [if_pos rfl]; exact h
theorem JAllT {s : ByteArray} {W : World} {a : Act} {wr : World} {lab : Nat} (h0 : lab ≠ 0) (h7 : lab ≠ 7) (h : JTok s W lab a wr) : JAll s W lab a wr := by unfold JAll; rw [if_neg h0, if_neg h7]; exact h
theorem back_none {k : Nat} {kk nn : Int} {ss : ByteArray} {e : Int} : BackT none k false kk nn ss e := ⟨rfl, fun _ _ _ _ h => by cases h⟩
theorem back_some {k j : Nat} {kk nn : Int} {ss : ByteArray} {e : Int} {st : List UInt8} (h1 : ss = ⟨st.toArray⟩) (h2 : e = ((k + j : Nat) : Int)) : BackT (some (kk, nn, st, j)) k true kk nn ss e :=
  ⟨rfl, fun k' n' st' j' h => by
    simp only [Option.some.injEq, Prod.mk.injEq] at h
    obtain ⟨rfl, rfl, rfl, rfl⟩ := h
    exact ⟨rfl, rfl, rfl, h1, h2⟩⟩
theorem tw_take (p : UInt8 → Bool) (l : List UInt8) : l.take (l.takeWhile p).length = l.takeWhile p := by
  induction l with
  | nil => rfl
  | cons c r ih =>
    cases h : p c with
    | true => rw [List.takeWhile_cons, if_pos h, List.length_cons, List.take_succ_cons, ih]
    | false => rw [List.takeWhile_cons, if_neg (by rw [h]; simp)]; rfl
theorem tw_all (p : UInt8 → Bool) (l : List UInt8) : ∀ c ∈ l.takeWhile p, p c = true := by
  induction l with
  | nil => intro c h; cases h
  | cons d r ih =>
    intro c h
    cases hd : p d with
    | true =>
      rw [List.takeWhile_cons, if_pos hd] at h
      rcases List.mem_cons.1 h with rfl | h
      · exact hd
      · exact ih c h
    | false => rw [List.takeWhile_cons, if_neg (by rw [hd]; simp)] at h; cases h
theorem ext_tw (s : ByteArray) (p : UInt8 → Bool) (a : Nat) : (s.extract a (a + ((s.data.toList.drop a).takeWhile p).length)).data.toList = (s.data.toList.drop a).takeWhile p := by
  rw [ext_mid, Nat.add_sub_cancel_left, tw_take]
theorem tw_le (s : ByteArray) (p : UInt8 → Bool) (a : Nat) (ha : a ≤ s.size) : a + ((s.data.toList.drop a).takeWhile p).length ≤ s.size := by
  have := tk_len p (s.data.toList.drop a)
  rw [List.length_drop, data_len] at this
  omega
theorem ext_tw1 (s : ByteArray) (p : UInt8 → Bool) (k : Nat) {b : UInt8} (hb : s.data.toList[k]? = some b) : (s.extract k (k + 1 + ((s.data.toList.drop (k + 1)).takeWhile p).length)).data.toList = b :: (s.data.toList.drop (k + 1)).takeWhile p := by
  rw [ext_mid, drop_at' hb, show k + 1 + ((s.data.toList.drop (k + 1)).takeWhile p).length - k = ((s.data.toList.drop (k + 1)).takeWhile p).length + 1 by omega, List.take_succ_cons, tw_take]
theorem goes1 {b : UInt8} (h : goesTo b = 1) : lett b = true := by
  unfold goesTo at h
  split at h
  · assumption
  · split at h <;> (try split at h) <;> (try split at h) <;> (try split at h) <;> omega
theorem goes2 {b : UInt8} (h : goesTo b = 2) : lett b = false ∧ (dgt b = true ∨ b = 45) := by
  unfold goesTo at h
  split at h
  · omega
  · rename_i h1
    split at h
    · rename_i h2; exact ⟨by simpa using h1, h2⟩
    · split at h <;> (try split at h) <;> (try split at h) <;> omega
theorem goes3 {b : UInt8} (h : goesTo b = 3) : b = 64 := by
  unfold goesTo at h
  split at h
  · omega
  · split at h
    · omega
    · split at h
      · assumption
      · split at h <;> (try split at h) <;> omega
theorem goes4 {b : UInt8} (h : goesTo b = 4) : b = 35 := by
  unfold goesTo at h
  split at h
  · omega
  · split at h
    · omega
    · split at h
      · omega
      · split at h
        · assumption
        · split at h <;> omega
theorem goes5 {b : UInt8} (h : goesTo b = 5) : b = 34 := by
  unfold goesTo at h
  split at h
  · omega
  · split at h
    · omega
    · split at h
      · omega
      · split at h
        · omega
        · split at h
          · assumption
          · omega
theorem goes6 {b : UInt8} (h : goesTo b = 6) : lett b = false ∧ dgt b = false ∧ b ≠ 45 ∧ b ≠ 64 ∧ b ≠ 35 ∧ b ≠ 34 := by
  unfold goesTo at h
  split at h
  · omega
  · rename_i h1
    split at h
    · omega
    · rename_i h2
      split at h
      · omega
      · split at h
        · omega
        · split at h
          · omega
          · rename_i h3 h4 h5
            simp at h1 h2
            exact ⟨h1, h2.1, h2.2, h3, h4, h5⟩
noncomputable def allCode : Code := match Try.f23.body with | some (.seq _ (.scope c)) => c | _ => .skip
end Go.Proofs.Ytadjfkgnoklmiaa
/- lex.All: from label to label. -/
namespace Go.Proofs.Ytadjfkgnoklmiaa
set_option linter.unusedVariables false
open Go.RowKit

noncomputable def backCode : Code := match findLabel allCode 7 with | some (.seq _ c) => c | _ => .skip
theorem cat_bad {l : List UInt8} {ts : List Tk} {k : Nat} {b : UInt8} {r : List UInt8} (h : l = b :: r) (hb : blk b = false) (ht : tokB l = none) : cat ts (lexB l k) = .error k := by
  rw [h, lexB_bad hb (by rw [← h]; exact ht)]
  rfl
theorem cat_tok {l : List UInt8} {ts : List Tk} {k : Nat} {b : UInt8} {r : List UInt8} {k' n' : Int} {st : List UInt8} {j : Nat} (h : l = b :: r) (hb : blk b = false) (ht : tokB l = some (k', n', st, j)) : cat ts (lexB l k) = cat (ts ++ [⟨k', k, n', ⟨st.toArray⟩⟩]) (lexB (l.drop j) (k + j)) := by
  subst h
  rw [lexB_tok hb ht, cat_cat]
set_option maxRecDepth 100000 in
set_option maxHeartbeats 1600000 in
theorem backPass' (s : ByteArray) (W : World) (hs : s.size ≤ 4096) (a : Act) (wr : World) (hJ : JBack s W a wr) : ∃ R, findLabel allCode 7 = some (.seq .skip R) ∧ R.wp Try.prog (exitsTo (fun l' a' w' => JAll s W l' a' w' ∧ muAll s l' a' w' < muAll s 7 a wr) (allQ s W)) a wr := by
  obtain ⟨ts, A, m, c, k, b, e, ok, vc, kk, nn, ss, hf, hb, hk, hkb, hbl, ht, hbk⟩ := hJ
  rw [mu_eq hf]
  obtain ⟨u, rfl⟩ := hf
  have hd := drop_at' hkb
  cases ho : tokB (s.data.toList.drop k) with
  | none =>
    rw [ho] at hbk
    obtain rfl : ok = false := hbk.1
    have HV : Hid (lexB s.data.toList 0 = .error k) := by
      show _ = _
      rw [hb.2.2.2.2.2]
      exact cat_bad hd hbl ho
    have HBEL := Lib.hid hb.2.1
    clear hb hkb hbl ht hbk hd ho
    refine ⟨_, rfl, ?_⟩
    go_wp2_with fail
    rw [exitsTo_ret]
    unfold allQ
    go_ret3
    rw [HV.out]
    exact ⟨rfl, HBEL.out⟩
  | some q =>
    obtain ⟨k', n', st, j⟩ := q
    rw [ho] at hbk
    obtain rfl : ok = true := hbk.1
    obtain ⟨rfl, _, rfl, rfl, rfl⟩ := hbk.2 _ _ _ _ rfl
    have hj := tokB_pos ho
    have hj2 : j ≤ s.size - k := by have := hj.2.1; rwa [List.length_drop, data_len] at this
    have HV : Hid (lexB s.data.toList 0 = cat (ts ++ [⟨kk, k, nn, ⟨st.toArray⟩⟩]) (lexB (s.data.toList.drop (k + j)) (k + j))) := by
      show _ = _
      rw [hb.2.2.2.2.2, cat_tok hd hbl ho, List.drop_drop]
    have hm : ts.length = m := by have := hb.1.1; rw [cells4_len] at this; omega
    have htl := hb.2.2.2.1
    have hap := append_tok (ty := 70) hb.1 ⟨kk, k, nn, ⟨st.toArray⟩⟩ (by omega) hb.2.2.1
    obtain ⟨A2, c2, w2, hap, hown2, hbel2⟩ := hap
    have HAP := Lib.hid hap
    have HB3 : Hid (ABase s W (ts ++ [⟨kk, k, nn, ⟨st.toArray⟩⟩]) A2 (m + 1) c2 (k + j) w2) := by
      exact ⟨hown2, hb.2.1.trans (hbel2.mono (by omega)), by have := hbel2.size; have := hb.2.2.1; omega, by rw [List.length_append]; simp; omega, by omega, HV.out⟩
    have T3 := Lib.hid (ht.below hbel2 (Nat.lt_succ_self _))
    have c1 := ht.c4
    have hj1 := hj.1
    clear hb hkb hbl hd ho hbk hap hown2 hbel2 hj ht
    generalize (⟨st.toArray⟩ : ByteArray) = x at *
    refine ⟨_, rfl, ?_⟩
    go_wp2_with (at_builtin; refine wpList_append_run rfl _ _ _ _ rfl rfl rfl HAP.out ?_)
    go_step3
    rw [show (k : Int) + (j : Int) = ((k + j : Nat) : Int) by omega]
    refine ⟨JAll0 ⟨_, A2, m + 1, c2, k + j, _, _, _, _, _, _, _, Fr_mk, HB3.out, T3.out⟩, ?_⟩
    rw [mu_eq Fr_mk]
    simp
    omega
theorem backPass (s : ByteArray) (W : World) (hs : s.size ≤ 4096) (a : Act) (wr : World) (hJ : JBack s W a wr) : backCode.wp Try.prog (exitsTo (fun l' a' w' => JAll s W l' a' w' ∧ muAll s l' a' w' < muAll s 7 a wr) (allQ s W)) a wr := by
  obtain ⟨R, h, hw⟩ := backPass' s W hs a wr hJ
  unfold backCode
  rw [h]
  exact hw
theorem pass7 (s : ByteArray) (W : World) (hs : s.size ≤ 4096) (a : Act) (wr : World) (hJ : JBack s W a wr) : ∃ R, findLabel allCode 7 = some R ∧ R.wp Try.prog (exitsTo (fun l' a' w' => JAll s W l' a' w' ∧ muAll s l' a' w' < muAll s 7 a wr) (allQ s W)) a wr := by
  refine ⟨.seq .skip backCode, rfl, ?_⟩
  have h := Lib.hid (backPass s W hs a wr hJ)
  clear hJ
  go_wp2_with fail
  exact h.out
end Go.Proofs.Ytadjfkgnoklmiaa
/- lex.All: from label to label. -/
namespace Go.Proofs.Ytadjfkgnoklmiaa
set_option linter.unusedVariables false
open Go.RowKit

noncomputable def blankCode : Code := match findLabel allCode 0 with | some (.seq _ c) => c | _ => .skip
theorem ABase.skip {s : ByteArray} {W wr : World} {ts : List Tk} {A : Option Addr} {m c k : Nat} (h : ABase s W ts A m c k wr) : ABase s W ts A m c (k + ((s.data.toList.drop k).takeWhile blk).length) wr := by
  obtain ⟨h1, h2, h3, h4, h5, h6⟩ := h
  exact ⟨h1, h2, h3, by omega, tw_le s blk k h5, by rw [h6, lexB_skip, List.drop_drop]⟩
theorem skip_not (s : ByteArray) (k : Nat) {b : UInt8} (h : s.data.toList[k + ((s.data.toList.drop k).takeWhile blk).length]? = some b) : blk b = false := by
  have hd := drop_at' h
  rw [← List.drop_drop] at hd
  exact drop_tw hd
theorem six_ways (b : UInt8) : (lett b = true ∧ goesTo b = 1) ∨ (lett b = false ∧ dgt b = true ∧ goesTo b = 2) ∨ (lett b = false ∧ dgt b = false ∧ ((b.toNat : Int) == 45) = true ∧ goesTo b = 2) ∨
    (lett b = false ∧ dgt b = false ∧ ((b.toNat : Int) == 45) = false ∧ ((b.toNat : Int) == 64) = true ∧ goesTo b = 3) ∨ (lett b = false ∧ dgt b = false ∧ ((b.toNat : Int) == 45) = false ∧ ((b.toNat : Int) == 64) = false ∧ ((b.toNat : Int) == 35) = true ∧ goesTo b = 4) ∨
    (lett b = false ∧ dgt b = false ∧ ((b.toNat : Int) == 45) = false ∧ ((b.toNat : Int) == 64) = false ∧ ((b.toNat : Int) == 35) = false ∧ ((b.toNat : Int) == 34) = true ∧ goesTo b = 5) ∨
    (lett b = false ∧ dgt b = false ∧ ((b.toNat : Int) == 45) = false ∧ ((b.toNat : Int) == 64) = false ∧ ((b.toNat : Int) == 35) = false ∧ ((b.toNat : Int) == 34) = false ∧ goesTo b = 6) := by
  have e : ∀ q : UInt8, ((b.toNat : Int) == (q.toNat : Int)) = decide (b = q) := fun q => by
    rw [Bool.eq_iff_iff, beq_iff_eq, decide_eq_true_iff]
    exact ⟨fun h => UInt8.toNat_inj.1 (by omega), fun h => by rw [h]⟩
  have e1 : ((b.toNat : Int) == 45) = decide (b = 45) := e 45
  have e2 : ((b.toNat : Int) == 64) = decide (b = 64) := e 64
  have e3 : ((b.toNat : Int) == 35) = decide (b = 35) := e 35
  have e4 : ((b.toNat : Int) == 34) = decide (b = 34) := e 34
  rw [e1, e2, e3, e4]
  unfold goesTo
  cases lett b <;> cases dgt b <;> by_cases h1 : b = 45 <;> by_cases h2 : b = 64 <;> by_cases h3 : b = 35 <;> by_cases h4 : b = 34 <;> simp [h1, h2, h3, h4]
set_option maxRecDepth 100000 in
set_option maxHeartbeats 800000 in
theorem blankPass' (s : ByteArray) (W : World) (hs : s.size ≤ 4096) (a : Act) (wr : World) (hJ : JBlank s W a wr) : ∃ R, findLabel allCode 0 = some (.seq .skip R) ∧ R.wp Try.prog (exitsTo (fun l' a' w' => JAll s W l' a' w' ∧ muAll s l' a' w' < muAll s 0 a wr) (allQ s W)) a wr := by
  obtain ⟨ts, A, m, c, k, ve, vo, vc, kk, pp, nn, ss, hf, hb, ht⟩ := hJ
  rw [mu_eq hf]
  obtain ⟨u, rfl⟩ := hf
  have hpa := past_blank s (by unfold maxLen; omega) k hb.2.2.2.2.1 wr
  have hb2 := hb.skip
  have hsk := fun b => skip_not s k (b := b)
  have hle := tw_le s blk k hb.2.2.2.2.1
  have hge : k ≤ k + ((s.data.toList.drop k).takeWhile blk).length := by omega
  generalize k + ((s.data.toList.drop k).takeWhile blk).length = j at *
  have T1 := Lib.hid (ht.put 0 (j : Int) 0 ⟨#[]⟩)
  have HB1 := Lib.hid ((((hb2.set 0 (.int .i64 0)).set 1 (.int .i64 (j : Int))).set 2 (.int .i64 0)).set 3 (.string ⟨#[]⟩))
  obtain ⟨w1, hw1⟩ : ∃ w1, w1 = (((wr.setCell ⟨W.heap.size, 0, none⟩ (.int .i64 0)).setCell ⟨W.heap.size, 1, none⟩ (.int .i64 (j : Int))).setCell ⟨W.heap.size, 2, none⟩ (.int .i64 0)).setCell ⟨W.heap.size, 3, none⟩ (.string ⟨#[]⟩) := ⟨_, rfl⟩
  rw [← hw1] at T1 HB1
  have HW1 := Lib.hid hw1
  have HPA := Lib.hid hpa
  have HSK := Lib.hid hsk
  have c1 := ht.c4
  have f1 := ht.fz
  clear hb hpa hb2 hsk hw1
  refine ⟨_, rfl, ?_⟩
  go_wp2_with fail
  refine HPA.out.mono ?_
  rintro e' w' ⟨rfl, rfl⟩
  go_upto_region 8 with (fail)
  rw [← HW1.out]
  clear c1 f1 HW1 ht HPA
  have c2 := T1.out.c4
  have f2 := T1.out.fz
  by_cases hjs : j = s.size
  · subst hjs
    have hl : lexB s.data.toList 0 = .ok (ts ++ [⟨7, (s.size : Int), 0, ⟨#[]⟩⟩]) := by
      rw [HB1.out.2.2.2.2.2, List.drop_of_length_le (by rw [data_len]; exact Nat.le_refl _), lexB_nil]
      rfl
    have HV := Lib.hid hl
    have T3 := Lib.hid (T1.out.setK 7)
    have HB3 := Lib.hid (HB1.out.set 0 (.int .i64 7))
    have hm : ts.length = m := by have := HB1.out.1.1; rw [cells4_len] at this; omega
    have htl := HB1.out.2.2.2.1
    obtain ⟨A2, c2', w2, hap, hown2, hbel2⟩ := append_tok (ty := 70) HB3.out.1 ⟨7, (s.size : Int), 0, ⟨#[]⟩⟩ (by omega) HB3.out.2.2.1
    rw [size_set] at hap
    have HAP := Lib.hid hap
    have HO := Lib.hid hown2
    have HBE := Lib.hid (HB3.out.2.1.trans (hbel2.mono (by omega)))
    have c3 := T3.out.c4
    clear hl hap hown2 hbel2 hle hge hm
    go_wp2_with (at_builtin; refine wpList_append_run rfl _ _ _ _ rfl rfl rfl HAP.out ?_)
    rw [exitsTo_ret]
    unfold allQ
    go_ret3
    rw [HV.out]
    exact ⟨A2, m + 1, c2', rfl, HO.out, HBE.out⟩
  · have hlt : j < s.size := by omega
    have hjb : ((j : Int) == (s.size : Int)) = false := by rw [beq_eq_false_iff_ne]; omega
    have hji : 0 ≤ (j : Int) ∧ (j : Int) < s.size := by omega
    have hd := data_at hlt
    generalize hbb : s[j] = b at *
    have HD := Lib.hid hd
    have HBL := Lib.hid (HSK.out b hd)
    have HLT := letter_any b
    have HDG := digit_any b
    have HLT2 := Lib.hid HLT
    have HDG2 := Lib.hid HDG
    clear hd hjs HLT HDG
    rcases six_ways b with ⟨e1, hg⟩ | ⟨e1, e2, hg⟩ | ⟨e1, e2, e3, hg⟩ | ⟨e1, e2, e3, e4, hg⟩ | ⟨e1, e2, e3, e4, e5, hg⟩ | ⟨e1, e2, e3, e4, e5, e6, hg⟩ | ⟨e1, e2, e3, e4, e5, e6, hg⟩
    all_goals
      rw [e1] at HLT2
      try rw [e2] at HDG2
      have HG := Lib.hid hg
      clear hg e1
      try clear e2
      go_wp2_with (first | (go_at_call 34; refine (HLT2.out _).mono ?_; rintro e'' w'' ⟨rfl, rfl⟩) | (go_at_call 35; refine (HDG2.out _).mono ?_; rintro e'' w'' ⟨rfl, rfl⟩))
      go_step3
      refine ⟨JAllT (by omega) (by omega) ⟨ts, A, m, c, j, b, _, _, Fr_mk, (HB1.out : ABase s W ts A m c j _), hlt, HD.out, HBL.out, HG.out, T1.out⟩, ?_⟩
      rw [mu_eq Fr_mk]
      simp
      omega
end Go.Proofs.Ytadjfkgnoklmiaa
/- lex.All: from label to label. -/
namespace Go.Proofs.Ytadjfkgnoklmiaa
set_option linter.unusedVariables false
open Go.RowKit

set_option maxRecDepth 100000 in
set_option maxHeartbeats 1600000 in
theorem pass1 (s : ByteArray) (W : World) (hs : s.size ≤ 4096) (a : Act) (wr : World) (hJ : JTok s W 1 a wr) : ∃ R, findLabel allCode 1 = some R ∧ R.wp Try.prog (exitsTo (fun l' a' w' => JAll s W l' a' w' ∧ muAll s l' a' w' < muAll s 1 a wr) (allQ s W)) a wr := by
  refine ⟨_, rfl, ?_⟩
  obtain ⟨ts, A, m, c, k, b, ve, vo, hf, hb, hk, hkb, hbl, hg, ht⟩ := hJ
  rw [mu_eq hf]
  obtain ⟨u, rfl⟩ := hf
  have HB := Lib.hid hb
  have HKB := Lib.hid hkb
  have HBL := Lib.hid hbl
  have HD := Lib.hid (drop_at' hkb)
  have T1 := Lib.hid (ht.setK 1)
  have c1 := ht.c4
  have f1 := ht.fz
  have c2 := T1.out.c4
  have f2 := T1.out.fz
  have hpa := past_inName s (by unfold maxLen; omega) (k) (by omega) wr
  have hle := tw_le s inm (k) (by omega)
  have hex := ext_tw s inm (k)
  have hl1 := goes1 hg
  have HV : Hid (tokB (s.data.toList.drop k) = if Named ((s.data.toList.drop k).takeWhile inm) then some (1, 0, (s.data.toList.drop k).takeWhile inm, ((s.data.toList.drop k).takeWhile inm).length) else none) := by
    show _ = _
    rw [HD.out, tokB, if_pos hl1]
  generalize hnm : (s.data.toList.drop (k)).takeWhile inm = nm at *
  generalize he : k + nm.length = e at *
  have hnv := lname_any (s.extract (k) e) (wr.setCell ⟨W.heap.size, 0, none⟩ (.int .i64 1)) (by rw [ext_size _ hle]; omega)
  have HX : Hid (nameV (s.extract (k) e) = .tuple #[.string (if Named nm then ⟨nm.toArray⟩ else ⟨#[]⟩), .bool (decide (Named nm))]) := by
    show _ = _
    unfold nameV
    rw [hex]
    by_cases h : Named nm
    · rw [if_pos h, if_pos h, ba_of hex]
    · rw [if_neg h, if_neg h]
  rw [HX.out] at hnv
  have HBK : Hid (BackT (if Named nm then some (1, 0, nm, nm.length) else none) k (decide (Named nm)) 1 0 (if Named nm then ⟨nm.toArray⟩ else ⟨#[]⟩) (e : Int)) := by
    show BackT _ _ _ _ _ _ _
    by_cases h : Named nm
    · rw [if_pos h, if_pos h, decide_eq_true h]
      exact back_some rfl (by omega)
    · rw [if_neg h, if_neg h, decide_eq_false h]
      exact back_none
  generalize (if Named nm then (⟨nm.toArray⟩ : ByteArray) else ⟨#[]⟩) = x at *
  generalize decide (Named nm) = ok at *
  have HPA := Lib.hid hpa
  have HNV := Lib.hid hnv
  have HB1 := Lib.hid (HB.out.set 0 (.int .i64 1))
  have hki : k ≤ e := by omega
  have hki2 : ((k : Nat) : Int) ≤ (e : Int) := by omega
  have hki3 : (k : Int) + 1 ≤ (e : Int) + 1 := by omega
  have hki4 : ((k : Int) + 1).toNat = k + 1 := by omega
  have hki5 : (0 : Int) ≤ (k : Int) + 1 := by omega
  clear hpa hnv hb hkb hbl hg ht hex hnm he hl1
  go_wp2_with fail
  refine HPA.out.mono ?_
  rintro e' w' ⟨rfl, rfl⟩
  go_wp2_with fail
  refine HNV.out.mono ?_
  rintro e' w2 ⟨rfl, hb2⟩
  have T2 := Lib.hid (T1.out.then_ hb2)
  have T3 := Lib.hid (T2.out.setS x)
  have HB3 := Lib.hid ((HB1.out.then_ hb2).set 3 (.string x))
  have c3 := T2.out.c4
  have f3 := T2.out.fz
  clear hb2
  go_wp2_with fail
  go_step3
  refine ⟨JAll7 ⟨ts, A, m, c, k, b, _, _, _, _, _, _, Fr_mk, (HB3.out : ABase s W ts A m c k _), hk, HKB.out, HBL.out, T3.out, ?_⟩, ?_⟩
  · rw [HV.out]
    exact HBK.out
  · rw [mu_eq Fr_mk]
    simp

set_option maxRecDepth 100000 in
set_option maxHeartbeats 1600000 in
theorem pass4 (s : ByteArray) (W : World) (hs : s.size ≤ 4096) (a : Act) (wr : World) (hJ : JTok s W 4 a wr) : ∃ R, findLabel allCode 4 = some R ∧ R.wp Try.prog (exitsTo (fun l' a' w' => JAll s W l' a' w' ∧ muAll s l' a' w' < muAll s 4 a wr) (allQ s W)) a wr := by
  refine ⟨_, rfl, ?_⟩
  obtain ⟨ts, A, m, c, k, b, ve, vo, hf, hb, hk, hkb, hbl, hg, ht⟩ := hJ
  rw [mu_eq hf]
  obtain ⟨u, rfl⟩ := hf
  have HB := Lib.hid hb
  have HKB := Lib.hid hkb
  have HBL := Lib.hid hbl
  have HD := Lib.hid (drop_at' hkb)
  have T1 := Lib.hid (ht.setK 4)
  have c1 := ht.c4
  have f1 := ht.fz
  have c2 := T1.out.c4
  have f2 := T1.out.fz
  have hpa := past_inName s (by unfold maxLen; omega) (k + 1) (by omega) wr
  have hle := tw_le s inm (k + 1) (by omega)
  have hex := ext_tw s inm (k + 1)
  have hl1 := goes4 hg
  have HV : Hid (tokB (s.data.toList.drop k) = if Named ((s.data.toList.drop (k + 1)).takeWhile inm) then some (4, 0, (s.data.toList.drop (k + 1)).takeWhile inm, ((s.data.toList.drop (k + 1)).takeWhile inm).length + 1) else none) := by
    show _ = _
    rw [HD.out, hl1, tokB, if_neg (by decide), if_neg (by decide), if_neg (by decide), if_neg (by decide), if_pos rfl]
  generalize hnm : (s.data.toList.drop (k + 1)).takeWhile inm = nm at *
  generalize he : k + 1 + nm.length = e at *
  have hnv := lname_any (s.extract (k + 1) e) (wr.setCell ⟨W.heap.size, 0, none⟩ (.int .i64 4)) (by rw [ext_size _ hle]; omega)
  have HX : Hid (nameV (s.extract (k + 1) e) = .tuple #[.string (if Named nm then ⟨nm.toArray⟩ else ⟨#[]⟩), .bool (decide (Named nm))]) := by
    show _ = _
    unfold nameV
    rw [hex]
    by_cases h : Named nm
    · rw [if_pos h, if_pos h, ba_of hex]
    · rw [if_neg h, if_neg h]
  rw [HX.out] at hnv
  have HBK : Hid (BackT (if Named nm then some (4, 0, nm, nm.length + 1) else none) k (decide (Named nm)) 4 0 (if Named nm then ⟨nm.toArray⟩ else ⟨#[]⟩) (e : Int)) := by
    show BackT _ _ _ _ _ _ _
    by_cases h : Named nm
    · rw [if_pos h, if_pos h, decide_eq_true h]
      exact back_some rfl (by omega)
    · rw [if_neg h, if_neg h, decide_eq_false h]
      exact back_none
  generalize (if Named nm then (⟨nm.toArray⟩ : ByteArray) else ⟨#[]⟩) = x at *
  generalize decide (Named nm) = ok at *
  have HPA := Lib.hid hpa
  have HNV := Lib.hid hnv
  have HB1 := Lib.hid (HB.out.set 0 (.int .i64 4))
  have hki : k + 1 ≤ e := by omega
  have hki2 : ((k + 1 : Nat) : Int) ≤ (e : Int) := by omega
  have hki3 : (k : Int) + 1 ≤ (e : Int) + 1 := by omega
  have hki4 : ((k : Int) + 1).toNat = k + 1 := by omega
  have hki5 : (0 : Int) ≤ (k : Int) + 1 := by omega
  have hki6 : (k : Int) + 1 ≤ (e : Int) := by omega
  clear hpa hnv hb hkb hbl hg ht hex hnm he hl1
  go_wp2_with fail
  refine HPA.out.mono ?_
  rintro e' w' ⟨rfl, rfl⟩
  go_wp2_with fail
  refine HNV.out.mono ?_
  rintro e' w2 ⟨rfl, hb2⟩
  have T2 := Lib.hid (T1.out.then_ hb2)
  have T3 := Lib.hid (T2.out.setS x)
  have HB3 := Lib.hid ((HB1.out.then_ hb2).set 3 (.string x))
  have c3 := T2.out.c4
  have f3 := T2.out.fz
  clear hb2
  go_wp2_with fail
  go_step3
  refine ⟨JAll7 ⟨ts, A, m, c, k, b, _, _, _, _, _, _, Fr_mk, (HB3.out : ABase s W ts A m c k _), hk, HKB.out, HBL.out, T3.out, ?_⟩, ?_⟩
  · rw [HV.out]
    exact HBK.out
  · rw [mu_eq Fr_mk]
    simp
end Go.Proofs.Ytadjfkgnoklmiaa
/- lex.All: from label to label. -/
namespace Go.Proofs.Ytadjfkgnoklmiaa
set_option linter.unusedVariables false
open Go.RowKit

set_option maxRecDepth 100000 in
set_option maxHeartbeats 1600000 in
theorem pass2 (s : ByteArray) (W : World) (hs : s.size ≤ 4096) (a : Act) (wr : World) (hJ : JTok s W 2 a wr) : ∃ R, findLabel allCode 2 = some R ∧ R.wp Try.prog (exitsTo (fun l' a' w' => JAll s W l' a' w' ∧ muAll s l' a' w' < muAll s 2 a wr) (allQ s W)) a wr := by
  refine ⟨_, rfl, ?_⟩
  obtain ⟨ts, A, m, c, k, b, ve, vo, hf, hb, hk, hkb, hbl, hg, ht⟩ := hJ
  rw [mu_eq hf]
  obtain ⟨u, rfl⟩ := hf
  have HB := Lib.hid hb
  have HKB := Lib.hid hkb
  have HBL := Lib.hid hbl
  have HD := Lib.hid (drop_at' hkb)
  have T1 := Lib.hid (ht.setK 2)
  have c1 := ht.c4
  have f1 := ht.fz
  have c2 := T1.out.c4
  have f2 := T1.out.fz
  have hpa := past_digit s (by unfold maxLen; omega) (k + 1) (by omega) wr
  have hle := tw_le s dgt (k + 1) (by omega)
  have hex := ext_tw1 s dgt k hkb
  have hl1 := goes2 hg
  have HV : Hid (tokB (s.data.toList.drop k) = (numbA (b :: (s.data.toList.drop (k + 1)).takeWhile dgt)).map fun n => (2, n, [], ((s.data.toList.drop (k + 1)).takeWhile dgt).length + 1)) := by
    show _ = _
    rw [HD.out, tokB, if_neg (by rw [hl1.1]; simp), numbA]
    by_cases hd : dgt b = true
    · have h45 : b ≠ 45 := by rintro rfl; revert hd; decide
      rw [if_pos hd, if_neg h45, List.takeWhile_cons, if_pos hd, Option.map_map]
      rfl
    · obtain rfl : b = 45 := hl1.2.resolve_left hd
      rw [if_neg hd, if_pos rfl, if_pos rfl]
      cases decD 9223372036854775808 ((s.data.toList.drop (k + 1)).takeWhile dgt) with
      | none => rfl
      | some n =>
        simp only [Option.bind_some]
        by_cases hz : n = 0
        · rw [if_pos hz, if_pos hz]; rfl
        · rw [if_neg hz, if_neg hz]; rfl
  have hal := tw_all dgt (s.data.toList.drop (k + 1))
  generalize hnm : (s.data.toList.drop (k + 1)).takeWhile dgt = ds at *
  generalize he : k + 1 + ds.length = e at *
  have hnv := number_any (s.extract k e) (by rw [ext_size _ hle]; omega) hex hal (by rcases hl1.2 with h | h; exact .inr h; exact .inl h) (wr.setCell ⟨W.heap.size, 0, none⟩ (.int .i64 2))
  rw [hex] at hnv
  generalize numbA (b :: ds) = o at *
  have HX : Hid (nmV o = .tuple #[.int .i64 (o.getD 0), .bool o.isSome]) := rfl
  rw [HX.out] at hnv
  have HBK : Hid (BackT (o.map fun n => (2, n, [], ds.length + 1)) k o.isSome 2 (o.getD 0) ⟨#[]⟩ (e : Int)) := by
    show BackT _ _ _ _ _ _ _
    cases o with
    | none => exact back_none
    | some n => exact back_some rfl (by omega)
  generalize o.getD 0 = x at *
  generalize o.isSome = ok at *
  have HPA := Lib.hid hpa
  have HNV := Lib.hid hnv
  have HB1 := Lib.hid (HB.out.set 0 (.int .i64 2))
  have T3 := Lib.hid (T1.out.setN x)
  have HB3 := Lib.hid (HB1.out.set 2 (.int .i64 x))
  have hki : k ≤ e := by omega
  have hki2 : ((k : Nat) : Int) ≤ (e : Int) := by omega
  have hki3 : (k : Int) + 1 ≤ (e : Int) + 1 := by omega
  have hki4 : ((k : Int) + 1).toNat = k + 1 := by omega
  have hki5 : (0 : Int) ≤ (k : Int) + 1 := by omega
  have hki6 : (k : Int) + 1 ≤ (e : Int) := by omega
  clear hpa hnv hb hkb hbl hg ht hex hnm he hl1 hal
  go_wp2_with fail
  refine HPA.out.mono ?_
  rintro e' w' ⟨rfl, rfl⟩
  go_wp2_with fail
  refine HNV.out.mono ?_
  rintro e' w2 ⟨rfl, rfl⟩
  go_wp2_with fail
  go_step3
  refine ⟨JAll7 ⟨ts, A, m, c, k, b, _, _, _, _, _, _, Fr_mk, (HB3.out : ABase s W ts A m c k _), hk, HKB.out, HBL.out, T3.out, ?_⟩, ?_⟩
  · rw [HV.out]
    exact HBK.out
  · rw [mu_eq Fr_mk]
    simp

set_option maxRecDepth 100000 in
set_option maxHeartbeats 1600000 in
theorem pass3 (s : ByteArray) (W : World) (hs : s.size ≤ 4096) (a : Act) (wr : World) (hJ : JTok s W 3 a wr) : ∃ R, findLabel allCode 3 = some R ∧ R.wp Try.prog (exitsTo (fun l' a' w' => JAll s W l' a' w' ∧ muAll s l' a' w' < muAll s 3 a wr) (allQ s W)) a wr := by
  refine ⟨_, rfl, ?_⟩
  obtain ⟨ts, A, m, c, k, b, ve, vo, hf, hb, hk, hkb, hbl, hg, ht⟩ := hJ
  rw [mu_eq hf]
  obtain ⟨u, rfl⟩ := hf
  have HB := Lib.hid hb
  have HKB := Lib.hid hkb
  have HBL := Lib.hid hbl
  have HD := Lib.hid (drop_at' hkb)
  have T1 := Lib.hid (ht.setK 3)
  have c1 := ht.c4
  have f1 := ht.fz
  have c2 := T1.out.c4
  have f2 := T1.out.fz
  have hpa := past_digit s (by unfold maxLen; omega) (k + 1) (by omega) wr
  have hle := tw_le s dgt (k + 1) (by omega)
  have hex := ext_tw s dgt (k + 1)
  have hl1 := goes3 hg
  have HV : Hid (tokB (s.data.toList.drop k) = ((decD 1099511627776 ((s.data.toList.drop (k + 1)).takeWhile dgt)).map fun (n : Nat) => (n : Int)).map fun n => (3, n, [], ((s.data.toList.drop (k + 1)).takeWhile dgt).length + 1)) := by
    show _ = _
    rw [HD.out, hl1, tokB, if_neg (by decide), if_neg (by decide), if_neg (by decide), if_pos rfl, Option.map_map]
    rfl
  have hal := tw_all dgt (s.data.toList.drop (k + 1))
  generalize hnm : (s.data.toList.drop (k + 1)).takeWhile dgt = ds at *
  generalize he : k + 1 + ds.length = e at *
  have hnv := above_any (s.extract (k + 1) e) (by rw [ext_size _ hle]; omega) (by rw [hex]; exact hal) 1099511627776 (by omega) (by omega) (wr.setCell ⟨W.heap.size, 0, none⟩ (.int .i64 3))
  rw [hex] at hnv
  generalize (decD 1099511627776 ds).map (fun (n : Nat) => (n : Int)) = o at *
  have HX : Hid (nmV o = .tuple #[.int .i64 (o.getD 0), .bool o.isSome]) := rfl
  rw [HX.out] at hnv
  have HBK : Hid (BackT (o.map fun n => (3, n, [], ds.length + 1)) k o.isSome 3 (o.getD 0) ⟨#[]⟩ (e : Int)) := by
    show BackT _ _ _ _ _ _ _
    cases o with
    | none => exact back_none
    | some n => exact back_some rfl (by omega)
  generalize o.getD 0 = x at *
  generalize o.isSome = ok at *
  have HPA := Lib.hid hpa
  have HNV := Lib.hid hnv
  have HB1 := Lib.hid (HB.out.set 0 (.int .i64 3))
  have T3 := Lib.hid (T1.out.setN x)
  have HB3 := Lib.hid (HB1.out.set 2 (.int .i64 x))
  have hki : k ≤ e := by omega
  have hki2 : ((k : Nat) : Int) ≤ (e : Int) := by omega
  have hki3 : (k : Int) + 1 ≤ (e : Int) + 1 := by omega
  have hki4 : ((k : Int) + 1).toNat = k + 1 := by omega
  have hki5 : (0 : Int) ≤ (k : Int) + 1 := by omega
  have hki6 : (k : Int) + 1 ≤ (e : Int) := by omega
  clear hpa hnv hb hkb hbl hg ht hex hnm he hl1 hal
  go_wp2_with fail
  refine HPA.out.mono ?_
  rintro e' w' ⟨rfl, rfl⟩
  go_wp2_with fail
  refine HNV.out.mono ?_
  rintro e' w2 ⟨rfl, rfl⟩
  go_wp2_with fail
  go_step3
  refine ⟨JAll7 ⟨ts, A, m, c, k, b, _, _, _, _, _, _, Fr_mk, (HB3.out : ABase s W ts A m c k _), hk, HKB.out, HBL.out, T3.out, ?_⟩, ?_⟩
  · rw [HV.out]
    exact HBK.out
  · rw [mu_eq Fr_mk]
    simp
end Go.Proofs.Ytadjfkgnoklmiaa
/- lex.All: from label to label. -/
namespace Go.Proofs.Ytadjfkgnoklmiaa
set_option linter.unusedVariables false
open Go.RowKit

set_option maxRecDepth 100000 in
set_option maxHeartbeats 1600000 in
theorem pass5 (s : ByteArray) (W : World) (hs : s.size ≤ 4096) (a : Act) (wr : World) (hJ : JTok s W 5 a wr) : ∃ R, findLabel allCode 5 = some R ∧ R.wp Try.prog (exitsTo (fun l' a' w' => JAll s W l' a' w' ∧ muAll s l' a' w' < muAll s 5 a wr) (allQ s W)) a wr := by
  refine ⟨_, rfl, ?_⟩
  obtain ⟨ts, A, m, c, k, b, ve, vo, hf, hb, hk, hkb, hbl, hg, ht⟩ := hJ
  rw [mu_eq hf]
  obtain ⟨u, rfl⟩ := hf
  have HB := Lib.hid hb
  have HKB := Lib.hid hkb
  have HBL := Lib.hid hbl
  have HD := Lib.hid (drop_at' hkb)
  have T1 := Lib.hid (ht.setK 5)
  have c1 := ht.c4
  have f1 := ht.fz
  have c2 := T1.out.c4
  have f2 := T1.out.fz
  have hnv := ltext_any s (by omega) (k + 1) (by omega) (wr.setCell ⟨W.heap.size, 0, none⟩ (.int .i64 5))
  have hl1 := goes5 hg
  have HV : Hid (tokB (s.data.toList.drop k) = (txtR (s.data.toList.drop (k + 1))).map fun p => (5, 0, p.1, p.2 + 1)) := by
    show _ = _
    rw [HD.out, hl1, tokB, if_neg (by decide), if_neg (by decide), if_neg (by decide), if_neg (by decide), if_neg (by decide), if_pos rfl]
    unfold txtR
    cases qtB (s.data.toList.drop (k + 1)) with
    | none => rfl
    | some p =>
      simp only [Option.bind_some]
      by_cases hz : p.1.length ≤ 64
      · rw [if_pos hz, if_pos hz]; rfl
      · rw [if_neg hz, if_neg hz]; rfl
  obtain ⟨x, e, ok, HX, HBK⟩ : ∃ (x : ByteArray) (e : Int) (ok : Bool), Hid (textV s.data.toList (k + 1) = .tuple #[.string x, .int .i64 e, .bool ok]) ∧ Hid (BackT ((txtR (s.data.toList.drop (k + 1))).map fun p => (5, 0, p.1, p.2 + 1)) k ok 5 0 x e) := by
    cases ho : txtR (s.data.toList.drop (k + 1)) with
    | none => exact ⟨_, _, _, textV_none ho, back_none⟩
    | some p => exact ⟨_, _, _, textV_some ho, back_some rfl (by omega)⟩
  rw [HX.out] at hnv
  have HNV := Lib.hid hnv
  have HB1 := Lib.hid (HB.out.set 0 (.int .i64 5))
  have hki4 : ((k : Int) + 1).toNat = k + 1 := by omega
  have hki5 : (0 : Int) ≤ (k : Int) + 1 := by omega
  clear hnv hb hkb hbl hg ht hl1
  go_wp2_with fail
  refine HNV.out.mono ?_
  rintro e' w2 ⟨rfl, hb2⟩
  have T2 := Lib.hid (T1.out.then_ hb2)
  have T3 := Lib.hid (T2.out.setS x)
  have HB3 := Lib.hid ((HB1.out.then_ hb2).set 3 (.string x))
  have c3 := T2.out.c4
  have f3 := T2.out.fz
  clear hb2
  go_wp2_with fail
  go_step3
  refine ⟨JAll7 ⟨ts, A, m, c, k, b, _, _, _, _, _, _, Fr_mk, (HB3.out : ABase s W ts A m c k _), hk, HKB.out, HBL.out, T3.out, ?_⟩, ?_⟩
  · rw [HV.out]
    exact HBK.out
  · rw [mu_eq Fr_mk]
    simp
end Go.Proofs.Ytadjfkgnoklmiaa
/- lex.All: from label to label. -/
namespace Go.Proofs.Ytadjfkgnoklmiaa
set_option linter.unusedVariables false
open Go.RowKit

set_option maxRecDepth 100000 in
set_option maxHeartbeats 1600000 in
theorem pass6 (s : ByteArray) (W : World) (hs : s.size ≤ 4096) (a : Act) (wr : World) (hJ : JTok s W 6 a wr) : ∃ R, findLabel allCode 6 = some R ∧ R.wp Try.prog (exitsTo (fun l' a' w' => JAll s W l' a' w' ∧ muAll s l' a' w' < muAll s 6 a wr) (allQ s W)) a wr := by
  refine ⟨_, rfl, ?_⟩
  obtain ⟨ts, A, m, c, k, b, ve, vo, hf, hb, hk, hkb, hbl, hg, ht⟩ := hJ
  rw [mu_eq hf]
  obtain ⟨u, rfl⟩ := hf
  have HB := Lib.hid hb
  have HKB := Lib.hid hkb
  have HBL := Lib.hid hbl
  have HD := Lib.hid (drop_at' hkb)
  have T1 := Lib.hid (ht.setK 6)
  have c1 := ht.c4
  have f1 := ht.fz
  have c2 := T1.out.c4
  have f2 := T1.out.fz
  have hl1 := goes6 hg
  have hnv := mark_any b (wr.setCell ⟨W.heap.size, 0, none⟩ (.int .i64 6))
  have HV : Hid (tokB (s.data.toList.drop k) = if mrk b = true then some (6, 0, [b], 1) else none) := by
    show _ = _
    rw [HD.out, tokB, if_neg (by rw [hl1.1]; simp), if_neg (by rw [hl1.2.1]; simp), if_neg hl1.2.2.1, if_neg hl1.2.2.2.1, if_neg hl1.2.2.2.2.1, if_neg hl1.2.2.2.2.2]
  have HX : Hid (markV b = .tuple #[.string (if mrk b = true then ⟨#[b]⟩ else ⟨#[]⟩), .bool (mrk b)]) := rfl
  rw [HX.out] at hnv
  have HBK : Hid (BackT (if mrk b = true then some (6, 0, [b], 1) else none) k (mrk b) 6 0 (if mrk b = true then ⟨#[b]⟩ else ⟨#[]⟩) ((k : Int) + 1)) := by
    show BackT _ _ _ _ _ _ _
    cases h : mrk b with
    | true => rw [if_pos rfl, if_pos rfl]; exact back_some rfl (by omega)
    | false => rw [if_neg (by simp), if_neg (by simp)]; exact back_none
  have hbyte : s[k] = b := by
    have := data_at hk
    rw [hkb] at this
    exact (Option.some.inj this).symm
  generalize (if mrk b = true then (⟨#[b]⟩ : ByteArray) else ⟨#[]⟩) = x at *
  generalize mrk b = ok at *
  have HNV := Lib.hid hnv
  have HB1 := Lib.hid (HB.out.set 0 (.int .i64 6))
  have hki : 0 ≤ (k : Int) ∧ (k : Int) < s.size := by omega
  clear hnv hb hkb hbl hg ht hl1
  go_wp2_with fail
  refine HNV.out.mono ?_
  rintro e' w2 ⟨rfl, hb2⟩
  have T2 := Lib.hid (T1.out.then_ hb2)
  have T3 := Lib.hid (T2.out.setS x)
  have HB3 := Lib.hid ((HB1.out.then_ hb2).set 3 (.string x))
  have c3 := T2.out.c4
  have f3 := T2.out.fz
  clear hb2
  go_wp2_with fail
  go_step3
  go_step
  go_step
  refine wp_mono (backPass s W hs _ _ ⟨ts, A, m, c, k, b, (k : Int) + 1, ok, _, 6, 0, x, Fr_mk, (HB3.out : ABase s W ts A m c k _), hk, HKB.out, HBL.out, T3.out, by rw [HV.out]; exact HBK.out⟩) ?_
  intro e2 a2 w3 hq
  cases e2 with
  | goto l =>
    refine ⟨hq.1, Nat.lt_trans hq.2 ?_⟩
    rw [mu_eq Fr_mk]
    simp
  | _ => exact hq
end Go.Proofs.Ytadjfkgnoklmiaa
/- lex.All: what it answers. -/
namespace Go.Proofs.Ytadjfkgnoklmiaa
set_option linter.unusedVariables false
open Go.RowKit

theorem blankPass (s : ByteArray) (W : World) (hs : s.size ≤ 4096) (a : Act) (wr : World) (hJ : JBlank s W a wr) : blankCode.wp Try.prog (exitsTo (fun l' a' w' => JAll s W l' a' w' ∧ muAll s l' a' w' < muAll s 0 a wr) (allQ s W)) a wr := by
  obtain ⟨R, h, hw⟩ := blankPass' s W hs a wr hJ
  unfold blankCode
  rw [h]
  exact hw
theorem pass0 (s : ByteArray) (W : World) (hs : s.size ≤ 4096) (a : Act) (wr : World) (hJ : JBlank s W a wr) : ∃ R, findLabel allCode 0 = some R ∧ R.wp Try.prog (exitsTo (fun l' a' w' => JAll s W l' a' w' ∧ muAll s l' a' w' < muAll s 0 a wr) (allQ s W)) a wr := by
  refine ⟨.seq .skip blankCode, rfl, ?_⟩
  have h := Lib.hid (blankPass s W hs a wr hJ)
  clear hJ
  go_wp2_with fail
  exact h.out
theorem goes_le (b : UInt8) : 1 ≤ goesTo b ∧ goesTo b ≤ 6 := by
  unfold goesTo
  split
  · omega
  · split
    · omega
    · split
      · omega
      · split
        · omega
        · split <;> omega
theorem passes (s : ByteArray) (W : World) (hs : s.size ≤ 4096) (l : Nat) (a : Act) (wr : World) (hJ : JAll s W l a wr) : ∃ R, findLabel allCode l = some R ∧ R.wp Try.prog (exitsTo (fun l' a' w' => JAll s W l' a' w' ∧ muAll s l' a' w' < muAll s l a wr) (allQ s W)) a wr := by
  unfold JAll at hJ
  split at hJ
  · rename_i h; subst h; exact pass0 s W hs a wr hJ
  · split at hJ
    · rename_i h; subst h; exact pass7 s W hs a wr hJ
    · have hl : l = 1 ∨ l = 2 ∨ l = 3 ∨ l = 4 ∨ l = 5 ∨ l = 6 := by
        obtain ⟨_, _, _, _, _, b, _, _, _, _, _, _, _, hg, _⟩ := hJ
        have := goes_le b
        omega
      rcases hl with rfl | rfl | rfl | rfl | rfl | rfl
      · exact pass1 s W hs a wr hJ
      · exact pass2 s W hs a wr hJ
      · exact pass3 s W hs a wr hJ
      · exact pass4 s W hs a wr hJ
      · exact pass5 s W hs a wr hJ
      · exact pass6 s W hs a wr hJ

set_option maxRecDepth 100000 in
set_option maxHeartbeats 800000 in
theorem all_any (s : ByteArray) (hs : s.size ≤ 4096) (W : World) : Calls Try.prog 23 #[.string s] W fun e w' => AllP W (lexB s.data.toList 0) e w' := by
  have ht := Tb.made W 0 0 0 ⟨#[]⟩
  have HT := Lib.hid ht
  have HB : Hid (ABase s W [] none 0 0 0 (W.alloc (.cells #[.int .i64 0, .int .i64 0, .int .i64 0, .string ⟨#[]⟩] 85))) :=
    Lib.hid ⟨⟨rfl, .inl ⟨rfl, rfl⟩⟩, (Below.refl _ _).alloc (Nat.le_refl _) _, by rw [size_al]; exact Nat.le_refl _, Nat.le_refl _, Nat.zero_le _, by rw [List.drop_zero, cat_nil]⟩
  clear ht
  go_enter Try.func23, Try.ntmps23
  go_wp2_with fail
  refine wp_scope_labels (JAll s W) (muAll s) (fun l a wr hJ => passes s W hs l a wr hJ) ?_
  go_wp2_with fail
  go_step3
  go_step
  go_step
  refine wp_mono (blankPass s W hs _ _ ⟨[], none, 0, 0, 0, _, _, _, 0, 0, 0, ⟨#[]⟩, Fr_mk, HB.out, HT.out⟩) ?_
  intro e2 a2 w3 hq
  cases e2 with
  | goto l => exact hq.1
  | _ => exact hq
set_option maxRecDepth 100000 in
set_option maxHeartbeats 800000 in
theorem all_big (s : ByteArray) (hs : 4096 < s.size) (hm : s.size ≤ maxLen) (w : World) : Calls Try.prog 23 #[.string s] w fun e w' => e = .returned (.tuple #[.slice none 0 0, .int .i64 6, .int .i64 4096]) ∧ w' = w := by
  unfold maxLen at hm
  go_enter Try.func23, Try.ntmps23
  go_wp2_with fail
  go_step3
  go_wp2_with fail
  try rw [Exit.noGoto_ret]
  go_ret3
  exact ⟨rfl, rfl⟩
end Go.Proofs.Ytadjfkgnoklmiaa
/- The parser: a policy from a text. -/
namespace Go.Proofs.Ytadjfkgnoklmiaa
set_option linter.unusedVariables false
open Go.RowKit

theorem results_cell_tmp2 {fn : Func} {p u v : Tmp} {ty : TypeId} (h : fn.results = #[.cell p ty, .tmp u, .tmp v]) (tmps : Array Value) (P : Program) (w : World) :
    (results fn tmps).run P w =
      ((asAddr (tmps.getD p undef)).run P w).andThen fun a w₁ => ((loadVar ty a).run P w₁).andThen fun x w₂ => .ok (.tuple #[x, tmps.getD u undef, tmps.getD v undef]) w₂ := by
  simp only [results, h]
  simp [Sem.run_bind, Result.andThen]
theorem policy_ret3 {fn : Func} {t u1 u2 : Tmp} {tmps : Array Value} {w : World} {g : Nat} {cs : Array Value} {a b : Value} (h : fn.results = #[.cell t 32, .tmp u1, .tmp u2]) (hp : tmps.getD t undef = .pointer (some ⟨g, 0, none⟩)) (h1 : tmps.getD u1 undef = a) (h2 : tmps.getD u2 undef = b) (hg : Ob w g 32 cs) (h3 : cs.size = 7) :
    (results fn tmps).run Try.prog w = .ok (.tuple #[.agg cs, a, b]) w := by
  rw [results_cell_tmp2 h, hp, h1, h2]
  have hl := run_loadVar_row (P := Try.prog) w g 32 _ _ (0, 0) _ hg Try.underlying32 rfl (by rw [h3]; kernel_rfl)
  simp [asAddr, hl, Result.andThen]
theorem noPol_of (w w' : World) : PolOf w w' 5 noPol (.agg #[.string ⟨#[]⟩, .bool false, .int .i64 0, .slice none 0 0, .slice none 0 0, .slice none 0 0, .slice none 0 0]) :=
  ⟨none, 0, 0, none, 0, 0, none, 0, 0, none, 0, 0, rfl, none, 0, 0, none, 0, 0, none, 0, 0, none, 0, 0, rfl, Nat.zero_le _, by unfold InI; exact ⟨by show (-9223372036854775808 : Int) ≤ 0; omega, by show (0 : Int) ≤ 9223372036854775807; omega⟩, Rw.nil_ _ _ _ _, Rw.nil_ _ _ _ _, Rw.nil_ _ _ _ _, Rw.nil_ _ _ _ _⟩
theorem Rd.start {L : Nat} {w : World} {A : Option Addr} {n c : Nat} {ts : List Tk} (h : Ts w w.heap.size A n c ts) (hok : (⟨ts, 0, 0, 0⟩ : Pz).ok L) : Rd L (w.alloc (.cells #[.slice A n c, .int .i64 0, .int .i64 0, .int .i64 0] 74)) w.heap.size ⟨ts, 0, 0, 0⟩ := by
  have h' := h.below ((Below.refl _ w).alloc (Nat.le_refl _) (.cells #[.slice A n c, .int .i64 0, .int .i64 0, .int .i64 0] 74))
  have hp : 1 ≤ ts.length := hok.pos
  obtain ⟨h1, h2, h3, h4⟩ := h'
  rcases h4 with h4 | ⟨b, o, e, hb, hc⟩
  · omega
  · subst e
    exact ⟨b, o, n, c, Ob.made _ _ _, hok, ⟨h1, h2, h3⟩, hb, hc⟩
theorem Ob.drew9 {w : World} {g : Nat} {t : TypeId} {cs : Array Value} (h : Ob w g t cs) : Ob w.drew g t cs := h
section
variable {w : World}
def ParseP (s : ByteArray) (w : World) (x : Ending) (w' : World) : Prop := ∃ y, x = .returned (.tuple #[y, .int .i64 (parseR s).2.1, .int .i64 (parseR s).2.2]) ∧ Below w.heap.size w w' ∧ PolOf w w' 5 (parseR s).1 y

set_option maxHeartbeats 1600000 in
theorem parse_big (s : ByteArray) (hs : 4096 < s.size) (hm : s.size ≤ maxLen) : Calls Try.prog 13 #[.string s] w (ParseP s w) := by
  have HC := Lib.hid (all_big s hs hm (w.alloc (.cells #[.string ⟨#[]⟩, .bool false, .int .i64 0, .slice none 0 0, .slice none 0 0, .slice none 0 0, .slice none 0 0] 32)))
  have OB := Lib.hid (Ob.made w 32 #[.string ⟨#[]⟩, .bool false, .int .i64 0, .slice none 0 0, .slice none 0 0, .slice none 0 0, .slice none 0 0])
  unfold ParseP
  rw [parseR_big hs]
  simp only
  go_enter Try.func13, Try.ntmps13
  go_wp2_with fail
  go_at_call 23
  refine HC.out.mono ?_
  rintro x w1 ⟨rfl, hw⟩
  have HB : Hid (Below w.heap.size w w1) := Lib.hid (by rw [hw]; exact (Below.refl _ w).alloc (Nat.le_refl _) _)
  have O1 : Hid (Ob w1 w.heap.size 32 #[.string ⟨#[]⟩, .bool false, .int .i64 0, .slice none 0 0, .slice none 0 0, .slice none 0 0, .slice none 0 0]) := Lib.hid (by rw [hw]; exact OB.out)
  clear hw
  have zc0 := O1.out.cell 0
  have zf0 := O1.out.frozen 0
  have OZ1 : Hid (Ob (w1.setCell ⟨w.heap.size, 0, none⟩ (.string ⟨#[]⟩)) (w.heap.size) 32 #[.string ⟨#[]⟩, .bool false, .int .i64 0, .slice none 0 0, .slice none 0 0, .slice none 0 0, .slice none 0 0]) := Lib.hid (by have := O1.out.put 0 (.string ⟨#[]⟩); simpa using this)
  have BZ1 := Lib.hid (HB.out.setCell (p := ⟨w.heap.size, 0, none⟩) (Nat.le_refl _) (.string ⟨#[]⟩))
  have zc1 := OZ1.out.cell 1
  have zf1 := OZ1.out.frozen 1
  have OZ2 : Hid (Ob ((w1.setCell ⟨w.heap.size, 0, none⟩ (.string ⟨#[]⟩)).setCell ⟨w.heap.size, 1, none⟩ (.bool false)) (w.heap.size) 32 #[.string ⟨#[]⟩, .bool false, .int .i64 0, .slice none 0 0, .slice none 0 0, .slice none 0 0, .slice none 0 0]) := Lib.hid (by have := OZ1.out.put 1 (.bool false); simpa using this)
  have BZ2 := Lib.hid (BZ1.out.setCell (p := ⟨w.heap.size, 1, none⟩) (Nat.le_refl _) (.bool false))
  have zc2 := OZ2.out.cell 2
  have zf2 := OZ2.out.frozen 2
  have OZ3 : Hid (Ob (((w1.setCell ⟨w.heap.size, 0, none⟩ (.string ⟨#[]⟩)).setCell ⟨w.heap.size, 1, none⟩ (.bool false)).setCell ⟨w.heap.size, 2, none⟩ (.int .i64 0)) (w.heap.size) 32 #[.string ⟨#[]⟩, .bool false, .int .i64 0, .slice none 0 0, .slice none 0 0, .slice none 0 0, .slice none 0 0]) := Lib.hid (by have := OZ2.out.put 2 (.int .i64 0); simpa using this)
  have BZ3 := Lib.hid (BZ2.out.setCell (p := ⟨w.heap.size, 2, none⟩) (Nat.le_refl _) (.int .i64 0))
  have zc3 := OZ3.out.cell 3
  have zf3 := OZ3.out.frozen 3
  have OZ4 : Hid (Ob ((((w1.setCell ⟨w.heap.size, 0, none⟩ (.string ⟨#[]⟩)).setCell ⟨w.heap.size, 1, none⟩ (.bool false)).setCell ⟨w.heap.size, 2, none⟩ (.int .i64 0)).setCell ⟨w.heap.size, 3, none⟩ (.slice none 0 0)) (w.heap.size) 32 #[.string ⟨#[]⟩, .bool false, .int .i64 0, .slice none 0 0, .slice none 0 0, .slice none 0 0, .slice none 0 0]) := Lib.hid (by have := OZ3.out.put 3 (.slice none 0 0); simpa using this)
  have BZ4 := Lib.hid (BZ3.out.setCell (p := ⟨w.heap.size, 3, none⟩) (Nat.le_refl _) (.slice none 0 0))
  have zc4 := OZ4.out.cell 4
  have zf4 := OZ4.out.frozen 4
  have OZ5 : Hid (Ob (((((w1.setCell ⟨w.heap.size, 0, none⟩ (.string ⟨#[]⟩)).setCell ⟨w.heap.size, 1, none⟩ (.bool false)).setCell ⟨w.heap.size, 2, none⟩ (.int .i64 0)).setCell ⟨w.heap.size, 3, none⟩ (.slice none 0 0)).setCell ⟨w.heap.size, 4, none⟩ (.slice none 0 0)) (w.heap.size) 32 #[.string ⟨#[]⟩, .bool false, .int .i64 0, .slice none 0 0, .slice none 0 0, .slice none 0 0, .slice none 0 0]) := Lib.hid (by have := OZ4.out.put 4 (.slice none 0 0); simpa using this)
  have BZ5 := Lib.hid (BZ4.out.setCell (p := ⟨w.heap.size, 4, none⟩) (Nat.le_refl _) (.slice none 0 0))
  have zc5 := OZ5.out.cell 5
  have zf5 := OZ5.out.frozen 5
  have OZ6 : Hid (Ob ((((((w1.setCell ⟨w.heap.size, 0, none⟩ (.string ⟨#[]⟩)).setCell ⟨w.heap.size, 1, none⟩ (.bool false)).setCell ⟨w.heap.size, 2, none⟩ (.int .i64 0)).setCell ⟨w.heap.size, 3, none⟩ (.slice none 0 0)).setCell ⟨w.heap.size, 4, none⟩ (.slice none 0 0)).setCell ⟨w.heap.size, 5, none⟩ (.slice none 0 0)) (w.heap.size) 32 #[.string ⟨#[]⟩, .bool false, .int .i64 0, .slice none 0 0, .slice none 0 0, .slice none 0 0, .slice none 0 0]) := Lib.hid (by have := OZ5.out.put 5 (.slice none 0 0); simpa using this)
  have BZ6 := Lib.hid (BZ5.out.setCell (p := ⟨w.heap.size, 5, none⟩) (Nat.le_refl _) (.slice none 0 0))
  have zc6 := OZ6.out.cell 6
  have zf6 := OZ6.out.frozen 6
  have OZ7 : Hid (Ob (((((((w1.setCell ⟨w.heap.size, 0, none⟩ (.string ⟨#[]⟩)).setCell ⟨w.heap.size, 1, none⟩ (.bool false)).setCell ⟨w.heap.size, 2, none⟩ (.int .i64 0)).setCell ⟨w.heap.size, 3, none⟩ (.slice none 0 0)).setCell ⟨w.heap.size, 4, none⟩ (.slice none 0 0)).setCell ⟨w.heap.size, 5, none⟩ (.slice none 0 0)).setCell ⟨w.heap.size, 6, none⟩ (.slice none 0 0)) (w.heap.size) 32 #[.string ⟨#[]⟩, .bool false, .int .i64 0, .slice none 0 0, .slice none 0 0, .slice none 0 0, .slice none 0 0]) := Lib.hid (by have := OZ6.out.put 6 (.slice none 0 0); simpa using this)
  have BZ7 := Lib.hid (BZ6.out.setCell (p := ⟨w.heap.size, 6, none⟩) (Nat.le_refl _) (.slice none 0 0))
  go_wp2_with fail
  try simp only [Exit.inBlock, Exit.then]
  refine bodyPost_ret (policy_ret3 rfl rfl rfl rfl OZ7.out rfl) rfl ?_
  exact ⟨_, rfl, BZ7.out, noPol_of _ _⟩
set_option maxHeartbeats 1600000 in
theorem parse_bad (s : ByteArray) {p : Nat} (hs : s.size ≤ 4096) (hl : lexB s.data.toList 0 = .error p) : Calls Try.prog 13 #[.string s] w (ParseP s w) := by
  have HC := Lib.hid (all_any s hs (w.alloc (.cells #[.string ⟨#[]⟩, .bool false, .int .i64 0, .slice none 0 0, .slice none 0 0, .slice none 0 0, .slice none 0 0] 32)))
  have OB := Lib.hid (Ob.made w 32 #[.string ⟨#[]⟩, .bool false, .int .i64 0, .slice none 0 0, .slice none 0 0, .slice none 0 0, .slice none 0 0])
  unfold ParseP
  rw [parseR_bad hs hl]
  simp only
  rw [hl] at HC
  clear hl
  go_enter Try.func13, Try.ntmps13
  go_wp2_with fail
  go_at_call 23
  refine HC.out.mono ?_
  rintro x w1 ⟨rfl, hb⟩
  have HB := Lib.hid (Below.lit hb)
  have O1 := Lib.hid (OB.out.below hb OB.out.lt)
  clear hb
  have zc0 := O1.out.cell 0
  have zf0 := O1.out.frozen 0
  have OZ1 : Hid (Ob (w1.setCell ⟨w.heap.size, 0, none⟩ (.string ⟨#[]⟩)) (w.heap.size) 32 #[.string ⟨#[]⟩, .bool false, .int .i64 0, .slice none 0 0, .slice none 0 0, .slice none 0 0, .slice none 0 0]) := Lib.hid (by have := O1.out.put 0 (.string ⟨#[]⟩); simpa using this)
  have BZ1 := Lib.hid (HB.out.setCell (p := ⟨w.heap.size, 0, none⟩) (Nat.le_refl _) (.string ⟨#[]⟩))
  have zc1 := OZ1.out.cell 1
  have zf1 := OZ1.out.frozen 1
  have OZ2 : Hid (Ob ((w1.setCell ⟨w.heap.size, 0, none⟩ (.string ⟨#[]⟩)).setCell ⟨w.heap.size, 1, none⟩ (.bool false)) (w.heap.size) 32 #[.string ⟨#[]⟩, .bool false, .int .i64 0, .slice none 0 0, .slice none 0 0, .slice none 0 0, .slice none 0 0]) := Lib.hid (by have := OZ1.out.put 1 (.bool false); simpa using this)
  have BZ2 := Lib.hid (BZ1.out.setCell (p := ⟨w.heap.size, 1, none⟩) (Nat.le_refl _) (.bool false))
  have zc2 := OZ2.out.cell 2
  have zf2 := OZ2.out.frozen 2
  have OZ3 : Hid (Ob (((w1.setCell ⟨w.heap.size, 0, none⟩ (.string ⟨#[]⟩)).setCell ⟨w.heap.size, 1, none⟩ (.bool false)).setCell ⟨w.heap.size, 2, none⟩ (.int .i64 0)) (w.heap.size) 32 #[.string ⟨#[]⟩, .bool false, .int .i64 0, .slice none 0 0, .slice none 0 0, .slice none 0 0, .slice none 0 0]) := Lib.hid (by have := OZ2.out.put 2 (.int .i64 0); simpa using this)
  have BZ3 := Lib.hid (BZ2.out.setCell (p := ⟨w.heap.size, 2, none⟩) (Nat.le_refl _) (.int .i64 0))
  have zc3 := OZ3.out.cell 3
  have zf3 := OZ3.out.frozen 3
  have OZ4 : Hid (Ob ((((w1.setCell ⟨w.heap.size, 0, none⟩ (.string ⟨#[]⟩)).setCell ⟨w.heap.size, 1, none⟩ (.bool false)).setCell ⟨w.heap.size, 2, none⟩ (.int .i64 0)).setCell ⟨w.heap.size, 3, none⟩ (.slice none 0 0)) (w.heap.size) 32 #[.string ⟨#[]⟩, .bool false, .int .i64 0, .slice none 0 0, .slice none 0 0, .slice none 0 0, .slice none 0 0]) := Lib.hid (by have := OZ3.out.put 3 (.slice none 0 0); simpa using this)
  have BZ4 := Lib.hid (BZ3.out.setCell (p := ⟨w.heap.size, 3, none⟩) (Nat.le_refl _) (.slice none 0 0))
  have zc4 := OZ4.out.cell 4
  have zf4 := OZ4.out.frozen 4
  have OZ5 : Hid (Ob (((((w1.setCell ⟨w.heap.size, 0, none⟩ (.string ⟨#[]⟩)).setCell ⟨w.heap.size, 1, none⟩ (.bool false)).setCell ⟨w.heap.size, 2, none⟩ (.int .i64 0)).setCell ⟨w.heap.size, 3, none⟩ (.slice none 0 0)).setCell ⟨w.heap.size, 4, none⟩ (.slice none 0 0)) (w.heap.size) 32 #[.string ⟨#[]⟩, .bool false, .int .i64 0, .slice none 0 0, .slice none 0 0, .slice none 0 0, .slice none 0 0]) := Lib.hid (by have := OZ4.out.put 4 (.slice none 0 0); simpa using this)
  have BZ5 := Lib.hid (BZ4.out.setCell (p := ⟨w.heap.size, 4, none⟩) (Nat.le_refl _) (.slice none 0 0))
  have zc5 := OZ5.out.cell 5
  have zf5 := OZ5.out.frozen 5
  have OZ6 : Hid (Ob ((((((w1.setCell ⟨w.heap.size, 0, none⟩ (.string ⟨#[]⟩)).setCell ⟨w.heap.size, 1, none⟩ (.bool false)).setCell ⟨w.heap.size, 2, none⟩ (.int .i64 0)).setCell ⟨w.heap.size, 3, none⟩ (.slice none 0 0)).setCell ⟨w.heap.size, 4, none⟩ (.slice none 0 0)).setCell ⟨w.heap.size, 5, none⟩ (.slice none 0 0)) (w.heap.size) 32 #[.string ⟨#[]⟩, .bool false, .int .i64 0, .slice none 0 0, .slice none 0 0, .slice none 0 0, .slice none 0 0]) := Lib.hid (by have := OZ5.out.put 5 (.slice none 0 0); simpa using this)
  have BZ6 := Lib.hid (BZ5.out.setCell (p := ⟨w.heap.size, 5, none⟩) (Nat.le_refl _) (.slice none 0 0))
  have zc6 := OZ6.out.cell 6
  have zf6 := OZ6.out.frozen 6
  have OZ7 : Hid (Ob (((((((w1.setCell ⟨w.heap.size, 0, none⟩ (.string ⟨#[]⟩)).setCell ⟨w.heap.size, 1, none⟩ (.bool false)).setCell ⟨w.heap.size, 2, none⟩ (.int .i64 0)).setCell ⟨w.heap.size, 3, none⟩ (.slice none 0 0)).setCell ⟨w.heap.size, 4, none⟩ (.slice none 0 0)).setCell ⟨w.heap.size, 5, none⟩ (.slice none 0 0)).setCell ⟨w.heap.size, 6, none⟩ (.slice none 0 0)) (w.heap.size) 32 #[.string ⟨#[]⟩, .bool false, .int .i64 0, .slice none 0 0, .slice none 0 0, .slice none 0 0, .slice none 0 0]) := Lib.hid (by have := OZ6.out.put 6 (.slice none 0 0); simpa using this)
  have BZ7 := Lib.hid (BZ6.out.setCell (p := ⟨w.heap.size, 6, none⟩) (Nat.le_refl _) (.slice none 0 0))
  go_wp2_with fail
  try simp only [Exit.inBlock, Exit.then]
  refine bodyPost_ret (policy_ret3 rfl rfl rfl rfl OZ7.out rfl) rfl ?_
  exact ⟨_, rfl, BZ7.out, noPol_of _ _⟩
theorem Only.down {g B : Nat} {w w' : World} (h : Only g w w') (hB : B ≤ g) (hw : g < w.heap.size) : Below B w w' := ⟨h.os, h.tape, h.output, h.size, fun k hk => h.heap (by omega) (by omega)⟩
set_option maxHeartbeats 3200000 in
theorem parse_ok (s : ByteArray) {ts : List Tk} (hs : s.size ≤ 4096) (hl : lexB s.data.toList 0 = .ok ts) : Calls Try.prog 13 #[.string s] w (ParseP s w) := by
  have HC := Lib.hid (all_any s hs (w.alloc (.cells #[.string ⟨#[]⟩, .bool false, .int .i64 0, .slice none 0 0, .slice none 0 0, .slice none 0 0, .slice none 0 0] 32)))
  have OB := Lib.hid (Ob.made w 32 #[.string ⟨#[]⟩, .bool false, .int .i64 0, .slice none 0 0, .slice none 0 0, .slice none 0 0, .slice none 0 0])
  unfold ParseP
  obtain ⟨h0, hlen⟩ := start_ok hs hl
  obtain ⟨q, s1, hq⟩ := pair_eq (polR 5 ⟨ts, 0, 0, 0⟩)
  obtain ⟨z, hz⟩ : ∃ z, endR s1 = z := ⟨_, rfl⟩
  obtain ⟨res, hres⟩ : ∃ r, (if z.err = 0 then (if rightE q = 0 then (q, 0, 0) else (noPol, 5, (s.size : Int))) else (noPol, z.err, z.at_) : Pol × Int × Int) = r := ⟨_, rfl⟩
  rw [parseR_ok hs hl hq hz, hres]
  have HRES := Lib.hid hres
  clear hres
  rw [hl] at HC
  have H0 := Lib.hid h0
  have HSUM : Hid ((⟨ts, 0, 0, 0⟩ : Pz).met + (⟨ts, 0, 0, 0⟩ : Pz).rest.length ≤ 5990) := by show 0 + ts.length ≤ 5990; omega
  have HQ := Lib.hid hq
  have HZ := Lib.hid hz
  have HS := Lib.hid hs
  clear hl hq hz h0 hlen hs
  go_enter Try.func13, Try.ntmps13
  go_wp2_with fail
  go_at_call 23
  refine HC.out.mono ?_
  rintro x w1 ⟨A, n, c, rfl, hown, hb⟩
  have HB := Lib.hid (Below.lit hb)
  have O1 := Lib.hid (OB.out.below hb OB.out.lt)
  have HG : Hid (w.heap.size < w1.heap.size) := O1.out.lt
  have HR := Lib.hid (Rd.start (Ts.of_own hown) H0.out)
  have O2 := Lib.hid (O1.out.keep (Below.heap_alloc w1 (.cells #[.slice A n c, .int .i64 0, .int .i64 0, .int .i64 0] 74) _ O1.out.lt))
  have HB2 := Lib.hid (HB.out.trans ((Below.refl w.heap.size w1).alloc HB.out.size (.cells #[.slice A n c, .int .i64 0, .int .i64 0, .int .i64 0] 74)))
  clear hb hown
  go_wp2_with fail
  go_at_call 24
  refine (pol_read_all 4 (Nat.le_refl _) _ ⟨ts, 0, 0, 0⟩ 1 (by omega) (Nat.le_refl _) HR.out HSUM.out).mono ?_
  rintro x w3 ⟨y, rfl, ho, hr, hp⟩
  change Rd _ _ _ (polR 5 _).2 at hr
  change PolOf _ _ 5 (polR 5 _).1 _ at hp
  rw [HQ.out] at hr hp
  obtain ⟨A1, n1, c1, A2, n2, c2, A3, n3, c3, A4, n4, c4, rfl, hp⟩ := hp
  have HS3 : Hid (w1.heap.size < w3.heap.size) := hr.lt
  have O3 := Lib.hid (O2.out.keep (ho.heap O2.out.lt (by have := HG.out; omega)))
  have HB3 := Lib.hid (HB2.out.trans (ho.down (by have := HG.out; omega) (by rw [size_al]; omega)))
  have O4 := Lib.hid (O3.out.keep (Below.heap_alloc w3 (.cells #[.string q.id, .bool q.set, .int .i64 q.alg, .slice A1 n1 c1, .slice A2 n2 c2, .slice A3 n3 c3, .slice A4 n4 c4] 32) _ O3.out.lt))
  have P4 := Lib.hid (Ob.made w3 32 #[.string q.id, .bool q.set, .int .i64 q.alg, .slice A1 n1 c1, .slice A2 n2 c2, .slice A3 n3 c3, .slice A4 n4 c4])
  have HB4 := Lib.hid (HB3.out.trans ((Below.refl w.heap.size w3).alloc HB3.out.size (.cells #[.string q.id, .bool q.set, .int .i64 q.alg, .slice A1 n1 c1, .slice A2 n2 c2, .slice A3 n3 c3, .slice A4 n4 c4] 32)))
  have HR4 := Lib.hid (hr.alloc (.cells #[.string q.id, .bool q.set, .int .i64 q.alg, .slice A1 n1 c1, .slice A2 n2 c2, .slice A3 n3 c3, .slice A4 n4 c4] 32))
  have HP4 := Lib.hid (PolAt.keep (Kept.all ((Below.refl w3.heap.size w3).alloc (Nat.le_refl _) (.cells #[.string q.id, .bool q.set, .int .i64 q.alg, .slice A1 n1 c1, .slice A2 n2 c2, .slice A3 n3 c3, .slice A4 n4 c4] 32)) _) (fun _ h _ => h) hp)
  clear ho hr hp
  go_wp2_with fail
  go_at_call 25
  refine (pend_any HR4.out).mono ?_
  rintro x w4 ⟨rfl, ho, hr⟩
  rw [HZ.out] at hr
  have HS4 : Hid (w3.heap.size < w4.heap.size) := by have := ho.size; rw [size_al] at this; show _ < _; omega
  have O5 := Lib.hid (O4.out.keep (ho.heap O4.out.lt (by have := HG.out; omega)))
  have P5 := Lib.hid (P4.out.keep (ho.heap P4.out.lt (by have := HS3.out; omega)))
  have HB5 := Lib.hid (HB4.out.trans (ho.down (by have := HG.out; omega) HR4.out.lt))
  have HP5 := Lib.hid (PolAt.keep (w' := w4) ⟨ho.size, fun b hb hlt => ho.heap hlt (by have hb : (w1.alloc (.cells #[.slice A n c, .int .i64 0, .int .i64 0, .int .i64 0] 74)).heap.size ≤ b := hb; rw [size_al] at hb; omega)⟩ (fun _ h _ => h) HP4.out)
  obtain ⟨b0, o0, n0, c0, hob, hok, _, _, _, _⟩ := hr.at_
  have q2 := hob.cell 2
  have q3 := hob.cell 3
  have R5 := Lib.hid hob
  clear ho hr hob hok
  by_cases hz : z.err = 0
  · rw [hz] at q2
    have HZ0 := Lib.hid hz
    clear hz
    have HIN : Hid (PolIn w4 (fun b => (w1.alloc (.cells #[.slice A n c, .int .i64 0, .int .i64 0, .int .i64 0] 74)).heap.size ≤ b) q A1 n1 c1 A2 n2 c2 A3 n3 c3 A4 n4 c4) := by
      obtain ⟨B1, m1, d1, B2, m2, d2, B3, m3, d3, B4, m4, d4, e, h0, h00, h1, h2, h3, h4⟩ := HP5.out
      simp at e
      obtain ⟨⟨rfl, rfl, rfl⟩, ⟨rfl, rfl, rfl⟩, ⟨rfl, rfl, rfl⟩, ⟨rfl, rfl, rfl⟩⟩ := e
      exact ⟨⟨h0, h00⟩, h1, h2, ⟨4, h3⟩, h4⟩
    have pc0 := P5.out.cell 0
    have pc1 := P5.out.cell 1
    have pc2 := P5.out.cell 2
    have pc3 := P5.out.cell 3
    have pc4 := P5.out.cell 4
    have pc5 := P5.out.cell 5
    have pc6 := P5.out.cell 6
    go_wp2_with fail
    go_at_call 11
    refine (right_pol HIN.out).mono ?_
    rintro x w5 ⟨rfl, hb⟩
    have O6 := Lib.hid (O5.out.below hb O5.out.lt)
    have P6 := Lib.hid (P5.out.below hb P5.out.lt)
    have HB6 := Lib.hid (HB5.out.trans (hb.mono HB5.out.size))
    have HP6 := Lib.hid (PolAt.keep (Kept.all hb _) (fun _ h _ => h) HP5.out)
    clear hb
    by_cases hE : rightE q = 0
    · rw [hE]
      have HF := Lib.hid (show (q, 0, 0) = res from by have := HRES.out; rwa [if_pos HZ0.out, if_pos hE] at this)
      have pd0 := P6.out.cell 0
      have pd1 := P6.out.cell 1
      have pd2 := P6.out.cell 2
      have pd3 := P6.out.cell 3
      have pd4 := P6.out.cell 4
      have pd5 := P6.out.cell 5
      have pd6 := P6.out.cell 6
      have zc0 := O6.out.cell 0
      have zf0 := O6.out.frozen 0
      have OZ1 : Hid (Ob (w5.setCell ⟨w.heap.size, 0, none⟩ (.string q.id)) (w.heap.size) 32 #[.string q.id, .bool false, .int .i64 0, .slice none 0 0, .slice none 0 0, .slice none 0 0, .slice none 0 0]) := Lib.hid (by have := O6.out.put 0 (.string q.id); simpa using this)
      have BZ1 := Lib.hid (HB6.out.setCell (p := ⟨w.heap.size, 0, none⟩) (Nat.le_refl _) (.string q.id))
      have zc1 := OZ1.out.cell 1
      have zf1 := OZ1.out.frozen 1
      have OZ2 : Hid (Ob ((w5.setCell ⟨w.heap.size, 0, none⟩ (.string q.id)).setCell ⟨w.heap.size, 1, none⟩ (.bool q.set)) (w.heap.size) 32 #[.string q.id, .bool q.set, .int .i64 0, .slice none 0 0, .slice none 0 0, .slice none 0 0, .slice none 0 0]) := Lib.hid (by have := OZ1.out.put 1 (.bool q.set); simpa using this)
      have BZ2 := Lib.hid (BZ1.out.setCell (p := ⟨w.heap.size, 1, none⟩) (Nat.le_refl _) (.bool q.set))
      have zc2 := OZ2.out.cell 2
      have zf2 := OZ2.out.frozen 2
      have OZ3 : Hid (Ob (((w5.setCell ⟨w.heap.size, 0, none⟩ (.string q.id)).setCell ⟨w.heap.size, 1, none⟩ (.bool q.set)).setCell ⟨w.heap.size, 2, none⟩ (.int .i64 q.alg)) (w.heap.size) 32 #[.string q.id, .bool q.set, .int .i64 q.alg, .slice none 0 0, .slice none 0 0, .slice none 0 0, .slice none 0 0]) := Lib.hid (by have := OZ2.out.put 2 (.int .i64 q.alg); simpa using this)
      have BZ3 := Lib.hid (BZ2.out.setCell (p := ⟨w.heap.size, 2, none⟩) (Nat.le_refl _) (.int .i64 q.alg))
      have zc3 := OZ3.out.cell 3
      have zf3 := OZ3.out.frozen 3
      have OZ4 : Hid (Ob ((((w5.setCell ⟨w.heap.size, 0, none⟩ (.string q.id)).setCell ⟨w.heap.size, 1, none⟩ (.bool q.set)).setCell ⟨w.heap.size, 2, none⟩ (.int .i64 q.alg)).setCell ⟨w.heap.size, 3, none⟩ (.slice A1 n1 c1)) (w.heap.size) 32 #[.string q.id, .bool q.set, .int .i64 q.alg, .slice A1 n1 c1, .slice none 0 0, .slice none 0 0, .slice none 0 0]) := Lib.hid (by have := OZ3.out.put 3 (.slice A1 n1 c1); simpa using this)
      have BZ4 := Lib.hid (BZ3.out.setCell (p := ⟨w.heap.size, 3, none⟩) (Nat.le_refl _) (.slice A1 n1 c1))
      have zc4 := OZ4.out.cell 4
      have zf4 := OZ4.out.frozen 4
      have OZ5 : Hid (Ob (((((w5.setCell ⟨w.heap.size, 0, none⟩ (.string q.id)).setCell ⟨w.heap.size, 1, none⟩ (.bool q.set)).setCell ⟨w.heap.size, 2, none⟩ (.int .i64 q.alg)).setCell ⟨w.heap.size, 3, none⟩ (.slice A1 n1 c1)).setCell ⟨w.heap.size, 4, none⟩ (.slice A2 n2 c2)) (w.heap.size) 32 #[.string q.id, .bool q.set, .int .i64 q.alg, .slice A1 n1 c1, .slice A2 n2 c2, .slice none 0 0, .slice none 0 0]) := Lib.hid (by have := OZ4.out.put 4 (.slice A2 n2 c2); simpa using this)
      have BZ5 := Lib.hid (BZ4.out.setCell (p := ⟨w.heap.size, 4, none⟩) (Nat.le_refl _) (.slice A2 n2 c2))
      have zc5 := OZ5.out.cell 5
      have zf5 := OZ5.out.frozen 5
      have OZ6 : Hid (Ob ((((((w5.setCell ⟨w.heap.size, 0, none⟩ (.string q.id)).setCell ⟨w.heap.size, 1, none⟩ (.bool q.set)).setCell ⟨w.heap.size, 2, none⟩ (.int .i64 q.alg)).setCell ⟨w.heap.size, 3, none⟩ (.slice A1 n1 c1)).setCell ⟨w.heap.size, 4, none⟩ (.slice A2 n2 c2)).setCell ⟨w.heap.size, 5, none⟩ (.slice A3 n3 c3)) (w.heap.size) 32 #[.string q.id, .bool q.set, .int .i64 q.alg, .slice A1 n1 c1, .slice A2 n2 c2, .slice A3 n3 c3, .slice none 0 0]) := Lib.hid (by have := OZ5.out.put 5 (.slice A3 n3 c3); simpa using this)
      have BZ6 := Lib.hid (BZ5.out.setCell (p := ⟨w.heap.size, 5, none⟩) (Nat.le_refl _) (.slice A3 n3 c3))
      have zc6 := OZ6.out.cell 6
      have zf6 := OZ6.out.frozen 6
      have OZ7 : Hid (Ob (((((((w5.setCell ⟨w.heap.size, 0, none⟩ (.string q.id)).setCell ⟨w.heap.size, 1, none⟩ (.bool q.set)).setCell ⟨w.heap.size, 2, none⟩ (.int .i64 q.alg)).setCell ⟨w.heap.size, 3, none⟩ (.slice A1 n1 c1)).setCell ⟨w.heap.size, 4, none⟩ (.slice A2 n2 c2)).setCell ⟨w.heap.size, 5, none⟩ (.slice A3 n3 c3)).setCell ⟨w.heap.size, 6, none⟩ (.slice A4 n4 c4)) (w.heap.size) 32 #[.string q.id, .bool q.set, .int .i64 q.alg, .slice A1 n1 c1, .slice A2 n2 c2, .slice A3 n3 c3, .slice A4 n4 c4]) := Lib.hid (by have := OZ6.out.put 6 (.slice A4 n4 c4); simpa using this)
      have BZ7 := Lib.hid (BZ6.out.setCell (p := ⟨w.heap.size, 6, none⟩) (Nat.le_refl _) (.slice A4 n4 c4))
      have KQ : Hid (Kept (fun b => (w1.alloc (.cells #[.slice A n c, .int .i64 0, .int .i64 0, .int .i64 0] 74)).heap.size ≤ b) w5 (((((((w5.setCell ⟨w.heap.size, 0, none⟩ (.string q.id)).setCell ⟨w.heap.size, 1, none⟩ (.bool q.set)).setCell ⟨w.heap.size, 2, none⟩ (.int .i64 q.alg)).setCell ⟨w.heap.size, 3, none⟩ (.slice A1 n1 c1)).setCell ⟨w.heap.size, 4, none⟩ (.slice A2 n2 c2)).setCell ⟨w.heap.size, 5, none⟩ (.slice A3 n3 c3)).setCell ⟨w.heap.size, 6, none⟩ (.slice A4 n4 c4))) := Lib.hid (Only.kept9 ((((((((Only.refl (r := w.heap.size) (w := w5)).at_g 0 (.string q.id)).at_g 1 (.bool q.set)).at_g 2 (.int .i64 q.alg)).at_g 3 (.slice A1 n1 c1)).at_g 4 (.slice A2 n2 c2)).at_g 5 (.slice A3 n3 c3)).at_g 6 (.slice A4 n4 c4)) (fun b hb => by have hb : (w1.alloc (.cells #[.slice A n c, .int .i64 0, .int .i64 0, .int .i64 0] 74)).heap.size ≤ b := hb; rw [size_al] at hb; have := HG.out; omega))
      go_wp2_with fail
      try simp only [Exit.inBlock, Exit.then]
      refine bodyPost_ret (policy_ret3 rfl rfl rfl rfl OZ7.out rfl) rfl ?_
      rw [← HF.out]
      exact ⟨_, rfl, BZ7.out, A1, n1, c1, A2, n2, c2, A3, n3, c3, A4, n4, c4, rfl, PolAt.keep (w' := (((((((w5.setCell ⟨w.heap.size, 0, none⟩ (.string q.id)).setCell ⟨w.heap.size, 1, none⟩ (.bool q.set)).setCell ⟨w.heap.size, 2, none⟩ (.int .i64 q.alg)).setCell ⟨w.heap.size, 3, none⟩ (.slice A1 n1 c1)).setCell ⟨w.heap.size, 4, none⟩ (.slice A2 n2 c2)).setCell ⟨w.heap.size, 5, none⟩ (.slice A3 n3 c3)).setCell ⟨w.heap.size, 6, none⟩ (.slice A4 n4 c4))) (KQ.out) (fun b hb _ => by have hb : (w1.alloc (.cells #[.slice A n c, .int .i64 0, .int .i64 0, .int .i64 0] 74)).heap.size ≤ b := hb; rw [size_al] at hb; have := HG.out; show w.heap.size ≤ b; omega) HP6.out⟩
    · have HF := Lib.hid (show (noPol, 5, (s.size : Int)) = res from by have := HRES.out; rwa [if_pos HZ0.out, if_neg hE] at this)
      have hE2 : (rightE q != 0) = true := by rw [bne_iff_ne]; exact hE
      have HE := Lib.hid hE
      clear hE
      generalize rightE q = rq at *
      have zc0 := O6.out.cell 0
      have zf0 := O6.out.frozen 0
      have OZ1 : Hid (Ob (w5.setCell ⟨w.heap.size, 0, none⟩ (.string ⟨#[]⟩)) (w.heap.size) 32 #[.string ⟨#[]⟩, .bool false, .int .i64 0, .slice none 0 0, .slice none 0 0, .slice none 0 0, .slice none 0 0]) := Lib.hid (by have := O6.out.put 0 (.string ⟨#[]⟩); simpa using this)
      have BZ1 := Lib.hid (HB6.out.setCell (p := ⟨w.heap.size, 0, none⟩) (Nat.le_refl _) (.string ⟨#[]⟩))
      have zc1 := OZ1.out.cell 1
      have zf1 := OZ1.out.frozen 1
      have OZ2 : Hid (Ob ((w5.setCell ⟨w.heap.size, 0, none⟩ (.string ⟨#[]⟩)).setCell ⟨w.heap.size, 1, none⟩ (.bool false)) (w.heap.size) 32 #[.string ⟨#[]⟩, .bool false, .int .i64 0, .slice none 0 0, .slice none 0 0, .slice none 0 0, .slice none 0 0]) := Lib.hid (by have := OZ1.out.put 1 (.bool false); simpa using this)
      have BZ2 := Lib.hid (BZ1.out.setCell (p := ⟨w.heap.size, 1, none⟩) (Nat.le_refl _) (.bool false))
      have zc2 := OZ2.out.cell 2
      have zf2 := OZ2.out.frozen 2
      have OZ3 : Hid (Ob (((w5.setCell ⟨w.heap.size, 0, none⟩ (.string ⟨#[]⟩)).setCell ⟨w.heap.size, 1, none⟩ (.bool false)).setCell ⟨w.heap.size, 2, none⟩ (.int .i64 0)) (w.heap.size) 32 #[.string ⟨#[]⟩, .bool false, .int .i64 0, .slice none 0 0, .slice none 0 0, .slice none 0 0, .slice none 0 0]) := Lib.hid (by have := OZ2.out.put 2 (.int .i64 0); simpa using this)
      have BZ3 := Lib.hid (BZ2.out.setCell (p := ⟨w.heap.size, 2, none⟩) (Nat.le_refl _) (.int .i64 0))
      have zc3 := OZ3.out.cell 3
      have zf3 := OZ3.out.frozen 3
      have OZ4 : Hid (Ob ((((w5.setCell ⟨w.heap.size, 0, none⟩ (.string ⟨#[]⟩)).setCell ⟨w.heap.size, 1, none⟩ (.bool false)).setCell ⟨w.heap.size, 2, none⟩ (.int .i64 0)).setCell ⟨w.heap.size, 3, none⟩ (.slice none 0 0)) (w.heap.size) 32 #[.string ⟨#[]⟩, .bool false, .int .i64 0, .slice none 0 0, .slice none 0 0, .slice none 0 0, .slice none 0 0]) := Lib.hid (by have := OZ3.out.put 3 (.slice none 0 0); simpa using this)
      have BZ4 := Lib.hid (BZ3.out.setCell (p := ⟨w.heap.size, 3, none⟩) (Nat.le_refl _) (.slice none 0 0))
      have zc4 := OZ4.out.cell 4
      have zf4 := OZ4.out.frozen 4
      have OZ5 : Hid (Ob (((((w5.setCell ⟨w.heap.size, 0, none⟩ (.string ⟨#[]⟩)).setCell ⟨w.heap.size, 1, none⟩ (.bool false)).setCell ⟨w.heap.size, 2, none⟩ (.int .i64 0)).setCell ⟨w.heap.size, 3, none⟩ (.slice none 0 0)).setCell ⟨w.heap.size, 4, none⟩ (.slice none 0 0)) (w.heap.size) 32 #[.string ⟨#[]⟩, .bool false, .int .i64 0, .slice none 0 0, .slice none 0 0, .slice none 0 0, .slice none 0 0]) := Lib.hid (by have := OZ4.out.put 4 (.slice none 0 0); simpa using this)
      have BZ5 := Lib.hid (BZ4.out.setCell (p := ⟨w.heap.size, 4, none⟩) (Nat.le_refl _) (.slice none 0 0))
      have zc5 := OZ5.out.cell 5
      have zf5 := OZ5.out.frozen 5
      have OZ6 : Hid (Ob ((((((w5.setCell ⟨w.heap.size, 0, none⟩ (.string ⟨#[]⟩)).setCell ⟨w.heap.size, 1, none⟩ (.bool false)).setCell ⟨w.heap.size, 2, none⟩ (.int .i64 0)).setCell ⟨w.heap.size, 3, none⟩ (.slice none 0 0)).setCell ⟨w.heap.size, 4, none⟩ (.slice none 0 0)).setCell ⟨w.heap.size, 5, none⟩ (.slice none 0 0)) (w.heap.size) 32 #[.string ⟨#[]⟩, .bool false, .int .i64 0, .slice none 0 0, .slice none 0 0, .slice none 0 0, .slice none 0 0]) := Lib.hid (by have := OZ5.out.put 5 (.slice none 0 0); simpa using this)
      have BZ6 := Lib.hid (BZ5.out.setCell (p := ⟨w.heap.size, 5, none⟩) (Nat.le_refl _) (.slice none 0 0))
      have zc6 := OZ6.out.cell 6
      have zf6 := OZ6.out.frozen 6
      have OZ7 : Hid (Ob (((((((w5.setCell ⟨w.heap.size, 0, none⟩ (.string ⟨#[]⟩)).setCell ⟨w.heap.size, 1, none⟩ (.bool false)).setCell ⟨w.heap.size, 2, none⟩ (.int .i64 0)).setCell ⟨w.heap.size, 3, none⟩ (.slice none 0 0)).setCell ⟨w.heap.size, 4, none⟩ (.slice none 0 0)).setCell ⟨w.heap.size, 5, none⟩ (.slice none 0 0)).setCell ⟨w.heap.size, 6, none⟩ (.slice none 0 0)) (w.heap.size) 32 #[.string ⟨#[]⟩, .bool false, .int .i64 0, .slice none 0 0, .slice none 0 0, .slice none 0 0, .slice none 0 0]) := Lib.hid (by have := OZ6.out.put 6 (.slice none 0 0); simpa using this)
      have BZ7 := Lib.hid (BZ6.out.setCell (p := ⟨w.heap.size, 6, none⟩) (Nat.le_refl _) (.slice none 0 0))
      go_wp2_with fail
      try simp only [Exit.inBlock, Exit.then]
      refine bodyPost_ret (policy_ret3 rfl rfl rfl rfl OZ7.out rfl) rfl ?_
      rw [← HF.out]
      exact ⟨_, rfl, BZ7.out, noPol_of _ _⟩
  · have HF := Lib.hid (show (noPol, z.err, z.at_) = res from by have := HRES.out; rwa [if_neg hz] at this)
    have hz2 : (z.err != 0) = true := by rw [bne_iff_ne]; exact hz
    clear hz
    go_wp2_with fail
    have zc0 := O5.out.cell 0
    have zf0 := O5.out.frozen 0
    have OZ1 : Hid (Ob (w4.setCell ⟨w.heap.size, 0, none⟩ (.string ⟨#[]⟩)) (w.heap.size) 32 #[.string ⟨#[]⟩, .bool false, .int .i64 0, .slice none 0 0, .slice none 0 0, .slice none 0 0, .slice none 0 0]) := Lib.hid (by have := O5.out.put 0 (.string ⟨#[]⟩); simpa using this)
    have BZ1 := Lib.hid (HB5.out.setCell (p := ⟨w.heap.size, 0, none⟩) (Nat.le_refl _) (.string ⟨#[]⟩))
    have zc1 := OZ1.out.cell 1
    have zf1 := OZ1.out.frozen 1
    have OZ2 : Hid (Ob ((w4.setCell ⟨w.heap.size, 0, none⟩ (.string ⟨#[]⟩)).setCell ⟨w.heap.size, 1, none⟩ (.bool false)) (w.heap.size) 32 #[.string ⟨#[]⟩, .bool false, .int .i64 0, .slice none 0 0, .slice none 0 0, .slice none 0 0, .slice none 0 0]) := Lib.hid (by have := OZ1.out.put 1 (.bool false); simpa using this)
    have BZ2 := Lib.hid (BZ1.out.setCell (p := ⟨w.heap.size, 1, none⟩) (Nat.le_refl _) (.bool false))
    have zc2 := OZ2.out.cell 2
    have zf2 := OZ2.out.frozen 2
    have OZ3 : Hid (Ob (((w4.setCell ⟨w.heap.size, 0, none⟩ (.string ⟨#[]⟩)).setCell ⟨w.heap.size, 1, none⟩ (.bool false)).setCell ⟨w.heap.size, 2, none⟩ (.int .i64 0)) (w.heap.size) 32 #[.string ⟨#[]⟩, .bool false, .int .i64 0, .slice none 0 0, .slice none 0 0, .slice none 0 0, .slice none 0 0]) := Lib.hid (by have := OZ2.out.put 2 (.int .i64 0); simpa using this)
    have BZ3 := Lib.hid (BZ2.out.setCell (p := ⟨w.heap.size, 2, none⟩) (Nat.le_refl _) (.int .i64 0))
    have zc3 := OZ3.out.cell 3
    have zf3 := OZ3.out.frozen 3
    have OZ4 : Hid (Ob ((((w4.setCell ⟨w.heap.size, 0, none⟩ (.string ⟨#[]⟩)).setCell ⟨w.heap.size, 1, none⟩ (.bool false)).setCell ⟨w.heap.size, 2, none⟩ (.int .i64 0)).setCell ⟨w.heap.size, 3, none⟩ (.slice none 0 0)) (w.heap.size) 32 #[.string ⟨#[]⟩, .bool false, .int .i64 0, .slice none 0 0, .slice none 0 0, .slice none 0 0, .slice none 0 0]) := Lib.hid (by have := OZ3.out.put 3 (.slice none 0 0); simpa using this)
    have BZ4 := Lib.hid (BZ3.out.setCell (p := ⟨w.heap.size, 3, none⟩) (Nat.le_refl _) (.slice none 0 0))
    have zc4 := OZ4.out.cell 4
    have zf4 := OZ4.out.frozen 4
    have OZ5 : Hid (Ob (((((w4.setCell ⟨w.heap.size, 0, none⟩ (.string ⟨#[]⟩)).setCell ⟨w.heap.size, 1, none⟩ (.bool false)).setCell ⟨w.heap.size, 2, none⟩ (.int .i64 0)).setCell ⟨w.heap.size, 3, none⟩ (.slice none 0 0)).setCell ⟨w.heap.size, 4, none⟩ (.slice none 0 0)) (w.heap.size) 32 #[.string ⟨#[]⟩, .bool false, .int .i64 0, .slice none 0 0, .slice none 0 0, .slice none 0 0, .slice none 0 0]) := Lib.hid (by have := OZ4.out.put 4 (.slice none 0 0); simpa using this)
    have BZ5 := Lib.hid (BZ4.out.setCell (p := ⟨w.heap.size, 4, none⟩) (Nat.le_refl _) (.slice none 0 0))
    have zc5 := OZ5.out.cell 5
    have zf5 := OZ5.out.frozen 5
    have OZ6 : Hid (Ob ((((((w4.setCell ⟨w.heap.size, 0, none⟩ (.string ⟨#[]⟩)).setCell ⟨w.heap.size, 1, none⟩ (.bool false)).setCell ⟨w.heap.size, 2, none⟩ (.int .i64 0)).setCell ⟨w.heap.size, 3, none⟩ (.slice none 0 0)).setCell ⟨w.heap.size, 4, none⟩ (.slice none 0 0)).setCell ⟨w.heap.size, 5, none⟩ (.slice none 0 0)) (w.heap.size) 32 #[.string ⟨#[]⟩, .bool false, .int .i64 0, .slice none 0 0, .slice none 0 0, .slice none 0 0, .slice none 0 0]) := Lib.hid (by have := OZ5.out.put 5 (.slice none 0 0); simpa using this)
    have BZ6 := Lib.hid (BZ5.out.setCell (p := ⟨w.heap.size, 5, none⟩) (Nat.le_refl _) (.slice none 0 0))
    have zc6 := OZ6.out.cell 6
    have zf6 := OZ6.out.frozen 6
    have OZ7 : Hid (Ob (((((((w4.setCell ⟨w.heap.size, 0, none⟩ (.string ⟨#[]⟩)).setCell ⟨w.heap.size, 1, none⟩ (.bool false)).setCell ⟨w.heap.size, 2, none⟩ (.int .i64 0)).setCell ⟨w.heap.size, 3, none⟩ (.slice none 0 0)).setCell ⟨w.heap.size, 4, none⟩ (.slice none 0 0)).setCell ⟨w.heap.size, 5, none⟩ (.slice none 0 0)).setCell ⟨w.heap.size, 6, none⟩ (.slice none 0 0)) (w.heap.size) 32 #[.string ⟨#[]⟩, .bool false, .int .i64 0, .slice none 0 0, .slice none 0 0, .slice none 0 0, .slice none 0 0]) := Lib.hid (by have := OZ6.out.put 6 (.slice none 0 0); simpa using this)
    have BZ7 := Lib.hid (BZ6.out.setCell (p := ⟨w.heap.size, 6, none⟩) (Nat.le_refl _) (.slice none 0 0))
    have RZ1 := Lib.hid (R5.out.keep (Below.heap_setCell w4 ⟨w.heap.size, 0, none⟩ (.string ⟨#[]⟩) _ (by show w1.heap.size ≠ w.heap.size; have := HG.out; omega)))
    have RZ2 := Lib.hid (RZ1.out.keep (Below.heap_setCell (w4.setCell ⟨w.heap.size, 0, none⟩ (.string ⟨#[]⟩)) ⟨w.heap.size, 1, none⟩ (.bool false) _ (by show w1.heap.size ≠ w.heap.size; have := HG.out; omega)))
    have RZ3 := Lib.hid (RZ2.out.keep (Below.heap_setCell ((w4.setCell ⟨w.heap.size, 0, none⟩ (.string ⟨#[]⟩)).setCell ⟨w.heap.size, 1, none⟩ (.bool false)) ⟨w.heap.size, 2, none⟩ (.int .i64 0) _ (by show w1.heap.size ≠ w.heap.size; have := HG.out; omega)))
    have RZ4 := Lib.hid (RZ3.out.keep (Below.heap_setCell (((w4.setCell ⟨w.heap.size, 0, none⟩ (.string ⟨#[]⟩)).setCell ⟨w.heap.size, 1, none⟩ (.bool false)).setCell ⟨w.heap.size, 2, none⟩ (.int .i64 0)) ⟨w.heap.size, 3, none⟩ (.slice none 0 0) _ (by show w1.heap.size ≠ w.heap.size; have := HG.out; omega)))
    have RZ5 := Lib.hid (RZ4.out.keep (Below.heap_setCell ((((w4.setCell ⟨w.heap.size, 0, none⟩ (.string ⟨#[]⟩)).setCell ⟨w.heap.size, 1, none⟩ (.bool false)).setCell ⟨w.heap.size, 2, none⟩ (.int .i64 0)).setCell ⟨w.heap.size, 3, none⟩ (.slice none 0 0)) ⟨w.heap.size, 4, none⟩ (.slice none 0 0) _ (by show w1.heap.size ≠ w.heap.size; have := HG.out; omega)))
    have RZ6 := Lib.hid (RZ5.out.keep (Below.heap_setCell (((((w4.setCell ⟨w.heap.size, 0, none⟩ (.string ⟨#[]⟩)).setCell ⟨w.heap.size, 1, none⟩ (.bool false)).setCell ⟨w.heap.size, 2, none⟩ (.int .i64 0)).setCell ⟨w.heap.size, 3, none⟩ (.slice none 0 0)).setCell ⟨w.heap.size, 4, none⟩ (.slice none 0 0)) ⟨w.heap.size, 5, none⟩ (.slice none 0 0) _ (by show w1.heap.size ≠ w.heap.size; have := HG.out; omega)))
    have RZ7 := Lib.hid (RZ6.out.keep (Below.heap_setCell ((((((w4.setCell ⟨w.heap.size, 0, none⟩ (.string ⟨#[]⟩)).setCell ⟨w.heap.size, 1, none⟩ (.bool false)).setCell ⟨w.heap.size, 2, none⟩ (.int .i64 0)).setCell ⟨w.heap.size, 3, none⟩ (.slice none 0 0)).setCell ⟨w.heap.size, 4, none⟩ (.slice none 0 0)).setCell ⟨w.heap.size, 5, none⟩ (.slice none 0 0)) ⟨w.heap.size, 6, none⟩ (.slice none 0 0) _ (by show w1.heap.size ≠ w.heap.size; have := HG.out; omega)))
    have RZc2 := RZ7.out.cell 2
    have RZc3 := RZ7.out.cell 3
    have OD0 : Hid (Ob w4.drew w.heap.size 32 #[.string ⟨#[]⟩, .bool false, .int .i64 0, .slice none 0 0, .slice none 0 0, .slice none 0 0, .slice none 0 0]) := Lib.hid O5.out
    have BD0 : Hid (Below w.heap.size w w4.drew) := Lib.hid (below_drewN HB5.out 1)
    have yc0 := OD0.out.cell 0
    have yf0 := OD0.out.frozen 0
    have OY1 : Hid (Ob (w4.drew.setCell ⟨w.heap.size, 0, none⟩ (.string ⟨#[]⟩)) (w.heap.size) 32 #[.string ⟨#[]⟩, .bool false, .int .i64 0, .slice none 0 0, .slice none 0 0, .slice none 0 0, .slice none 0 0]) := Lib.hid (by have := OD0.out.put 0 (.string ⟨#[]⟩); simpa using this)
    have BY1 := Lib.hid (BD0.out.setCell (p := ⟨w.heap.size, 0, none⟩) (Nat.le_refl _) (.string ⟨#[]⟩))
    have yc1 := OY1.out.cell 1
    have yf1 := OY1.out.frozen 1
    have OY2 : Hid (Ob ((w4.drew.setCell ⟨w.heap.size, 0, none⟩ (.string ⟨#[]⟩)).setCell ⟨w.heap.size, 1, none⟩ (.bool false)) (w.heap.size) 32 #[.string ⟨#[]⟩, .bool false, .int .i64 0, .slice none 0 0, .slice none 0 0, .slice none 0 0, .slice none 0 0]) := Lib.hid (by have := OY1.out.put 1 (.bool false); simpa using this)
    have BY2 := Lib.hid (BY1.out.setCell (p := ⟨w.heap.size, 1, none⟩) (Nat.le_refl _) (.bool false))
    have yc2 := OY2.out.cell 2
    have yf2 := OY2.out.frozen 2
    have OY3 : Hid (Ob (((w4.drew.setCell ⟨w.heap.size, 0, none⟩ (.string ⟨#[]⟩)).setCell ⟨w.heap.size, 1, none⟩ (.bool false)).setCell ⟨w.heap.size, 2, none⟩ (.int .i64 0)) (w.heap.size) 32 #[.string ⟨#[]⟩, .bool false, .int .i64 0, .slice none 0 0, .slice none 0 0, .slice none 0 0, .slice none 0 0]) := Lib.hid (by have := OY2.out.put 2 (.int .i64 0); simpa using this)
    have BY3 := Lib.hid (BY2.out.setCell (p := ⟨w.heap.size, 2, none⟩) (Nat.le_refl _) (.int .i64 0))
    have yc3 := OY3.out.cell 3
    have yf3 := OY3.out.frozen 3
    have OY4 : Hid (Ob ((((w4.drew.setCell ⟨w.heap.size, 0, none⟩ (.string ⟨#[]⟩)).setCell ⟨w.heap.size, 1, none⟩ (.bool false)).setCell ⟨w.heap.size, 2, none⟩ (.int .i64 0)).setCell ⟨w.heap.size, 3, none⟩ (.slice none 0 0)) (w.heap.size) 32 #[.string ⟨#[]⟩, .bool false, .int .i64 0, .slice none 0 0, .slice none 0 0, .slice none 0 0, .slice none 0 0]) := Lib.hid (by have := OY3.out.put 3 (.slice none 0 0); simpa using this)
    have BY4 := Lib.hid (BY3.out.setCell (p := ⟨w.heap.size, 3, none⟩) (Nat.le_refl _) (.slice none 0 0))
    have yc4 := OY4.out.cell 4
    have yf4 := OY4.out.frozen 4
    have OY5 : Hid (Ob (((((w4.drew.setCell ⟨w.heap.size, 0, none⟩ (.string ⟨#[]⟩)).setCell ⟨w.heap.size, 1, none⟩ (.bool false)).setCell ⟨w.heap.size, 2, none⟩ (.int .i64 0)).setCell ⟨w.heap.size, 3, none⟩ (.slice none 0 0)).setCell ⟨w.heap.size, 4, none⟩ (.slice none 0 0)) (w.heap.size) 32 #[.string ⟨#[]⟩, .bool false, .int .i64 0, .slice none 0 0, .slice none 0 0, .slice none 0 0, .slice none 0 0]) := Lib.hid (by have := OY4.out.put 4 (.slice none 0 0); simpa using this)
    have BY5 := Lib.hid (BY4.out.setCell (p := ⟨w.heap.size, 4, none⟩) (Nat.le_refl _) (.slice none 0 0))
    have yc5 := OY5.out.cell 5
    have yf5 := OY5.out.frozen 5
    have OY6 : Hid (Ob ((((((w4.drew.setCell ⟨w.heap.size, 0, none⟩ (.string ⟨#[]⟩)).setCell ⟨w.heap.size, 1, none⟩ (.bool false)).setCell ⟨w.heap.size, 2, none⟩ (.int .i64 0)).setCell ⟨w.heap.size, 3, none⟩ (.slice none 0 0)).setCell ⟨w.heap.size, 4, none⟩ (.slice none 0 0)).setCell ⟨w.heap.size, 5, none⟩ (.slice none 0 0)) (w.heap.size) 32 #[.string ⟨#[]⟩, .bool false, .int .i64 0, .slice none 0 0, .slice none 0 0, .slice none 0 0, .slice none 0 0]) := Lib.hid (by have := OY5.out.put 5 (.slice none 0 0); simpa using this)
    have BY6 := Lib.hid (BY5.out.setCell (p := ⟨w.heap.size, 5, none⟩) (Nat.le_refl _) (.slice none 0 0))
    have yc6 := OY6.out.cell 6
    have yf6 := OY6.out.frozen 6
    have OY7 : Hid (Ob (((((((w4.drew.setCell ⟨w.heap.size, 0, none⟩ (.string ⟨#[]⟩)).setCell ⟨w.heap.size, 1, none⟩ (.bool false)).setCell ⟨w.heap.size, 2, none⟩ (.int .i64 0)).setCell ⟨w.heap.size, 3, none⟩ (.slice none 0 0)).setCell ⟨w.heap.size, 4, none⟩ (.slice none 0 0)).setCell ⟨w.heap.size, 5, none⟩ (.slice none 0 0)).setCell ⟨w.heap.size, 6, none⟩ (.slice none 0 0)) (w.heap.size) 32 #[.string ⟨#[]⟩, .bool false, .int .i64 0, .slice none 0 0, .slice none 0 0, .slice none 0 0, .slice none 0 0]) := Lib.hid (by have := OY6.out.put 6 (.slice none 0 0); simpa using this)
    have BY7 := Lib.hid (BY6.out.setCell (p := ⟨w.heap.size, 6, none⟩) (Nat.le_refl _) (.slice none 0 0))
    have RD0 : Hid (Ob w4.drew w1.heap.size 74 #[.slice (some ⟨b0, o0, none⟩) n0 c0, .int .i64 (z.met : Int), .int .i64 z.err, .int .i64 z.at_]) := Lib.hid R5.out
    have RY1 := Lib.hid (RD0.out.keep (Below.heap_setCell w4.drew ⟨w.heap.size, 0, none⟩ (.string ⟨#[]⟩) _ (by show w1.heap.size ≠ w.heap.size; have := HG.out; omega)))
    have RY2 := Lib.hid (RY1.out.keep (Below.heap_setCell (w4.drew.setCell ⟨w.heap.size, 0, none⟩ (.string ⟨#[]⟩)) ⟨w.heap.size, 1, none⟩ (.bool false) _ (by show w1.heap.size ≠ w.heap.size; have := HG.out; omega)))
    have RY3 := Lib.hid (RY2.out.keep (Below.heap_setCell ((w4.drew.setCell ⟨w.heap.size, 0, none⟩ (.string ⟨#[]⟩)).setCell ⟨w.heap.size, 1, none⟩ (.bool false)) ⟨w.heap.size, 2, none⟩ (.int .i64 0) _ (by show w1.heap.size ≠ w.heap.size; have := HG.out; omega)))
    have RY4 := Lib.hid (RY3.out.keep (Below.heap_setCell (((w4.drew.setCell ⟨w.heap.size, 0, none⟩ (.string ⟨#[]⟩)).setCell ⟨w.heap.size, 1, none⟩ (.bool false)).setCell ⟨w.heap.size, 2, none⟩ (.int .i64 0)) ⟨w.heap.size, 3, none⟩ (.slice none 0 0) _ (by show w1.heap.size ≠ w.heap.size; have := HG.out; omega)))
    have RY5 := Lib.hid (RY4.out.keep (Below.heap_setCell ((((w4.drew.setCell ⟨w.heap.size, 0, none⟩ (.string ⟨#[]⟩)).setCell ⟨w.heap.size, 1, none⟩ (.bool false)).setCell ⟨w.heap.size, 2, none⟩ (.int .i64 0)).setCell ⟨w.heap.size, 3, none⟩ (.slice none 0 0)) ⟨w.heap.size, 4, none⟩ (.slice none 0 0) _ (by show w1.heap.size ≠ w.heap.size; have := HG.out; omega)))
    have RY6 := Lib.hid (RY5.out.keep (Below.heap_setCell (((((w4.drew.setCell ⟨w.heap.size, 0, none⟩ (.string ⟨#[]⟩)).setCell ⟨w.heap.size, 1, none⟩ (.bool false)).setCell ⟨w.heap.size, 2, none⟩ (.int .i64 0)).setCell ⟨w.heap.size, 3, none⟩ (.slice none 0 0)).setCell ⟨w.heap.size, 4, none⟩ (.slice none 0 0)) ⟨w.heap.size, 5, none⟩ (.slice none 0 0) _ (by show w1.heap.size ≠ w.heap.size; have := HG.out; omega)))
    have RY7 := Lib.hid (RY6.out.keep (Below.heap_setCell ((((((w4.drew.setCell ⟨w.heap.size, 0, none⟩ (.string ⟨#[]⟩)).setCell ⟨w.heap.size, 1, none⟩ (.bool false)).setCell ⟨w.heap.size, 2, none⟩ (.int .i64 0)).setCell ⟨w.heap.size, 3, none⟩ (.slice none 0 0)).setCell ⟨w.heap.size, 4, none⟩ (.slice none 0 0)).setCell ⟨w.heap.size, 5, none⟩ (.slice none 0 0)) ⟨w.heap.size, 6, none⟩ (.slice none 0 0) _ (by show w1.heap.size ≠ w.heap.size; have := HG.out; omega)))
    have RYc2 := RY7.out.cell 2
    have RYc3 := RY7.out.cell 3
    have q2d : w4.drew.cell? ⟨w1.heap.size, 2, none⟩ = some (.int .i64 z.err) := q2
    have q3d : w4.drew.cell? ⟨w1.heap.size, 3, none⟩ = some (.int .i64 z.at_) := q3
    go_region
    have OF := Lib.hid (Ob.drew9 OZ7.out)
    have BF : Hid (Below w.heap.size w ((((((((w4.setCell ⟨w.heap.size, 0, none⟩ (.string ⟨#[]⟩)).setCell ⟨w.heap.size, 1, none⟩ (.bool false)).setCell ⟨w.heap.size, 2, none⟩ (.int .i64 0)).setCell ⟨w.heap.size, 3, none⟩ (.slice none 0 0)).setCell ⟨w.heap.size, 4, none⟩ (.slice none 0 0)).setCell ⟨w.heap.size, 5, none⟩ (.slice none 0 0)).setCell ⟨w.heap.size, 6, none⟩ (.slice none 0 0)).drew)) := Lib.hid (below_drewN BZ7.out 1)
    obtain ⟨w9, hw9⟩ : ∃ w9, w9 = (((((((w4.setCell ⟨w.heap.size, 0, none⟩ (.string ⟨#[]⟩)).setCell ⟨w.heap.size, 1, none⟩ (.bool false)).setCell ⟨w.heap.size, 2, none⟩ (.int .i64 0)).setCell ⟨w.heap.size, 3, none⟩ (.slice none 0 0)).setCell ⟨w.heap.size, 4, none⟩ (.slice none 0 0)).setCell ⟨w.heap.size, 5, none⟩ (.slice none 0 0)).setCell ⟨w.heap.size, 6, none⟩ (.slice none 0 0)).drew := ⟨_, rfl⟩
    rw [← hw9] at OF BF ⊢
    clear hw9
    go_wp2_with fail
    try simp only [Exit.inBlock, Exit.then]
    refine bodyPost_ret (policy_ret3 rfl rfl rfl rfl OF.out rfl) rfl ?_
    rw [← HF.out]
    exact ⟨_, rfl, BF.out, noPol_of _ _⟩

theorem parse_any (s : ByteArray) (hs : s.size ≤ maxLen) : Calls Try.prog 13 #[.string s] w (ParseP s w) := by
  by_cases h : 4096 < s.size
  · exact parse_big s h hs
  · cases hl : lexB s.data.toList 0 with
    | error p => exact parse_bad s (by omega) hl
    | ok ts => exact parse_ok s (by omega) hl
end
end Go.Proofs.Ytadjfkgnoklmiaa
/- What is read of a text, as the laws take it. -/
namespace Go.Proofs.Ytadjfkgnoklmiaa
set_option linter.unusedVariables false
open Go.RowKit

theorem parse_is {w : World} {s : ByteArray} {p : Pol} {e i : Int} (h : parseR s = (p, e, i)) (hs : s.size ≤ maxLen) : Calls Try.prog 13 #[.string s] w fun x w' => ∃ y, x = .returned (.tuple #[y, .int .i64 e, .int .i64 i]) ∧ Below w.heap.size w w' ∧ PolOf w w' 5 p y := by
  have := parse_any (w := w) s hs
  unfold ParseP at this
  rw [h] at this
  exact this
theorem PolAt.in_ {w : World} {R : Nat → Prop} {d : Nat} {p : Pol} {A1 A2 A3 A4 : Option Addr} {n1 n2 n3 n4 c1 c2 c3 c4 : Nat} (h : PolAt w R (d + 1) [.string p.id, .bool p.set, .int .i64 p.alg, .slice A1 n1 c1, .slice A2 n2 c2, .slice A3 n3 c3, .slice A4 n4 c4] p) : PolIn w R p A1 n1 c1 A2 n2 c2 A3 n3 c3 A4 n4 c4 := by
  obtain ⟨B1, m1, d1, B2, m2, d2, B3, m3, d3, B4, m4, d4, e, h0, h00, h1, h2, h3, h4⟩ := h
  simp at e
  obtain ⟨⟨rfl, rfl, rfl⟩, ⟨rfl, rfl, rfl⟩, ⟨rfl, rfl, rfl⟩, ⟨rfl, rfl, rfl⟩⟩ := e
  exact ⟨⟨h0, h00⟩, h1, h2, ⟨d, h3⟩, h4⟩
end Go.Proofs.Ytadjfkgnoklmiaa
/- Chapter 15's runs, walked. -/
namespace Go.Proofs.Ytadjfkgnoklmiaa
set_option linter.unusedVariables false
open Go.RowKit

set_option maxRecDepth 100000 in
set_option maxHeartbeats 3200000 in
theorem vread_any {w : World} {s : ByteArray} {p : Pol} {e i : Int} (h : parseR s = (p, e, i)) (hs : s.size ≤ maxLen) :
    Calls Try.prog 6 #[.string s] w fun x w' => ∃ A1 n1 c1 A2 n2 c2 A3 n3 c3 A4 n4 c4, x = .returned (.agg #[.string p.id, .bool p.set, .int .i64 p.alg, .slice A1 n1 c1, .slice A2 n2 c2, .slice A3 n3 c3, .slice A4 n4 c4]) ∧ Below w.heap.size w w' ∧
      PolIn w' (fun _ => True) p A1 n1 c1 A2 n2 c2 A3 n3 c3 A4 n4 c4 := by
  have HP := Lib.hid (fun W => parse_is (w := W) h hs)
  have OB := Lib.hid (Ob.made w 32 #[.string ⟨#[]⟩, .bool false, .int .i64 0, .slice none 0 0, .slice none 0 0, .slice none 0 0, .slice none 0 0])
  have D1 := Lib.hid ((Below.refl w.heap.size w).alloc (Nat.le_refl _) (.cells #[.string ⟨#[]⟩, .bool false, .int .i64 0, .slice none 0 0, .slice none 0 0, .slice none 0 0, .slice none 0 0] 32))
  clear h hs
  go_enter Try.func6, Try.ntmps6
  go_wp2_with fail
  refine (HP.out _).mono ?_
  rintro x w1 ⟨y, rfl, hb, A1, n1, c1, A2, n2, c2, A3, n3, c3, A4, n4, c4, rfl, hp0⟩
  have hp := PolAt.in_ hp0
  clear hp0
  have D2 := below_step D1.out hb
  have OZ := OB.out.below hb OB.out.lt
  have hlt : w.heap.size < w1.heap.size := by have := hb.size; rw [size_al] at this; omega
  clear hb
  have OZ2 := OZ.keep (w' := w1.alloc (.cells #[.string p.id, .bool p.set, .int .i64 p.alg, .slice A1 n1 c1, .slice A2 n2 c2, .slice A3 n3 c3, .slice A4 n4 c4] 32)) (Below.heap_alloc _ _ _ hlt)
  have OP := Ob.made w1 32 #[.string p.id, .bool p.set, .int .i64 p.alg, .slice A1 n1 c1, .slice A2 n2 c2, .slice A3 n3 c3, .slice A4 n4 c4]
  have P7 := put7_ob OZ2 (.string p.id) (.bool p.set) (.int .i64 p.alg) (.slice A1 n1 c1) (.slice A2 n2 c2) (.slice A3 n3 c3) (.slice A4 n4 c4)
  have PO := put7_only (V := w1.alloc (.cells #[.string p.id, .bool p.set, .int .i64 p.alg, .slice A1 n1 c1, .slice A2 n2 c2, .slice A3 n3 c3, .slice A4 n4 c4] 32)) (P := w.heap.size) (.string p.id) (.bool p.set) (.int .i64 p.alg) (.slice A1 n1 c1) (.slice A2 n2 c2) (.slice A3 n3 c3) (.slice A4 n4 c4)
  have DF : Below w.heap.size w (put7W (w1.alloc (.cells #[.string p.id, .bool p.set, .int .i64 p.alg, .slice A1 n1 c1, .slice A2 n2 c2, .slice A3 n3 c3, .slice A4 n4 c4] 32)) w.heap.size (.string p.id) (.bool p.set) (.int .i64 p.alg) (.slice A1 n1 c1) (.slice A2 n2 c2) (.slice A3 n3 c3) (.slice A4 n4 c4)) :=
    (D2.alloc (by omega) _).trans (PO.below (by rw [size_al]; omega) (Nat.le_refl _))
  have HPN : PolIn (w1.alloc (.cells #[.string p.id, .bool p.set, .int .i64 p.alg, .slice A1 n1 c1, .slice A2 n2 c2, .slice A3 n3 c3, .slice A4 n4 c4] 32)) (fun b => b ≠ w.heap.size) p A1 n1 c1 A2 n2 c2 A3 n3 c3 A4 n4 c4 :=
    (hp.then_ ((Below.refl _ _).alloc (Nat.le_refl _) _)).keep (Kept.refl _ _) (fun b hb _ => by have h1 := hb; simp only [size_al] at h1; show b ≠ _; omega)
  have HPF := HPN.keep (R' := fun _ => True) (PO.kept9 (fun b hb => hb)) (fun _ _ _ => trivial)
  simp only [put7W, put1W, put2W, put3W, put4W, put5W, put6W] at P7 PO DF HPF
  have P7' := Lib.hid P7
  have DF' := Lib.hid DF
  have HPF' := Lib.hid HPF
  have q0 := OP.cell 0
  have q1 := OP.cell 1
  have q2 := OP.cell 2
  have q3 := OP.cell 3
  have q4 := OP.cell 4
  have q5 := OP.cell 5
  have q6 := OP.cell 6
  have z0 := OZ2.cell 0
  have z1 := OZ2.cell 1
  have z2 := OZ2.cell 2
  have z3 := OZ2.cell 3
  have z4 := OZ2.cell 4
  have z5 := OZ2.cell 5
  have z6 := OZ2.cell 6
  have f0 := OZ2.frozen 0
  have f1 := OZ2.frozen 1
  have f2 := OZ2.frozen 2
  have f3 := OZ2.frozen 3
  have f4 := OZ2.frozen 4
  have f5 := OZ2.frozen 5
  have f6 := OZ2.frozen 6
  clear OZ OZ2 OP P7 PO DF HPF HPN hp D2 hlt
  go_wp2_with fail
  try simp only [Exit.inBlock, Exit.then]
  refine bodyPost_ret (pol_ret rfl rfl P7'.out) rfl ?_
  exact ⟨A1, n1, c1, A2, n2, c2, A3, n3, c3, A4, n4, c4, rfl, DF'.out, HPF'.out⟩

theorem vr_short : ∀ x ∈ polA vrP, ShortA x := by
  intro x hx
  have h : x ∈ atomsP vrP := mem_atoms.2 hx
  rw [vr_atoms] at h
  simp at h
  rcases h with rfl | rfl
  · exact ⟨⟨by decide, by decide⟩, by decide, fun y hy => by cases hy⟩
  · exact ⟨⟨by decide, by decide⟩, by decide, fun y hy => by simp [conA] at hy; subst hy; exact ⟨by decide, by decide⟩⟩
theorem vr_e : ofE vrP = 0 := by
  unfold ofE
  rw [if_neg (by rw [vr_right]; simp), if_neg]
  rw [atoms_few (by rw [vr_atoms]; decide), vr_atoms]
  decide
theorem vr_l : ofL vrP = [matA vrM, conA [vrN]] := by unfold ofL; rw [if_pos vr_e, vr_atoms]
theorem vrM_ok : vrM.ok := by decide +kernel
theorem vrN_ok : vrN.ok := by decide +kernel
theorem vr_lit {W : World} {g : Nat} (h : Nds W (fun _ => True) (some ⟨g, 0, none⟩) 1 1 [vrN]) :
    Ats (W.alloc (.cells #[.int .i64 3, .string ⟨#[120]⟩, .bool false, .int .i64 1, .int .i64 2, .int .i64 1, .string ⟨#[]⟩, .slice none 0 0, .int .i64 0, .string ⟨#[]⟩, .bool false, .int .i64 0, .int .i64 0, .int .i64 0, .string ⟨#[]⟩, .slice (some ⟨g, 0, none⟩) 1 1] 45)) (fun _ => True) (some ⟨W.heap.size, 0, none⟩) 2 2 [matA vrM, conA [vrN]] := by
  have b1 : Below W.heap.size W (W.alloc (.cells #[.int .i64 3, .string ⟨#[120]⟩, .bool false, .int .i64 1, .int .i64 2, .int .i64 1, .string ⟨#[]⟩, .slice none 0 0, .int .i64 0, .string ⟨#[]⟩, .bool false, .int .i64 0, .int .i64 0, .int .i64 0, .string ⟨#[]⟩, .slice (some ⟨g, 0, none⟩) 1 1] 45)) := (Below.refl _ _).alloc (Nat.le_refl _) _
  have h2 := h.keep (Kept.all b1 _) (fun _ h _ => h)
  have := Rw.lit (k := 8) (P := AtmAt (W.alloc (.cells #[.int .i64 3, .string ⟨#[120]⟩, .bool false, .int .i64 1, .int .i64 2, .int .i64 1, .string ⟨#[]⟩, .slice none 0 0, .int .i64 0, .string ⟨#[]⟩, .bool false, .int .i64 0, .int .i64 0, .int .i64 0, .string ⟨#[]⟩, .slice (some ⟨g, 0, none⟩) 1 1] 45)) (fun _ => True)) (R := fun _ => True) W 45
    (fun a : Atm => [.int .i64 a.m.a.cat, .string a.m.a.name, .bool a.m.a.must, .int .i64 a.m.op, .int .i64 a.m.v.k, .int .i64 a.m.v.n, .string a.m.v.s, match a.c with | [] => .slice none 0 0 | _ => .slice (some ⟨g, 0, none⟩) 1 1]) [matA vrM, conA [vrN]] (n := 2) rfl (by omega) trivial (fun _ _ => rfl) (fun x hx => by
      simp at hx
      rcases hx with rfl | rfl
      · exact ⟨none, 0, 0, rfl, vrM_ok, Rw.nil_ _ _ _ _⟩
      · exact ⟨_, _, _, rfl, zeroM_ok, h2⟩)
  exact this
set_option maxRecDepth 100000 in
set_option maxHeartbeats 3200000 in
theorem vruns_any (w : World) : Calls Try.prog 3 #[] w fun e w' => e = .returned (.bool true) ∧ Below w.heap.size w w' := by
  have HRD := Lib.hid (vread_any (w := w) vr_run (by decide +kernel))
  go_enter Try.func3, Try.ntmps3
  go_wp2_with fail
  refine HRD.out.mono ?_
  rintro x w1 ⟨A1, n1, c1, A2, n2, c2, A3, n3, c3, A4, n4, c4, rfl, hb, hp⟩
  have B1 := Lib.hid hb
  have VO := Lib.hid (vof_any hp vr_short)
  rw [vr_e, vr_l] at VO
  clear hb hp HRD
  go_wp2_with fail
  refine VO.out.mono ?_
  rintro x w2 ⟨A', n', c', rfl, hb, hl⟩
  have B2 := Lib.hid (below_step B1.out hb)
  have OM := Lib.hid (Ob.made w2 39 #[.int .i64 3, .string ⟨#[120]⟩, .bool false, .int .i64 1, .int .i64 2, .int .i64 1, .string ⟨#[]⟩])
  have HL := Lib.hid hl
  clear hb hl VO
  have q := OM.out.c7v
  go_upto_region 4 with fail
  have e3 : (w2.alloc (.cells #[.int .i64 3, .string ⟨#[120]⟩, .bool false, .int .i64 1, .int .i64 2, .int .i64 1, .string ⟨#[]⟩] 39)).heap.size = w2.heap.size + 1 := size_al _ _
  have e4 : ((w2.alloc (.cells #[.int .i64 3, .string ⟨#[120]⟩, .bool false, .int .i64 1, .int .i64 2, .int .i64 1, .string ⟨#[]⟩] 39)).alloc (.cells #[.int .i64 1, .int .i64 1, .int .i64 1, .string ⟨#[]⟩, .int .i64 0, .string ⟨#[]⟩, .bool false] 41)).heap.size = w2.heap.size + 1 + 1 := by rw [size_al, e3]
  have b3 : Below w2.heap.size w2 (w2.alloc (.cells #[.int .i64 3, .string ⟨#[120]⟩, .bool false, .int .i64 1, .int .i64 2, .int .i64 1, .string ⟨#[]⟩] 39)) := (Below.refl _ _).alloc (Nat.le_refl _) _
  have b4 : Below w2.heap.size w2 ((w2.alloc (.cells #[.int .i64 3, .string ⟨#[120]⟩, .bool false, .int .i64 1, .int .i64 2, .int .i64 1, .string ⟨#[]⟩] 39)).alloc (.cells #[.int .i64 1, .int .i64 1, .int .i64 1, .string ⟨#[]⟩, .int .i64 0, .string ⟨#[]⟩, .bool false] 41)) := b3.alloc (by rw [e3]; omega) _
  have k4 : Below (w2.alloc (.cells #[.int .i64 3, .string ⟨#[120]⟩, .bool false, .int .i64 1, .int .i64 2, .int .i64 1, .string ⟨#[]⟩] 39)).heap.size (w2.alloc (.cells #[.int .i64 3, .string ⟨#[120]⟩, .bool false, .int .i64 1, .int .i64 2, .int .i64 1, .string ⟨#[]⟩] 39)) ((w2.alloc (.cells #[.int .i64 3, .string ⟨#[120]⟩, .bool false, .int .i64 1, .int .i64 2, .int .i64 1, .string ⟨#[]⟩] 39)).alloc (.cells #[.int .i64 1, .int .i64 1, .int .i64 1, .string ⟨#[]⟩, .int .i64 0, .string ⟨#[]⟩, .bool false] 41)) := (Below.refl _ _).alloc (Nat.le_refl _) _
  have OM4 := Lib.hid (OM.out.below k4 OM.out.lt)
  have hn : Nds ((w2.alloc (.cells #[.int .i64 3, .string ⟨#[120]⟩, .bool false, .int .i64 1, .int .i64 2, .int .i64 1, .string ⟨#[]⟩] 39)).alloc (.cells #[.int .i64 1, .int .i64 1, .int .i64 1, .string ⟨#[]⟩, .int .i64 0, .string ⟨#[]⟩, .bool false] 41)) (fun _ => True) (some ⟨w2.heap.size + 1, 0, none⟩) 1 1 [vrN] := by
    have := Nds.lit (w2.alloc (.cells #[.int .i64 3, .string ⟨#[120]⟩, .bool false, .int .i64 1, .int .i64 2, .int .i64 1, .string ⟨#[]⟩] 39)) (R := fun _ => True) [vrN] (n := 1) rfl (by omega) trivial (fun y hy => by simp at hy; subst hy; exact vrN_ok)
    rw [e3] at this
    exact this
  have hlit := vr_lit hn
  have k5 : Below ((w2.alloc (.cells #[.int .i64 3, .string ⟨#[120]⟩, .bool false, .int .i64 1, .int .i64 2, .int .i64 1, .string ⟨#[]⟩] 39)).alloc (.cells #[.int .i64 1, .int .i64 1, .int .i64 1, .string ⟨#[]⟩, .int .i64 0, .string ⟨#[]⟩, .bool false] 41)).heap.size ((w2.alloc (.cells #[.int .i64 3, .string ⟨#[120]⟩, .bool false, .int .i64 1, .int .i64 2, .int .i64 1, .string ⟨#[]⟩] 39)).alloc (.cells #[.int .i64 1, .int .i64 1, .int .i64 1, .string ⟨#[]⟩, .int .i64 0, .string ⟨#[]⟩, .bool false] 41)) (((w2.alloc (.cells #[.int .i64 3, .string ⟨#[120]⟩, .bool false, .int .i64 1, .int .i64 2, .int .i64 1, .string ⟨#[]⟩] 39)).alloc (.cells #[.int .i64 1, .int .i64 1, .int .i64 1, .string ⟨#[]⟩, .int .i64 0, .string ⟨#[]⟩, .bool false] 41)).alloc (.cells #[.int .i64 3, .string ⟨#[120]⟩, .bool false, .int .i64 1, .int .i64 2, .int .i64 1, .string ⟨#[]⟩, .slice none 0 0, .int .i64 0, .string ⟨#[]⟩, .bool false, .int .i64 0, .int .i64 0, .int .i64 0, .string ⟨#[]⟩, .slice (some ⟨w2.heap.size + 1, 0, none⟩) 1 1] 45)) := (Below.refl _ _).alloc (Nat.le_refl _) _
  rw [e4] at hlit
  have SA := Lib.hid (vsame_any (HL.out.keep (Kept.all (below_step b4 k5) _) (fun _ h _ => h)) hlit)
  have B5 := Lib.hid (below_step B2.out (below_step b4 k5))
  have cM := OM4.out.c7v
  clear e3 e4 b3 b4 k4 hn hlit k5 OM HL q
  go_wp2_with fail
  refine SA.out.mono ?_
  rintro e w5 ⟨rfl, hb⟩
  have B6 := Lib.hid (below_step B5.out hb)
  clear hb
  go_wp2_with fail
  go_ret
  exact ⟨rfl, B6.out⟩
theorem varsRuns_walk (w : World) : Calls Try.prog 3 #[] w fun e w' => e = .returned (.bool true) ∧ Below w.heap.size w w' := vruns_any w
end Go.Proofs.Ytadjfkgnoklmiaa
/- bailiffkeep: how much of a target may be gone through. -/
namespace Go.Proofs.Ytadjfkgnoklmiaa
set_option linter.unusedVariables false
open Go.RowKit

theorem takes1_any {w : World} {g m n : Nat} (hl : Lf w g m) (hm : m ≤ 3000) (hn : n < maxLen) :
    Calls Try.prog 26 #[.pointer (some ⟨g, 0, none⟩), .int .i64 (1 + (n : Int))] w fun e w' => e = .returned (.bool (decide (1 + n ≤ m))) ∧ Only g w w' ∧ (1 + n ≤ m → Lf w' g (m - (1 + n))) := by
  have := takes_any (n := 1 + n) hl hm (by omega)
  unfold Taking at this
  rwa [show ((1 + n : Nat) : Int) = 1 + (n : Int) by omega] at this

set_option maxRecDepth 100000 in
set_option maxHeartbeats 1600000 in
theorem ktarget_any {w : World} {R : Nat → Prop} {g m n c : Nat} {A : Option Addr} {l : Tgt} (hl : Lf w g m) (hm : m ≤ 3000) (hR : ∀ b, R b → b ≠ g) (h : Tg w R A n c l) :
    Taking 28 #[.pointer (some ⟨g, 0, none⟩), .slice A n c] w g m (tgC l) := by
  have hle := Rw.le h
  have hcap := Rw.cap h
  have HL := Lib.hid (Rw.len h)
  have hbig := Rw.big h
  have HT := Lib.hid (takes1_any (n := n) hl hm (by unfold maxLen; omega))
  have H := Lib.hid h
  have HR := Lib.hid hR
  have HM := Lib.hid hm
  unfold maxLen at hcap
  unfold Taking
  have HC : Hid (tgC l = 1 + n + sumC anyC l) := by show tgC l = _; unfold tgC; rw [HL.out]
  generalize hcc : tgC l = cc at *
  clear hcc h hl hR hm
  by_cases h1 : 1 + n ≤ m
  · rw [decide_eq_true h1] at HT
    have H1 := Lib.hid h1
    clear h1
    go_enter Try.func28, Try.ntmps28
    go_wp2_with (go_at_call 26; refine HT.out.mono ?_; rintro e w1 ⟨rfl, hb, hw⟩; have B1 := Lib.hid hb; have W1 := Lib.hid (hw H1.out); clear hb hw)
    go_loopw [19] (fun i wr => ∃ k mk : Nat, k ≤ n ∧ i = .int .i64 k ∧ sumC anyC (l.take k) + mk = m - (1 + n) ∧ Lf wr g mk ∧ Only g w wr) (fun i _ => n - (intOf i).toNat)
    case atStart => exact ⟨0, m - (1 + n), Nat.zero_le _, rfl, by rw [sumC_zero]; omega, W1.out, B1.out⟩
    case round =>
      obtain ⟨wo, hwo⟩ : ∃ wo, wo = wr := ⟨wr, rfl⟩
      subst hwo
      obtain ⟨k, mk, hk, rfl, hs, hlf, hb⟩ := hrel
      have HS := Lib.hid hs
      have HB := Lib.hid hb
      have HF := Lib.hid hlf
      clear hs hb hlf
      by_cases hlt : k < n
      · obtain ⟨b, o, x, A', n', c', rfl, hRb, hbl, hx, c0, hin⟩ := (H.out.keep (HB.out.kept HR.out) (fun _ h _ => h)).at_ hlt
        have HX := Lib.hid hx
        have hle' := Rw.le hin
        have hcap' := Rw.cap hin
        have hbig' := Rw.big hin
        have HL' := Lib.hid (Rw.len hin)
        have HIN := Lib.hid hin
        have hsx := sumC_le (f := anyC) hx
        have hex : anyC x = 1 + n' + sumC allC x := by unfold anyC; rw [Rw.len hin]
        have HSX := Lib.hid hsx
        have HEX := Lib.hid hex
        clear hx hin hsx hex
        by_cases h2 : 1 + n' ≤ mk
        · have HT2 := Lib.hid (takes1_any (n := n') HF.out (by have := HS.out; have := HM.out; omega) (by unfold maxLen; omega))
          rw [decide_eq_true h2] at HT2
          unfold maxLen at hcap'
          have H2 := Lib.hid h2
          clear h2
          go_wp2_with (go_at_call 26; refine HT2.out.mono ?_; rintro e w2 ⟨rfl, hb, hw⟩; have B2 := Lib.hid hb; have W2 := Lib.hid (hw H2.out); clear hb hw)
          go_loopw [31] (fun i wq => ∃ k2 m2 : Nat, k2 ≤ n' ∧ i = .int .i64 k2 ∧ sumC allC (x.take k2) + m2 = mk - (1 + n') ∧ Lf wq g m2 ∧ Only g wo wq) (fun i _ => n' - (intOf i).toNat)
          case atStart => exact ⟨0, mk - (1 + n'), Nat.zero_le _, rfl, by rw [sumC_zero]; omega, W2.out, B2.out⟩
          case round =>
            obtain ⟨wq, hwq⟩ : ∃ wq, wq = wr := ⟨wr, rfl⟩
            subst hwq
            obtain ⟨k2, m2, hk2, rfl, hs, hlf, hb⟩ := hrel
            have HS2 := Lib.hid hs
            have HB2 := Lib.hid hb
            have HF2 := Lib.hid hlf
            clear hs hb hlf
            by_cases hlt2 : k2 < n'
            · obtain ⟨b2, o2, y, A2, n2, c2, rfl, hRb2, hbl2, hy, d0, hin2⟩ := (HIN.out.keep (HB2.out.kept HR.out) (fun _ h _ => h)).at_ hlt2
              have HY := Lib.hid hy
              have hle2 := Rw.le hin2
              have hcap2 := Rw.cap hin2
              have hbig2 := Rw.big hin2
              have HL2 := Lib.hid (Rw.len hin2)
              have HIN2 := Lib.hid hin2
              have hsy := sumC_le (f := allC) hy
              have hey : allC y = 1 + n2 + sumC matC y := by unfold allC; rw [Rw.len hin2]
              have HSY := Lib.hid hsy
              have HEY := Lib.hid hey
              clear hy hin2 hsy hey
              by_cases h3 : 1 + n2 ≤ m2
              · have HT3 := Lib.hid (takes1_any (n := n2) HF2.out (by have := HS2.out; have := HS.out; have := HM.out; omega) (by unfold maxLen; omega))
                rw [decide_eq_true h3] at HT3
                unfold maxLen at hcap2
                have H3 := Lib.hid h3
                clear h3
                go_wp2_with (go_at_call 26; refine HT3.out.mono ?_; rintro e w3 ⟨rfl, hb, hw⟩; have B3 := Lib.hid hb; have W3 := Lib.hid (hw H3.out); clear hb hw)
                go_loopw [43] (fun i wz => ∃ k3 m3 : Nat, k3 ≤ n2 ∧ i = .int .i64 k3 ∧ sumC matC (y.take k3) + m3 = m2 - (1 + n2) ∧ Lf wz g m3 ∧ Only g wq wz) (fun i _ => n2 - (intOf i).toNat)
                case atStart => exact ⟨0, m2 - (1 + n2), Nat.zero_le _, rfl, by rw [sumC_zero]; omega, W3.out, B3.out⟩
                case round =>
                  obtain ⟨wz, hwz⟩ : ∃ wz, wz = wr := ⟨wr, rfl⟩
                  subst hwz
                  obtain ⟨k3, m3, hk3, rfl, hs, hlf, hb⟩ := hrel
                  have HS3 := Lib.hid hs
                  have HB3 := Lib.hid hb
                  have HF3 := Lib.hid hlf
                  clear hs hb hlf
                  by_cases hlt3 : k3 < n2
                  · obtain ⟨b3, o3, z, rfl, hRb3, hbl3, hz, hok, f0, f1, f2, f3, f4, f5, f6⟩ := (HIN2.out.keep (HB3.out.kept HR.out) (fun _ h _ => h)).at_ hlt3
                    have HZ := Lib.hid hz
                    have HSZ := Lib.hid (sumC_le (f := matC) hz)
                    have HEZ : Hid (matC z = textC z.a.name + textC z.v.s) := rfl
                    have HXT := Lib.hid (ktext_any z.a.name (HF3.out.alloc (.cells #[.int .i64 z.a.cat, .string z.a.name, .bool z.a.must, .int .i64 z.op, .int .i64 z.v.k, .int .i64 z.v.n, .string z.v.s] 39)) (by have := HS3.out; have := HS2.out; have := HS.out; have := HM.out; omega) hok.1.2)
                    unfold Taking at HXT
                    have HOK := Lib.hid hok
                    have HLT : Hid (g < wz.heap.size) := HF3.out.lt
                    clear hz hok
                    by_cases h4 : textC z.a.name ≤ m3
                    · rw [decide_eq_true h4] at HXT
                      have H4 := Lib.hid h4
                      have hne : wz.heap.size ≠ g := by have := HLT.out; omega
                      clear h4
                      by_cases h5 : textC z.v.s ≤ m3 - textC z.a.name
                      · have H5 := Lib.hid h5
                        have d5 := decide_eq_true h5
                        clear h5
                        go_wp2_with (first
                          | (go_at_call 27; (with_reducible refine HXT.out.mono ?_); rintro e w4 ⟨rfl, hb, hw⟩; have B4 := Lib.hid hb; have W4 := Lib.hid (hw H4.out); have BX := Lib.hid ((Ob.made wz 39 #[.int .i64 z.a.cat, .string z.a.name, .bool z.a.must, .int .i64 z.op, .int .i64 z.v.k, .int .i64 z.v.n, .string z.v.s]).keep (hb.heap (by simp) hne)); have g6 := BX.out.cell 6; have HXT2 := Lib.hid (ktext_any z.v.s W4.out (by have := HS3.out; have := HS2.out; have := HS.out; have := HM.out; omega) HOK.out.2.2.2.2); unfold Taking at HXT2; rw [d5] at HXT2; clear hb hw)
                          | (go_at_call 27; (with_reducible refine HXT2.out.mono ?_); rintro e w5 ⟨rfl, hb, hw⟩; have B5 := Lib.hid hb; have W5 := Lib.hid (hw H5.out); clear hb hw))
                        go_roundw
                        case rel => exact ⟨k3 + 1, m3 - textC z.a.name - textC z.v.s, by omega, by go_num, by rw [sumC_take HZ.out, HEZ.out]; have := HS3.out; have := H4.out; have := H5.out; omega, W5.out, HB3.out.trans ((Only.alloc _ _ _).trans (B4.out.trans B5.out))⟩
                        case measure => simp [intOf]; omega
                      · have H5 := Lib.hid h5
                        have d5 := decide_eq_false h5
                        clear h5
                        go_wp2_with (first
                          | (go_at_call 27; (with_reducible refine HXT.out.mono ?_); rintro e w4 ⟨rfl, hb, hw⟩; have B4 := Lib.hid hb; have W4 := Lib.hid (hw H4.out); have BX := Lib.hid ((Ob.made wz 39 #[.int .i64 z.a.cat, .string z.a.name, .bool z.a.must, .int .i64 z.op, .int .i64 z.v.k, .int .i64 z.v.n, .string z.v.s]).keep (hb.heap (by simp) hne)); have g6 := BX.out.cell 6; have HXT2 := Lib.hid (ktext_any z.v.s W4.out (by have := HS3.out; have := HS2.out; have := HS.out; have := HM.out; omega) HOK.out.2.2.2.2); unfold Taking at HXT2; rw [d5] at HXT2; clear hb hw)
                          | (go_at_call 27; (with_reducible refine HXT2.out.mono ?_); rintro e w5 ⟨rfl, hb, hw⟩; have B5 := Lib.hid hb; clear hb hw))
                        go_ret
                        have hbad : ¬ cc ≤ m := by
                          have := HC.out; have := HS.out; have := H1.out; have := HSX.out; have := HEX.out; have := HS2.out; have := H2.out; have := HSY.out; have := HEY.out; have := HS3.out; have := H3.out; have := HSZ.out; have := HEZ.out; have := H4.out; have := H5.out
                          omega
                        exact ⟨ret_bool (decide_eq_false hbad).symm, HB.out.trans (HB2.out.trans (HB3.out.trans ((Only.alloc _ _ _).trans (B4.out.trans B5.out)))), fun h => absurd h hbad⟩
                    · rw [decide_eq_false h4] at HXT
                      have H4 := Lib.hid h4
                      clear h4
                      go_wp2_with (go_at_call 27; refine HXT.out.mono ?_; rintro e w4 ⟨rfl, hb, hw⟩; have B4 := Lib.hid hb; clear hb hw)
                      go_ret
                      have hbad : ¬ cc ≤ m := by
                        have := HC.out; have := HS.out; have := H1.out; have := HSX.out; have := HEX.out; have := HS2.out; have := H2.out; have := HSY.out; have := HEY.out; have := HS3.out; have := H3.out; have := HSZ.out; have := HEZ.out; have := H4.out
                        omega
                      exact ⟨ret_bool (decide_eq_false hbad).symm, HB.out.trans (HB2.out.trans (HB3.out.trans ((Only.alloc _ _ _).trans B4.out))), fun h => absurd h hbad⟩
                  · obtain rfl : k3 = n2 := by omega
                    go_wp2
                    go_roundw
                    case rel =>
                      have hs := HS3.out
                      rw [sumC_all HL2.out] at hs
                      exact ⟨k2 + 1, m3, by omega, by go_num, by rw [sumC_take HY.out, HEY.out]; have := HS2.out; have := H3.out; omega, HF3.out, HB2.out.trans HB3.out⟩
                    case measure => simp [intOf]; omega
              · have HT3 := Lib.hid (takes1_any (n := n2) HF2.out (by have := HS2.out; have := HS.out; have := HM.out; omega) (by unfold maxLen; omega))
                rw [decide_eq_false h3] at HT3
                unfold maxLen at hcap2
                have H3 := Lib.hid h3
                clear h3
                go_wp2_with (go_at_call 26; refine HT3.out.mono ?_; rintro e w3 ⟨rfl, hb, hw⟩; have B3 := Lib.hid hb; clear hb hw)
                go_ret
                have hbad : ¬ cc ≤ m := by
                  have := HC.out; have := HS.out; have := H1.out; have := HSX.out; have := HEX.out; have := HS2.out; have := H2.out; have := HSY.out; have := HEY.out; have := H3.out
                  omega
                exact ⟨ret_bool (decide_eq_false hbad).symm, HB.out.trans (HB2.out.trans B3.out), fun h => absurd h hbad⟩
            · obtain rfl : k2 = n' := by omega
              go_wp2
              go_roundw
              case rel =>
                have hs := HS2.out
                rw [sumC_all HL'.out] at hs
                exact ⟨k + 1, m2, by omega, by go_num, by rw [sumC_take HX.out, HEX.out]; have := HS.out; have := H2.out; omega, HF2.out, HB.out.trans HB2.out⟩
              case measure => simp [intOf]; omega
        · have HT2 := Lib.hid (takes1_any (n := n') HF.out (by have := HS.out; have := HM.out; omega) (by unfold maxLen; omega))
          rw [decide_eq_false h2] at HT2
          unfold maxLen at hcap'
          have H2 := Lib.hid h2
          clear h2
          go_wp2_with (go_at_call 26; refine HT2.out.mono ?_; rintro e w2 ⟨rfl, hb, hw⟩; have B2 := Lib.hid hb; clear hb hw)
          go_ret
          have hbad : ¬ cc ≤ m := by
            have := HC.out; have := HS.out; have := H1.out; have := HSX.out; have := HEX.out; have := H2.out
            omega
          exact ⟨ret_bool (decide_eq_false hbad).symm, HB.out.trans B2.out, fun h => absurd h hbad⟩
      · obtain rfl : k = n := by omega
        go_wp2
        go_ret
        have hs := HS.out
        rw [sumC_all HL.out] at hs
        have := HC.out
        have := H1.out
        exact ⟨ret_bool (decide_eq_true (by omega)).symm, HB.out, fun _ => by rw [show m - cc = mk by omega]; exact HF.out⟩
  · rw [decide_eq_false h1] at HT
    have H1 := Lib.hid h1
    clear h1
    go_enter Try.func28, Try.ntmps28
    go_wp2_with (go_at_call 26; refine HT.out.mono ?_; rintro e w1 ⟨rfl, hb, hw⟩; have B1 := Lib.hid hb; clear hb hw)
    go_ret
    have hbad : ¬ cc ≤ m := by have := HC.out; have := H1.out; omega
    exact ⟨ret_bool (decide_eq_false hbad).symm, B1.out, fun h => absurd h hbad⟩
end Go.Proofs.Ytadjfkgnoklmiaa
