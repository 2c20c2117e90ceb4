/- below, above, number of package lex. -/
import Derived.Test.YtpedfkigneahgaaDoorLexOne
import Derived.OwnWalk
namespace Go.Proofs.YtpedfkigneahgaaDoor
set_option linter.unusedVariables false
open Go.RowKit

def AllD (l : List UInt8) : Prop := ∀ c ∈ l, dgt c = true
theorem numD_app (l : List UInt8) (c : UInt8) : numD (l ++ [c]) = 10 * numD l + (c.toNat - 48) := by unfold numD; rw [List.foldl_append]; rfl
theorem numD_mono (l m : List UInt8) : numD l ≤ numD (l ++ m) := by
  induction m generalizing l with
  | nil => simp
  | cons c m ih =>
    have h1 := ih (l ++ [c])
    have h2 := numD_app l c
    rw [List.append_assoc] at h1
    simp only [List.cons_append, List.nil_append] at h1
    omega
/-- What a number's digits give: the number, or nothing. -/
def numP (o : Option Nat) (s : Int) : Value := .tuple #[.int .i64 (s * ((o.getD 0 : Nat) : Int)), .bool o.isSome]
def BRel (l : List UInt8) (most : Nat) (n i : Value) : Prop := ∃ k m : Nat, k ≤ l.length ∧ m ≤ most ∧ m = numD (l.take k) ∧ n = .int .i64 (-(m : Int)) ∧ i = .int .i64 (k : Int)

set_option maxHeartbeats 1600000 in
theorem below_any (s : ByteArray) (hs : s.size ≤ 1000000) (hd : AllD s.data.toList) (most : Nat) (hm : 9 ≤ most) (hm2 : most ≤ 9223372036854775808) (w : World) :
    Calls Tryd.prog 27 #[.string s, .int .i64 (-(most : Int))] w fun e w' => e = .returned (numP (decD most s.data.toList) (-1)) ∧ w' = w := by
  have hl := data_len s
  generalize hL : s.data.toList = l at *
  have HD : Hid (∀ k (h : k < s.size), l[k]? = some s[k]) := by
    show ∀ k (h : k < s.size), l[k]? = some s[k]
    subst hL; exact fun k h => data_at h
  have HL := Lib.hid hl
  have HA : Hid (AllD l) := hd
  clear hl hd
  by_cases h0 : s.size = 0
  · have he : l = [] := List.eq_nil_of_length_eq_zero (by rw [HL.out, h0])
    have hse : s = ⟨#[]⟩ := by
      apply ByteArray.ext
      exact Array.eq_empty_of_size_eq_zero h0
    have HV : Hid (numP (decD most l) (-1) = .tuple #[.int .i64 0, .bool false]) := by show _ = _; rw [he]; unfold decD; rw [if_pos (.inl rfl)]; rfl
    subst hse
    clear he h0 HD HL HA hL hs
    go_enter Tryd.func27, Tryd.ntmps27
    go_wp2_with fail
    go_ret2
    exact ⟨by rw [HV.out]; rfl, rfl⟩
  · have h0' : 0 < s.size := by omega
    have hl0 := HD.out 0 h0'
    have hts : s.toList = l := by rw [ByteArray.toList_eq, hL]
    generalize hcc : s[0] = c0 at *
    obtain ⟨r, hr⟩ : ∃ r, l = c0 :: r := by
      match l, hl0 with
      | x :: r, hl0 => simp at hl0; subst hl0; exact ⟨r, rfl⟩
    have e1 : (s.toList == []) = false := by rw [hts, hr]; rfl
    have e1' : s.toList.isEmpty = false := by rw [hts, hr]; rfl
    have e2 : (s.toList == [48]) = decide (l = [48]) := by rw [hts]; rw [Bool.eq_iff_iff]; simp
    have HR := Lib.hid hr
    have HTS := Lib.hid hts
    have HL0 := Lib.hid hl0
    clear hr hts hl0 hL
    by_cases hz : c0 = 48 ∧ l ≠ [48]
    · obtain ⟨rfl, hne⟩ := hz
      have HV : Hid (numP (decD most l) (-1) = .tuple #[.int .i64 0, .bool false]) := by show _ = _; unfold decD; rw [if_pos (.inr (.inl ⟨by rw [HR.out]; rfl, hne⟩))]; rfl
      rw [decide_eq_false hne] at e2
      clear hne
      go_enter Tryd.func27, Tryd.ntmps27
      go_wp2_with fail
      go_ret2
      exact ⟨by rw [HV.out]; rfl, rfl⟩
    · have HZ := Lib.hid hz
      clear hz
      have two : (((c0.toNat : Int) == 48) = true ∧ l = [48]) ∨ ((c0.toNat : Int) == 48) = false := by
        by_cases h : c0 = 48
        · left
          subst h
          exact ⟨rfl, Classical.byContradiction fun hh => HZ.out ⟨rfl, hh⟩⟩
        · right
          rw [beq_eq_false_iff_ne]
          intro hh
          exact h (UInt8.toNat_inj.1 (by have : (48 : UInt8).toNat = 48 := rfl; omega))
      have hstart : BRel l most (.int .i64 0) (.int .i64 0) := ⟨0, 0, by omega, by omega, rfl, rfl, rfl⟩
      have HS := Lib.hid hstart
      clear hstart
      rcases two with ⟨a, b⟩ | a
      case' inl => rw [decide_eq_true b] at e2; clear b
      all_goals
        go_enter Tryd.func27, Tryd.ntmps27
        go_wp2_with fail
        go_loop [6, 22] (fun n i => BRel l most n i) (fun _ i => s.size - (intOf i).toNat)
        case atStart => exact HS.out
        case round =>
          obtain ⟨k, m, hk, hmm, hmd, rfl, rfl⟩ := hrel
          have HM := Lib.hid hmd
          clear hmd
          have hk2 : k ≤ s.size := by have := HL.out; omega
          clear hk
          by_cases hlt : k < s.size
          · have hi : 0 ≤ (k : Int) ∧ (k : Int) < s.size := by omega
            have hc := HD.out k hlt
            generalize hck : s[k] = c at *
            have hcd : 48 ≤ (c.toNat : Int) ∧ (c.toNat : Int) ≤ 57 := by
              have := HA.out c (List.mem_of_getElem? hc)
              unfold dgt at this
              simp at this
              omega
            have HC := Lib.hid hc
            clear hc
            have HN : Hid (numD (l.take (k + 1)) = 10 * m + (c.toNat - 48)) := by
              show _ = _
              obtain ⟨hk3, e⟩ := List.getElem?_eq_some_iff.1 HC.out
              rw [List.take_succ_eq_append_getElem hk3, numD_app, e, ← HM.out]
            by_cases hov : most < 10 * m + (c.toNat - 48)
            · have hq : (-(m : Int)) < (-(most : Int) + ((c.toNat : Int) - 48)).tdiv 10 := by
                rw [show -(most : Int) + ((c.toNat : Int) - 48) = -((most : Int) - ((c.toNat : Int) - 48)) by omega, Int.neg_tdiv, Int.tdiv_eq_ediv_of_nonneg (by omega)]
                omega
              have HV : Hid (numP (decD most l) (-1) = .tuple #[.int .i64 0, .bool false]) := by
                show _ = _
                unfold decD
                rw [if_pos (.inr (.inr (by
                  have := numD_mono (l.take (k + 1)) (l.drop (k + 1))
                  rw [List.take_append_drop] at this
                  have := HN.out
                  omega)))]
                rfl
              go_wp2_with fail
              go_ret2
              exact ⟨by rw [HV.out]; rfl, rfl⟩
            · have hq : ¬ (-(m : Int)) < (-(most : Int) + ((c.toNat : Int) - 48)).tdiv 10 := by
                rw [show -(most : Int) + ((c.toNat : Int) - 48) = -((most : Int) - ((c.toNat : Int) - 48)) by omega, Int.neg_tdiv, Int.tdiv_eq_ediv_of_nonneg (by omega)]
                omega
              go_wp2_with fail
              go_round
              case rel => exact ⟨k + 1, 10 * m + (c.toNat - 48), by have := HL.out; omega, by omega, HN.out.symm, by first | rfl | (exact int_eq (by omega)), by go_num⟩
              case measure => simp [intOf]; omega
          · obtain rfl : k = s.size := by omega
            have HV : Hid (numP (decD most l) (-1) = .tuple #[.int .i64 (-(m : Int)), .bool true]) := by
              show _ = _
              have e : numD l = m := by rw [HM.out, ← HL.out, List.take_length]
              have e3 : decD most l = some m := by
                unfold decD
                rw [if_neg, e]
                rintro (h | ⟨h, h'⟩ | h)
                · rw [HR.out] at h; cases h
                · rw [HR.out] at h; simp at h; exact HZ.out ⟨h, h'⟩
                · omega
              rw [e3]
              unfold numP
              simp
            go_wp2_with fail
            go_ret2
            exact ⟨by rw [HV.out]; rfl, rfl⟩
end Go.Proofs.YtpedfkigneahgaaDoor
