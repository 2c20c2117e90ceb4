/- Several texts in one: LexNum, LexNumS, LexText, Toks, Scopes. -/
import Derived.Test.YtmoglaknmlhpgaaGreatDoorOnlW
import Derived.OwnWalk
import Derived.Test.YtmoglaknmlhpgaaGreatDoorOnlH
import Derived.Test.YtmoglaknmlhpgaaGreatDoorOnlO
import Derived.Test.YtmoglaknmlhpgaaGreatDoorOnlA
import Derived.Deep.RegionLaw
import Derived.Laws.OwnMore
import Derived.Maps.AppendAt
import Derived.ScopeJumps
import Derived.WalkMore
/- below, above, number of package lex. -/
namespace Go.Proofs.YtmoglaknmlhpgaaGreatDoor
set_option linter.unusedVariables false
open Go.RowKit

def numP (o : Option Nat) (s : Int) : Value := .tuple #[.int .i64 (s * ((o.getD 0 : Nat) : Int)), .bool o.isSome]
def BRel (l : List UInt8) (most : Nat) (n i : Value) : Prop := ∃ k m : Nat, k ≤ l.length ∧ m ≤ most ∧ m = numD (l.take k) ∧ n = .int .i64 (-(m : Int)) ∧ i = .int .i64 (k : Int)

set_option maxHeartbeats 1600000 in
theorem below_any (s : ByteArray) (hs : s.size ≤ 1000000) (hd : AllD s.data.toList) (most : Nat) (hm : 9 ≤ most) (hm2 : most ≤ 9223372036854775808) (w : World) :
  Calls Tryz.prog 116 #[.string s, .int .i64 (-(most : Int))] w fun e w' => e = .returned (numP (decD most s.data.toList) (-1)) ∧ w' = w := by
 have hl := data_len s
 generalize hL : s.data.toList = l at *
 have HD : Hid (∀ k (h : k < s.size), l[k]? = some s[k]) := by
  show ∀ k (h : k < s.size), l[k]? = some s[k]
  subst hL; exact fun k h => data_at h
 have HL := Lib.hid hl
 have HA : Hid (AllD l) := hd
 clear hl hd
 by_cases h0 : s.size = 0
 ·have he : l = [] := List.eq_nil_of_length_eq_zero (by rw [HL.out, h0])
  have hse : s = ⟨#[]⟩ := by
   apply ByteArray.ext
   exact Array.eq_empty_of_size_eq_zero h0
  have HV : Hid (numP (decD most l) (-1) = .tuple #[.int .i64 0, .bool false]) := by show _ = _; rw [he]; unfold decD; rw [if_pos (.inl rfl)]; rfl
  subst hse
  clear he h0 HD HL HA hL hs
  go_enter Tryz.func116, Tryz.ntmps116
  go_wp2_with fail
  go_ret2
  exact ⟨by rw [HV.out]; rfl, rfl⟩
 ·have h0' : 0 < s.size := by omega
  have hl0 := HD.out 0 h0'
  have hts : s.toList = l := by rw [ByteArray.toList_eq, hL]
  generalize hcc : s[0] = c0 at *
  obtain ⟨r, hr⟩ : ∃ r, l = c0 :: r := by
   match l, hl0 with
   | x :: r, hl0 => simp at hl0; subst hl0; exact ⟨r, rfl⟩
  have e1 : (s.toList == []) = false := by rw [hts, hr]; rfl
  have e1' : s.toList.isEmpty = false := by rw [hts, hr]; rfl
  have e2 : (s.toList == [48]) = decide (l = [48]) := by rw [hts]; rw [Bool.eq_iff_iff]; simp
  have HR := Lib.hid hr
  have HTS := Lib.hid hts
  have HL0 := Lib.hid hl0
  clear hr hts hl0 hL
  by_cases hz : c0 = 48 ∧ l ≠ [48]
  ·obtain ⟨rfl, hne⟩ := hz
   have HV : Hid (numP (decD most l) (-1) = .tuple #[.int .i64 0, .bool false]) := by show _ = _; unfold decD; rw [if_pos (.inr (.inl ⟨by rw [HR.out]; rfl, hne⟩))]; rfl
   rw [decide_eq_false hne] at e2
   clear hne
   go_enter Tryz.func116, Tryz.ntmps116
   go_wp2_with fail
   go_ret2
   exact ⟨by rw [HV.out]; rfl, rfl⟩
  ·have HZ := Lib.hid hz
   clear hz
   have two : (((c0.toNat : Int) == 48) = true ∧ l = [48]) ∨ ((c0.toNat : Int) == 48) = false := by
    by_cases h : c0 = 48
    ·left
     subst h
     exact ⟨rfl, Classical.byContradiction fun hh => HZ.out ⟨rfl, hh⟩⟩
    ·right
     rw [beq_eq_false_iff_ne]
     intro hh
     exact h (UInt8.toNat_inj.1 (by have : (48 : UInt8).toNat = 48 := rfl; omega))
   have hstart : BRel l most (.int .i64 0) (.int .i64 0) := ⟨0, 0, by omega, by omega, rfl, rfl, rfl⟩
   have HS := Lib.hid hstart
   clear hstart
   rcases two with ⟨a, b⟩ | a
   case' inl => rw [decide_eq_true b] at e2; clear b
   all_goals
    go_enter Tryz.func116, Tryz.ntmps116
    go_wp2_with fail
    go_loop [6, 22] (fun n i => BRel l most n i) (fun _ i => s.size - (intOf i).toNat)
    case atStart => exact HS.out
    case round =>
     obtain ⟨k, m, hk, hmm, hmd, rfl, rfl⟩ := hrel
     have HM := Lib.hid hmd
     clear hmd
     have hk2 : k ≤ s.size := by have := HL.out; omega
     clear hk
     by_cases hlt : k < s.size
     ·have hi : 0 ≤ (k : Int) ∧ (k : Int) < s.size := by omega
      have hc := HD.out k hlt
      generalize hck : s[k] = c at *
      have hcd : 48 ≤ (c.toNat : Int) ∧ (c.toNat : Int) ≤ 57 := by
       have := HA.out c (List.mem_of_getElem? hc)
       unfold dgt at this
       simp at this
       omega
      have HC := Lib.hid hc
      clear hc
      have HN : Hid (numD (l.take (k + 1)) = 10 * m + (c.toNat - 48)) := by
       show _ = _
       obtain ⟨hk3, e⟩ := List.getElem?_eq_some_iff.1 HC.out
       rw [List.take_succ_eq_append_getElem hk3, numD_app, e, ← HM.out]
      by_cases hov : most < 10 * m + (c.toNat - 48)
      ·have hq : (-(m : Int)) < (-(most : Int) + ((c.toNat : Int) - 48)).tdiv 10 := by
        rw [show -(most : Int) + ((c.toNat : Int) - 48) = -((most : Int) - ((c.toNat : Int) - 48)) by omega, Int.neg_tdiv, Int.tdiv_eq_ediv_of_nonneg (by omega)]
        omega
       have HV : Hid (numP (decD most l) (-1) = .tuple #[.int .i64 0, .bool false]) := by
        show _ = _
        unfold decD
        rw [if_pos (.inr (.inr (by
         have := numD_mono (l.take (k + 1)) (l.drop (k + 1))
         rw [List.take_append_drop] at this
         have := HN.out
         omega)))]
        rfl
       go_wp2_with fail
       go_ret2
       exact ⟨by rw [HV.out]; rfl, rfl⟩
      ·have hq : ¬ (-(m : Int)) < (-(most : Int) + ((c.toNat : Int) - 48)).tdiv 10 := by
        rw [show -(most : Int) + ((c.toNat : Int) - 48) = -((most : Int) - ((c.toNat : Int) - 48)) by omega, Int.neg_tdiv, Int.tdiv_eq_ediv_of_nonneg (by omega)]
        omega
       go_wp2_with fail
       go_round
       case rel => exact ⟨k + 1, 10 * m + (c.toNat - 48), by have := HL.out; omega, by omega, HN.out.symm, by first | rfl | (exact int_eq (by omega)), by go_num⟩
       case measure => simp [intOf]; omega
     ·obtain rfl : k = s.size := by omega
      have HV : Hid (numP (decD most l) (-1) = .tuple #[.int .i64 (-(m : Int)), .bool true]) := by
       show _ = _
       have e : numD l = m := by rw [HM.out, ← HL.out, List.take_length]
       have e3 : decD most l = some m := by
        unfold decD
        rw [if_neg, e]
        rintro (h | ⟨h, h'⟩ | h)
        ·rw [HR.out] at h; cases h
        ·rw [HR.out] at h; simp at h; exact HZ.out ⟨h, h'⟩
        ·omega
       rw [e3]
       unfold numP
       simp
      go_wp2_with fail
      go_ret2
      exact ⟨by rw [HV.out]; rfl, rfl⟩
end Go.Proofs.YtmoglaknmlhpgaaGreatDoor
/- above, number of package lex. -/
namespace Go.Proofs.YtmoglaknmlhpgaaGreatDoor
set_option linter.unusedVariables false
open Go.RowKit

def nmV (o : Option Int) : Value := .tuple #[.int .i64 (o.getD 0), .bool o.isSome]
theorem numD_le {most n : Nat} {l : List UInt8} (h : decD most l = some n) : n ≤ most := by
 unfold decD at h
 split at h
 ·cases h
 ·rename_i hh
  cases h
  omega
set_option maxHeartbeats 800000 in
theorem above_any (s : ByteArray) (hs : s.size ≤ 1000000) (hd : AllD s.data.toList) (most : Nat) (hm : 9 ≤ most) (hm2 : most ≤ 9223372036854775807) (w : World) :
  Calls Tryz.prog 86 #[.string s, .int .i64 (most : Int)] w fun e w' => e = .returned (nmV ((decD most s.data.toList).map fun (n : Nat) => (n : Int))) ∧ w' = w := by
 have hb := below_any s hs hd most hm (by omega) w
 cases ho : decD most s.data.toList with
 | none =>
  rw [ho] at hb
  have HB : Hid (Calls Tryz.prog 116 #[.string s, .int .i64 (-(most : Int))] w fun e w' => e = .returned (.tuple #[.int .i64 0, .bool false]) ∧ w' = w) := hb
  clear hb ho hd
  go_enter Tryz.func86, Tryz.ntmps86
  go_wp2_with (go_at_call 116; refine HB.out.mono ?_; rintro e w' ⟨rfl, rfl⟩)
  go_ret2
  exact ⟨rfl, rfl⟩
 | some m =>
  rw [ho] at hb
  have hml := numD_le ho
  have HB : Hid (Calls Tryz.prog 116 #[.string s, .int .i64 (-(most : Int))] w fun e w' => e = .returned (.tuple #[.int .i64 (-(m : Int)), .bool true]) ∧ w' = w) := hb.mono fun e w' hh => ⟨by rw [hh.1]; unfold numP; simp, hh.2⟩
  clear hb ho hd
  go_enter Tryz.func86, Tryz.ntmps86
  go_wp2_with (go_at_call 116; refine HB.out.mono ?_; rintro e w' ⟨rfl, rfl⟩)
  go_ret2
  exact ⟨by first | rfl | (unfold nmV; exact ret_pair (int_eq (by simp)) rfl), rfl⟩

theorem ext_drop (s : ByteArray) (k : Nat) : (s.extract k s.size).data.toList = s.data.toList.drop k := by
 have : (s.data.toList).length = s.size := data_len s
 simp [ByteArray.data_extract, Array.toList_extract, List.extract]
 rw [List.take_of_length_le (by rw [List.length_drop, this]; exact Nat.le_refl _)]
theorem ext_mid (s : ByteArray) (a b : Nat) : (s.extract a b).data.toList = (s.data.toList.drop a).take (b - a) := by
 simp [ByteArray.data_extract, Array.toList_extract, List.extract]
theorem ext_size (s : ByteArray) {a b : Nat} (hb : b ≤ s.size) : (s.extract a b).size = b - a := by rw [ByteArray.size_extract]; omega

def numbA : List UInt8 → Option Int
 | [] => none
 | c :: r => if c = 45 then (decD 9223372036854775808 r).bind fun (n : Nat) => if n = 0 then none else some (-(n : Int)) else (decD 9223372036854775807 (c :: r)).map fun (n : Nat) => (n : Int)
set_option maxHeartbeats 800000 in
theorem number_any (s : ByteArray) (hs : s.size ≤ 1000000) {c : UInt8} {r : List UInt8} (hl : s.data.toList = c :: r) (hr : AllD r) (hc : c = 45 ∨ dgt c = true) (w : World) :
  Calls Tryz.prog 85 #[.string s] w fun e w' => e = .returned (nmV (numbA s.data.toList)) ∧ w' = w := by
 have h0 : 0 < s.size := by rw [← data_len s, hl]; simp
 have hc0 : s[0] = c := by
  have := data_at h0
  rw [hl] at this
  simp at this
  exact this.symm
 by_cases h45 : c = 45
 ·have hb := below_any (s.extract 1 s.size) (by rw [ext_size _ (Nat.le_refl _)]; omega) (by rw [ext_drop, hl]; exact hr) 9223372036854775808 (by omega) (by omega) w
  rw [ext_drop, hl] at hb
  simp only [List.drop_succ_cons, List.drop_zero] at hb
  have HV : Hid (numbA s.data.toList = (decD 9223372036854775808 r).bind fun (n : Nat) => if n = 0 then none else some (-(n : Int))) := by show _ = _; rw [hl, numbA, if_pos h45]
  subst h45
  have e45 : (45 : UInt8).toNat = 45 := rfl
  cases ho : decD 9223372036854775808 r with
  | none =>
   rw [ho] at hb HV
   have HB : Hid (Calls Tryz.prog 116 #[.string (s.extract 1 s.size), .int .i64 (-9223372036854775808)] w fun e w' => e = .returned (.tuple #[.int .i64 0, .bool false]) ∧ w' = w) := hb
   clear hb ho hr hl hc
   go_enter Tryz.func85, Tryz.ntmps85
   go_wp2_with (go_at_call 116; refine HB.out.mono ?_; rintro e w' ⟨rfl, rfl⟩)
   go_ret2
   exact ⟨by rw [HV.out]; rfl, rfl⟩
  | some m =>
   rw [ho] at hb HV
   have hml := numD_le ho
   have HB : Hid (Calls Tryz.prog 116 #[.string (s.extract 1 s.size), .int .i64 (-9223372036854775808)] w fun e w' => e = .returned (.tuple #[.int .i64 (-(m : Int)), .bool true]) ∧ w' = w) := hb.mono fun e w' hh => ⟨by rw [hh.1]; unfold numP; simp, hh.2⟩
   clear hb ho hr hl hc
   by_cases hz : m = 0
   ·subst hz
    have HB' : Hid (Calls Tryz.prog 116 #[.string (s.extract 1 s.size), .int .i64 (-9223372036854775808)] w fun e w' => e = .returned (.tuple #[.int .i64 0, .bool true]) ∧ w' = w) := HB
    go_enter Tryz.func85, Tryz.ntmps85
    go_wp2_with (go_at_call 116; refine HB'.out.mono ?_; rintro e w' ⟨rfl, rfl⟩)
    go_ret2
    exact ⟨by rw [HV.out]; rfl, rfl⟩
   ·have hne : ((-(m : Int)) != 0) = true := by rw [bne_iff_ne]; omega
    have HZ := Lib.hid hz
    clear hz
    go_enter Tryz.func85, Tryz.ntmps85
    go_wp2_with (go_at_call 116; refine HB.out.mono ?_; rintro e w' ⟨rfl, rfl⟩)
    go_ret2
    exact ⟨by rw [HV.out, Option.bind_some, if_neg HZ.out]; rfl, rfl⟩
 ·have hd : dgt c = true := hc.resolve_left h45
  have ha := above_any s hs (by rw [hl]; intro x hx; rcases List.mem_cons.1 hx with rfl | hx; exact hd; exact hr x hx) 9223372036854775807 (by omega) (by omega) w
  have HV : Hid (numbA s.data.toList = (decD 9223372036854775807 s.data.toList).map fun (n : Nat) => (n : Int)) := by show _ = _; rw [hl, numbA, if_neg h45]
  have hne : ((c.toNat : Int) == 45) = false := by
   rw [beq_eq_false_iff_ne]
   intro h
   exact h45 (UInt8.toNat_inj.1 (by have : (45 : UInt8).toNat = 45 := rfl; omega))
  rw [← HV.out] at ha
  have HA : Hid (Calls Tryz.prog 86 #[.string s, .int .i64 9223372036854775807] w fun e w' => e = .returned (nmV (numbA s.data.toList)) ∧ w' = w) := ha
  clear ha hd hl hr hc h45
  generalize numbA s.data.toList = o at *
  have HO : Hid (nmV o = .tuple #[.int .i64 (o.getD 0), .bool o.isSome]) := rfl
  generalize o.getD 0 = on at *
  generalize o.isSome = os at *
  rw [HO.out] at HA ⊢
  go_enter Tryz.func85, Tryz.ntmps85
  go_wp2_with (go_at_call 86; refine HA.out.mono ?_; rintro e w' ⟨rfl, rfl⟩)
  go_ret2
  exact ⟨rfl, rfl⟩
end Go.Proofs.YtmoglaknmlhpgaaGreatDoor
/- text of package lex: a quoted text. -/
namespace Go.Proofs.YtmoglaknmlhpgaaGreatDoor
set_option linter.unusedVariables false
open Go.RowKit

def txtR (l : List UInt8) : Option (List UInt8 × Nat) := (qtB l).bind fun p => if p.1.length ≤ 64 then some p else none
def textV (l : List UInt8) (a : Nat) : Value := match txtR (l.drop a) with
 | some (m, j) => .tuple #[.string ⟨m.toArray⟩, .int .i64 ((a + j : Nat) : Int), .bool true]
 | none => .tuple #[.string ⟨#[]⟩, .int .i64 0, .bool false]
theorem textV_none {l : List UInt8} {a : Nat} (h : txtR (l.drop a) = none) : textV l a = .tuple #[.string ⟨#[]⟩, .int .i64 0, .bool false] := by unfold textV; rw [h]
theorem textV_some {l : List UInt8} {a j : Nat} {m : List UInt8} (h : txtR (l.drop a) = some (m, j)) : textV l a = .tuple #[.string ⟨m.toArray⟩, .int .i64 ((a + j : Nat) : Int), .bool true] := by unfold textV; rw [h]

def QtTo (l : List UInt8) (a k : Nat) (m : List UInt8) : Prop := a ≤ k ∧ qtB (l.drop a) = (qtB (l.drop k)).map fun p => (m ++ p.1, (k - a) + p.2)
theorem QtTo.start (l : List UInt8) (a : Nat) : QtTo l a a [] := ⟨Nat.le_refl _, by simp⟩
theorem QtTo.step {l : List UInt8} {a k : Nat} {m r : List UInt8} {c x : UInt8} {j : Nat} (h : QtTo l a k m) (hd : l.drop k = c :: r) (hc : c ≠ 34) (ho : oneB (c :: r) = some (x, j)) : QtTo l a (k + j) (m ++ [x]) := by
 obtain ⟨h1, h2⟩ := h
 refine ⟨by omega, ?_⟩
 rw [h2, hd, qtB_one hc ho, ← hd, List.drop_drop, Option.map_map]
 congr 1
 funext p
 simp [Function.comp]
 omega
theorem QtTo.bad {l : List UInt8} {a k : Nat} {m r : List UInt8} {c : UInt8} (h : QtTo l a k m) (hd : l.drop k = c :: r) (hc : c ≠ 34) (ho : oneB (c :: r) = none) : txtR (l.drop a) = none := by
 unfold txtR; rw [h.2, hd, qtB_bad hc ho]; rfl
theorem QtTo.end {l : List UInt8} {a k : Nat} {m : List UInt8} (h : QtTo l a k m) (hk : l.length ≤ k) : txtR (l.drop a) = none := by
 unfold txtR; rw [h.2, List.drop_of_length_le hk, qtB_nil]; rfl
theorem QtTo.quote {l : List UInt8} {a k : Nat} {m r : List UInt8} (h : QtTo l a k m) (hd : l.drop k = 34 :: r) : txtR (l.drop a) = if m.length ≤ 64 then some (m, k - a + 1) else none := by
 unfold txtR; rw [h.2, hd, qtB_end]; simp

def TRel (w : World) (l : List UInt8) (a n : Nat) (i o : Value) (wr : World) : Prop :=
 ∃ (k j c : Nat) (A : Option Addr) (m : List UInt8), k ≤ n ∧ i = .int .i64 (k : Int) ∧ o = .slice A j c ∧ wr.ownsRow w.heap.size 5 1 (.slice A j c) j (bv m) ∧ Below w.heap.size w wr ∧ QtTo l a k m ∧ m.length ≤ k

theorem drop_at {l : List UInt8} {k : Nat} {c : UInt8} (h : l[k]? = some c) : l.drop k = c :: l.drop (k + 1) := by
 obtain ⟨hk, e⟩ := List.getElem?_eq_some_iff.1 h
 rw [List.drop_eq_getElem_cons hk, e]

set_option maxHeartbeats 1600000 in
theorem ltext_any (s : ByteArray) (hs : s.size ≤ 100000) (a : Nat) (ha : a ≤ s.size) (w : World) :
  Calls Tryz.prog 87 #[.string s, .int .i64 (a : Int)] w fun e w' => e = .returned (textV s.data.toList a) ∧ Below w.heap.size w w' := by
 have hl := data_len s
 have hone : ∀ k w, k < s.size → Calls Tryz.prog 117 #[.string (s.extract k s.size)] w fun e w' => e = .returned (oneV (s.data.toList.drop k)) ∧ w' = w := fun k w hk => by
  have := one_any (s.extract k s.size) (by rw [ext_size _ (Nat.le_refl _)]; unfold maxLen; omega) (by rw [ext_size _ (Nat.le_refl _)]; omega) w
  rwa [ext_drop] at this
 generalize hL : s.data.toList = l at *
 have HONE := Lib.hid hone
 have HD : Hid (∀ k (h : k < s.size), l[k]? = some s[k]) := by
  show ∀ k (h : k < s.size), l[k]? = some s[k]
  subst hL; exact fun k h => data_at h
 have HL := Lib.hid hl
 clear hl hone hL
 have hstart : TRel w l a s.size (.int .i64 (a : Int)) (.slice none 0 0) w := ⟨a, 0, 0, none, [], ha, rfl, rfl, ⟨rfl, .inl ⟨rfl, rfl⟩⟩, Below.refl _ _, QtTo.start _ _, by simp⟩
 have HS := Lib.hid hstart
 clear hstart
 obtain ⟨i, hi, hz0, hz1, hz2⟩ := info_parts u8info
 have HI := Lib.hid (And.intro hi (And.intro hz0 (And.intro hz1 hz2)))
 clear hi hz0 hz1 hz2
 go_enter Tryz.func87, Tryz.ntmps87
 go_wp2_with fail
 go_loopw [1, 7] (fun i o wr => TRel w l a s.size i o wr) (fun i _ _ => s.size - (intOf i).toNat)
 case atStart => exact HS.out
 case round =>
  obtain ⟨k, j, c, A, m, hk, rfl, rfl, hown, hbel, hq, hmk⟩ := hrel
  have HQ := Lib.hid hq
  have HB := Lib.hid hbel
  have hj : m.length = j := by have := hown.1; simpa [bv_len] using this
  have HJ := Lib.hid hj
  clear hq hj
  by_cases hlt : k < s.size
  ·have hki : 0 ≤ (k : Int) ∧ (k : Int) < s.size := by omega
   have hc := HD.out k hlt
   generalize hcc : s[k] = b at *
   have HC := Lib.hid (drop_at hc)
   clear hc
   have hb8 : b.toNat < 256 := b.toNat_lt
   by_cases h34 : b = 34
   ·subst h34
    by_cases h64 : m.length ≤ 64
    ·have HV : Hid (textV l a = .tuple #[.string ⟨m.toArray⟩, .int .i64 ((a + (k - a + 1) : Nat) : Int), .bool true]) := by show _ = _; exact textV_some (by rw [HQ.out.quote HC.out, if_pos h64])
     have hcv := conv_text Tryz.underlying95 Tryz.underlying5 Tryz.underlying9 (Sl.of_own hown)
     have hak : ((a + (k - a + 1) : Nat) : Int) = (k : Int) + 1 := by have := HQ.out.1; omega
     have HAK := Lib.hid hak
     have hkn : ((k : Int) == (s.size : Int)) = false := by rw [beq_eq_false_iff_ne]; omega
     have hj64 : ¬ (64 : Int) < (j : Int) := by have := HJ.out; omega
     clear hown hbel hak h64 hmk
     go_wp2_with fail
     go_ret3
     exact ⟨by rw [HV.out, HAK.out]; rfl, HB.out⟩
    ·have HV : Hid (textV l a = .tuple #[.string ⟨#[]⟩, .int .i64 0, .bool false]) := by show _ = _; exact textV_none (by rw [HQ.out.quote HC.out, if_neg h64])
     have hkn : ((k : Int) == (s.size : Int)) = false := by rw [beq_eq_false_iff_ne]; omega
     have hj64 : (64 : Int) < (j : Int) := by have := HJ.out; omega
     clear hown hbel h64 hmk
     go_wp2_with fail
     go_ret3
     exact ⟨by rw [HV.out]; rfl, HB.out⟩
   ·have hb34 : ((b.toNat : Int) != 34) = true := by
     rw [bne_iff_ne]
     intro h
     exact h34 (UInt8.toNat_inj.1 (by have : (34 : UInt8).toNat = 34 := rfl; omega))
    have ho := HONE.out k wr hlt
    rw [HC.out] at ho
    cases hone : oneB (b :: l.drop (k + 1)) with
    | none =>
     rw [oneV_none hone] at ho
     have HO := Lib.hid ho
     have HV : Hid (textV l a = .tuple #[.string ⟨#[]⟩, .int .i64 0, .bool false]) := by show _ = _; exact textV_none (HQ.out.bad HC.out h34 hone)
     clear hown hbel hmk ho hone h34
     go_wp2_with (go_at_call 117; refine HO.out.mono ?_; rintro e w' ⟨rfl, rfl⟩)
     go_ret3
     exact ⟨by rw [HV.out]; rfl, HB.out⟩
    | some xk =>
     obtain ⟨x, q⟩ := xk
     rw [oneV_some hone] at ho
     have HO := Lib.hid ho
     have hqp := oneB_pos hone
     have hqn : 1 ≤ q ∧ k + q ≤ s.size := by
      have := hqp.2
      rw [← HC.out, List.length_drop, HL.out] at this
      omega
     have hq0 : ((q : Int) == 0) = false := by rw [beq_eq_false_iff_ne]; omega
     obtain ⟨A2, c2, w2, hap, hown2, hbel2⟩ := append_one (P := Tryz.prog) (ty := 95) Tryz.underlying95 HI.out.1 HI.out.2.1 HI.out.2.2.1 HI.out.2.2.2 hown (by have := HJ.out; omega) hbel.size (x.toNat : Int)
     have hown3 : w2.ownsRow w.heap.size 5 1 (.slice A2 (j + 1) c2) (j + 1) (bv (m ++ [x])) := by rw [bv_app]; exact hown2
     have HO2 := Lib.hid hown3
     have HB2 := Lib.hid (hbel.trans hbel2)
     have HAP := Lib.hid hap
     have HQ2 := Lib.hid (HQ.out.step HC.out h34 hone)
     clear hown hbel ho hone h34 hqp hap hown2 hbel2 hown3
     go_wp2_with (first | (go_at_call 117; refine HO.out.mono ?_; rintro e w' ⟨rfl, rfl⟩) | (at_builtin; refine wpList_append_run rfl _ _ _ _ rfl rfl rfl HAP.out ?_))
     go_roundw
     case rel => exact ⟨k + q, j + 1, c2, A2, m ++ [x], hqn.2, by go_num, rfl, HO2.out, HB2.out, HQ2.out, by rw [List.length_append]; simp; omega⟩
     case measure => simp [intOf]; omega
  ·obtain rfl : k = s.size := by omega
   have HV : Hid (textV l a = .tuple #[.string ⟨#[]⟩, .int .i64 0, .bool false]) := by show _ = _; exact textV_none (HQ.out.end (by rw [HL.out]; exact Nat.le_refl _))
   clear hown hbel
   go_wp2_with fail
   go_ret3
   exact ⟨by rw [HV.out]; rfl, HB.out⟩
end Go.Proofs.YtmoglaknmlhpgaaGreatDoor
/- Tokens as Go has them: in a block of its own, and rows of them; append. -/
namespace Go.Proofs.YtmoglaknmlhpgaaGreatDoor
set_option linter.unusedVariables false
open Go.RowKit

def Tk.val (t : Tk) : Value := .agg #[.int .i64 t.k, .int .i64 t.p, .int .i64 t.n, .string t.s]
def Tb (w : World) (g : Nat) (k p n : Int) (s : ByteArray) : Prop := Ob w g 150 #[.int .i64 k, .int .i64 p, .int .i64 n, .string s]
section
variable {w w' : World} {g : Nat} {k p n : Int} {s : ByteArray}
theorem Tb.made (w : World) (k p n : Int) (s : ByteArray) : Tb (w.alloc (.cells #[.int .i64 k, .int .i64 p, .int .i64 n, .string s] 150)) w.heap.size k p n s := Ob.made _ _ _
theorem Tb.lt (h : Tb w g k p n s) : g < w.heap.size := Ob.lt h
theorem Tb.alloc (h : Tb w g k p n s) (o : Obj) : Tb (w.alloc o) g k p n s := Ob.keep h (Below.heap_alloc w o g h.lt)
theorem Tb.then_ (h : Tb w g k p n s) (hb : Below w.heap.size w w') : Tb w' g k p n s := Ob.below h hb h.lt
theorem Tb.below {B : Nat} (h : Tb w g k p n s) (hb : Below B w w') (hg : g < B) : Tb w' g k p n s := Ob.below h hb hg
theorem Tb.only {r : Nat} (h : Tb w g k p n s) (ho : Only r w w') (hg : g ≠ r) : Tb w' g k p n s := Ob.keep h (ho.heap h.lt hg)
theorem Tb.drewN (h : Tb w g k p n s) (j : Nat) : Tb (w.drewN j) g k p n s := h
theorem Tb.c4 (h : Tb w g k p n s) : w.cell? ⟨g, 0, none⟩ = some (.int .i64 k) ∧ w.cell? ⟨g, 1, none⟩ = some (.int .i64 p) ∧ w.cell? ⟨g, 2, none⟩ = some (.int .i64 n) ∧ w.cell? ⟨g, 3, none⟩ = some (.string s) := ⟨Ob.cell h 0, Ob.cell h 1, Ob.cell h 2, Ob.cell h 3⟩
theorem Tb.fz (h : Tb w g k p n s) (i : Nat) : w.frozen? ⟨g, i, none⟩ = false := Ob.frozen h i
theorem Tb.setK (h : Tb w g k p n s) (k' : Int) : Tb (w.setCell ⟨g, 0, none⟩ (.int .i64 k')) g k' p n s := by unfold Tb; simpa using Ob.put h 0 (.int .i64 k')
theorem Tb.setN (h : Tb w g k p n s) (n' : Int) : Tb (w.setCell ⟨g, 2, none⟩ (.int .i64 n')) g k p n' s := by unfold Tb; simpa using Ob.put h 2 (.int .i64 n')
theorem Tb.setS (h : Tb w g k p n s) (s' : ByteArray) : Tb (w.setCell ⟨g, 3, none⟩ (.string s')) g k p n s' := by unfold Tb; simpa using Ob.put h 3 (.string s')
theorem Tb.put (h : Tb w g k p n s) (k' p' n' : Int) (s' : ByteArray) : Tb ((((w.setCell ⟨g, 0, none⟩ (.int .i64 k')).setCell ⟨g, 1, none⟩ (.int .i64 p')).setCell ⟨g, 2, none⟩ (.int .i64 n')).setCell ⟨g, 3, none⟩ (.string s')) g k' p' n' s' := by
 unfold Tb
 simpa using (((Ob.put h 0 (.int .i64 k')).put 1 (.int .i64 p')).put 2 (.int .i64 n')).put 3 (.string s')
end
def cells4 : List Tk → List Value
 | [] => []
 | t :: r => .int .i64 t.k :: .int .i64 t.p :: .int .i64 t.n :: .string t.s :: cells4 r
theorem cells4_len (l : List Tk) : (cells4 l).length = l.length * 4 := by
 induction l with
 | nil => rfl
 | cons v r ih => simp [cells4, ih]; omega
theorem cells4_app (l m : List Tk) : cells4 (l ++ m) = cells4 l ++ cells4 m := by
 induction l with
 | nil => rfl
 | cons v r ih => simp [cells4, ih]
theorem cells4_one {l : List Tk} : ∀ v ∈ cells4 l, v.oneCell' = true := by
 induction l with
 | nil => intro v hv; cases hv
 | cons x r ih =>
  intro v hv
  simp only [cells4, List.mem_cons] at hv
  rcases hv with rfl | rfl | rfl | rfl | hv
  ·rfl
  ·rfl
  ·rfl
  ·rfl
  ·exact ih v hv
theorem cells4_at {l : List Tk} {j : Nat} {v : Tk} (h : l[j]? = some v) : (cells4 l)[j * 4]? = some (.int .i64 v.k) ∧ (cells4 l)[j * 4 + 1]? = some (.int .i64 v.p) ∧ (cells4 l)[j * 4 + 2]? = some (.int .i64 v.n) ∧ (cells4 l)[j * 4 + 3]? = some (.string v.s) := by
 induction l generalizing j with
 | nil => simp at h
 | cons x r ih =>
  cases j with
  | zero => simp at h; subst h; exact ⟨rfl, rfl, rfl, rfl⟩
  | succ j =>
   simp at h
   obtain ⟨a, b, c, d⟩ := ih h
   have e : (j + 1) * 4 = j * 4 + 1 + 1 + 1 + 1 := by omega
   rw [e]
   exact ⟨by simpa [cells4] using a, by simpa [cells4] using b, by simpa [cells4] using c, by simpa [cells4] using d⟩

def Ts (w : World) (B : Nat) (A : Option Addr) (n c : Nat) (l : List Tk) : Prop :=
 l.length = n ∧ n ≤ c ∧ c ≤ maxLen ∧ (n = 0 ∨ ∃ b o, A = some ⟨b, o, none⟩ ∧ b < B ∧ ∀ j v, l[j]? = some v → w.cell? ⟨b, o + j * 4, none⟩ = some (.int .i64 v.k) ∧ w.cell? ⟨b, o + j * 4 + 1, none⟩ = some (.int .i64 v.p) ∧ w.cell? ⟨b, o + j * 4 + 2, none⟩ = some (.int .i64 v.n) ∧ w.cell? ⟨b, o + j * 4 + 3, none⟩ = some (.string v.s))
section
variable {w w' : World} {B B' n c : Nat} {A : Option Addr} {l : List Tk}
theorem Ts.keep (h : Ts w B A n c l) (hk : ∀ k, k < B → w'.heap[k]? = w.heap[k]?) : Ts w' B A n c l := by
 obtain ⟨h1, h2, h3, h4⟩ := h
 refine ⟨h1, h2, h3, ?_⟩
 rcases h4 with h4 | ⟨b, o, e, hb, hc⟩
 ·exact .inl h4
 ·refine .inr ⟨b, o, e, hb, fun j v hv => ?_⟩
  obtain ⟨a1, a2, a3, a4⟩ := hc j v hv
  exact ⟨(World.cell?_of_block (hk b hb)).trans a1, (World.cell?_of_block (hk b hb)).trans a2, (World.cell?_of_block (hk b hb)).trans a3, (World.cell?_of_block (hk b hb)).trans a4⟩
theorem Ts.below (h : Ts w B A n c l) (hb : Below B w w') : Ts w' B A n c l := h.keep hb.block
theorem Ts.more (h : Ts w B A n c l) (hB : B ≤ B') : Ts w B' A n c l := by
 obtain ⟨h1, h2, h3, h4⟩ := h
 refine ⟨h1, h2, h3, ?_⟩
 rcases h4 with h4 | ⟨b, o, e, hb, hc⟩
 ·exact .inl h4
 ·exact .inr ⟨b, o, e, by omega, hc⟩
theorem Ts.then_ (h : Ts w w.heap.size A n c l) (hb : Below w.heap.size w w') : Ts w' w'.heap.size A n c l := (h.below hb).more hb.size
theorem Ts.at_ (h : Ts w B A n c l) {k : Nat} (hk : k < n) : ∃ b o v, A = some ⟨b, o, none⟩ ∧ b < B ∧ l[k]? = some v ∧ w.cell? ⟨b, o + k * 4, none⟩ = some (.int .i64 v.k) ∧ w.cell? ⟨b, o + k * 4 + 1, none⟩ = some (.int .i64 v.p) ∧ w.cell? ⟨b, o + k * 4 + 2, none⟩ = some (.int .i64 v.n) ∧ w.cell? ⟨b, o + k * 4 + 3, none⟩ = some (.string v.s) := by
 obtain ⟨h1, h2, h3, h4⟩ := h
 rcases h4 with h4 | ⟨b, o, e, hb, hc⟩
 ·omega
 ·have hl : k < l.length := by omega
  exact ⟨b, o, l[k], e, hb, List.getElem?_eq_getElem hl, hc k _ (List.getElem?_eq_getElem hl)⟩
theorem Ts.nil_ (w : World) (B : Nat) : Ts w B none 0 0 [] := ⟨rfl, Nat.le_refl _, by simp [maxLen], .inl rfl⟩
end

theorem tokinfo : (Tryz.prog.info? 150).map (fun i => (i.zero, i.size, i.bytes)) = some (some (.agg #[.int .i64 0, .int .i64 0, .int .i64 0, .string ⟨#[]⟩]), 4, 40) := by kernel_rfl
theorem tok_parts : ∃ i, Tryz.prog.info? 150 = some i ∧ i.zero = some (.agg #[.int .i64 0, .int .i64 0, .int .i64 0, .string ⟨#[]⟩]) ∧ i.size = 4 ∧ i.bytes = 40 := by
 have h := tokinfo
 cases hi : Tryz.prog.info? 150 with
 | none => rw [hi] at h; cases h
 | some i =>
  rw [hi] at h
  simp only [Option.map_some, Option.some.injEq, Prod.mk.injEq] at h
  exact ⟨i, rfl, h.1, h.2.1, h.2.2⟩

theorem Ts.of_own {w : World} {base n c : Nat} {A : Option Addr} {l : List Tk} (h : w.ownsRow base 150 4 (.slice A n c) n (cells4 l)) : Ts w w.heap.size A n c l := by
 have hl : l.length = n := by have := h.1; rw [cells4_len] at this; omega
 rcases h.2 with ⟨hv, hn⟩ | ⟨g, cap, cur, hv, hb, hg, hnc, hcm, hcs, ht⟩
 ·injection hv with h1 h2 h3
  subst h1 h2 h3
  exact ⟨hl, Nat.le_refl _, by simp [maxLen], .inl rfl⟩
 ·injection hv with h1 h2 h3
  subst h1 h3
  refine ⟨hl, hnc, hcm, .inr ⟨g, 0, rfl, ?_, fun j v hv => ?_⟩⟩
  ·rcases Nat.lt_or_ge g w.heap.size with hlt | hge
   ·exact hlt
   ·rw [Array.getElem?_eq_none hge] at hg; cases hg
  ·have add : ∀ j : Nat, (⟨g, 0, none⟩ : Addr).add j = ⟨g, 0 + j, none⟩ := fun j => by by_cases hj : j = 0 <;> simp [Addr.add, hj]
   obtain ⟨a, b, c, d⟩ := cells4_at hv
   have h1 := h.cells (g := g) rfl (j * 4) _ a
   have h2 := h.cells (g := g) rfl (j * 4 + 1) _ b
   have h3 := h.cells (g := g) rfl (j * 4 + 2) _ c
   have h4 := h.cells (g := g) rfl (j * 4 + 3) _ d
   rw [add] at h1 h2 h3 h4
   exact ⟨h1, h2, h3, h4⟩

theorem append_tok {w : World} {base n c ty : Nat} {A : Option Addr} {xs : List Tk} (h : w.ownsRow base 150 4 (.slice A n c) n (cells4 xs)) (t : Tk) (hn : n ≤ 1000000) (hbase : base ≤ w.heap.size) :
  ∃ A' c' w', (Builtin.append_ #[125, 125] ty #[.slice A n c, .slice (some ⟨w.heap.size, 0, none⟩) 1 1]).run Tryz.prog (w.alloc (.cells #[.int .i64 t.k, .int .i64 t.p, .int .i64 t.n, .string t.s] 150)) = .ok (.slice A' (n + 1) c') w' ∧
   w'.ownsRow base 150 4 (.slice A' (n + 1) c') (n + 1) (cells4 (xs ++ [t])) ∧ Below base w w' := by
 obtain ⟨i, hi, hz, hs, hb⟩ := tok_parts
 have add : ∀ j : Nat, (⟨w.heap.size, 0, none⟩ : Addr).add j = ⟨w.heap.size, 0 + j, none⟩ := fun j => by by_cases hj : j = 0 <;> simp [Addr.add, hj]
 obtain ⟨v', w', hrun, h2, h3, h4⟩ := run_append_own (P := Tryz.prog) (w.alloc (.cells #[.int .i64 t.k, .int .i64 t.p, .int .i64 t.n, .string t.s] 150)) base 125 ty 150 i _ 4 40 Tryz.underlying125 hi hz hs hb rfl (by omega) (.slice A n c) n (cells4 xs) (h.alloc _)
  ⟨w.heap.size, 0, none⟩ 1 1 (cells4 [t]) (by rw [cells4_len]; rfl) (by
   intro j u hu
   rw [add, Nat.zero_add, (Ob.made w 150 #[.int .i64 t.k, .int .i64 t.p, .int .i64 t.n, .string t.s]).cell j]
   simpa [cells4] using hu) cells4_one (by unfold maxLen; omega) (by omega) (by rw [size_al]; omega)
 have hform : ∃ A' c', v' = .slice A' (n + 1) c' := by
  rcases h2.2 with ⟨hv, hz⟩ | ⟨g, cap, cur, hv, _⟩
  ·omega
  ·exact ⟨_, _, hv⟩
 obtain ⟨A', c', rfl⟩ := hform
 refine ⟨A', c', w', hrun, by rw [cells4_app]; exact h2, ?_⟩
 refine ((Below.refl base w).alloc hbase _).grown h3 (by rw [size_al]; omega) (fun k hk => ?_)
 exact (h.lt k hk).1
theorem own_tok {w w' : World} {base size n : Nat} {e : TypeId} {v : Value} {xs : List Value} (h : w.ownsRow base e size v n xs) (hb : Below w.heap.size w w') : w'.ownsRow base e size v n xs :=
 h.kept (row := none) ⟨hb.os, hb.tape, hb.output, hb.size, fun k hk _ => hb.block k hk⟩ (by by_cases hv : v.ownBlock = none; exact .inl hv; exact .inr hv)
theorem own_only {w w' : World} {base size n r : Nat} {e : TypeId} {v : Value} {xs : List Value} (h : w.ownsRow base e size v n xs) (hb : Only r w w') (hr : r < base) : w'.ownsRow base e size v n xs :=
 h.kept (row := some r) hb (.inr fun hh => by have := (h.lt r hh).1; omega)
end Go.Proofs.YtmoglaknmlhpgaaGreatDoor
/- A scope in which the run jumps to labels: what holds at each label's jump, and a measure that every pass lowers. -/
namespace Go.Proofs.YtmoglaknmlhpgaaGreatDoor
set_option linter.unusedVariables false

def exitsTo (J : Nat → Act → World → Prop) (Q : Exit → Act → World → Prop) : Exit → Act → World → Prop
 | .goto l, a, w => J l a w
 | e, a, w => Q e a w

section
variable {P : Program} {a : Act} {w : World} {J J' : Nat → Act → World → Prop} {Q : Exit → Act → World → Prop}
theorem exitsTo_ret : exitsTo J Q .ret a w = Q .ret a w := rfl
theorem wp_scope_labels {c : Code} (J : Nat → Act → World → Prop) (μ : Nat → Act → World → Nat) (hf : ∀ l a w, J l a w → ∃ R, findLabel c l = some R ∧ R.wp P (exitsTo (fun l' a' w' => J l' a' w' ∧ μ l' a' w' < μ l a w) Q) a w)
  (first : c.wp P (exitsTo J Q) a w) : (Code.scope c).wp P Q a w := by
 intro b k cs
 have key : ∀ n l a w, μ l a w = n → J l a w → ∃ R, findLabel c l = some R ∧ ∃ e a' w', Q e a' w' ∧ Arrives P (lone (b.at a (.code R :: .inScope c :: k)) cs w) b k cs e a' w' := by
  intro n
  induction n using Nat.strongRecOn with
  | _ n ih =>
   intro l a w hn hJ
   obtain ⟨R, hR, pass⟩ := hf l a w hJ
   obtain ⟨e, a₁, w₁, hq, harr⟩ := pass b (.inScope c :: k) cs
   refine ⟨R, hR, ?_⟩
   cases e with
   | normal => exact ⟨.normal, a₁, w₁, hq, Steps.trans harr (.one step_inScope)⟩
   | exit id => exact ⟨.exit id, a₁, w₁, hq, fun k' hk => harr k' (by simp [exitTo, hk])⟩
   | goto l' =>
    obtain ⟨hJ', hlt⟩ := hq
    obtain ⟨R', hR', e₂, a₂, w₂, hq₂, harr₂⟩ := ih _ (by omega) l' a₁ w₁ rfl hJ'
    have hg : gotoIn l' (.inScope c :: k) = some (.code R' :: .inScope c :: k) := by simp [gotoIn, hR']
    exact ⟨e₂, a₂, w₂, hq₂, .of_steps (harr _ hg) harr₂⟩
   | ret => exact ⟨_, a₁, w₁, hq, harr⟩
   | panic ch => exact ⟨_, a₁, w₁, hq, harr⟩
   | outgrown => exact ⟨_, a₁, w₁, hq, harr⟩
 obtain ⟨e, a₁, w₁, hq, harr⟩ := first b (.inScope c :: k) cs
 cases e with
 | normal => exact ⟨.normal, a₁, w₁, hq, .head step_scope (Steps.trans harr (.one step_inScope))⟩
 | exit id => exact ⟨.exit id, a₁, w₁, hq, fun k' hk => .head step_scope (harr k' (by simp [exitTo, hk]))⟩
 | goto l' =>
  obtain ⟨R', hR', e₂, a₂, w₂, hq₂, harr₂⟩ := key _ l' a₁ w₁ rfl hq
  have hg : gotoIn l' (.inScope c :: k) = some (.code R' :: .inScope c :: k) := by simp [gotoIn, hR']
  exact ⟨e₂, a₂, w₂, hq₂, .of_steps (.head step_scope (harr _ hg)) harr₂⟩
 | ret => exact ⟨_, a₁, w₁, hq, .of_steps (.one step_scope) harr⟩
 | panic ch => exact ⟨_, a₁, w₁, hq, .of_steps (.one step_scope) harr⟩
 | outgrown => exact ⟨_, a₁, w₁, hq, .of_steps (.one step_scope) harr⟩
end
end Go.Proofs.YtmoglaknmlhpgaaGreatDoor
