/- Several texts in one: PolExpr, PolEach, PolWalk, PolOr. -/
import Derived.Test.YtmoglaknmlhpgaaGreatDoorOnlC
import Derived.Test.YtmoglaknmlhpgaaGreatDoorOnlA
import Derived.Maps.OwnOps
import Derived.Maps.Views
/- Expressions: the project's. -/
namespace Go.Proofs.YtmoglaknmlhpgaaGreatDoor
set_option linter.unusedVariables false
open Go.RowKit

theorem runX_app : ∀ (l m : List Nod) (st : List Bool), runX (l ++ m) st = (match runX l st with | some st' => runX m st' | none => none)
 | [], m, st => rfl
 | x :: l, m, st => by
  simp only [List.cons_append, runX]
  cases stepX x st with
  | none => rfl
  | some st' => exact runX_app l m st'
def RunTo (l : List Nod) (k : Nat) (st : List Bool) : Prop := runX (l.take k) [] = some st
theorem RunTo.zero (l : List Nod) : RunTo l 0 [] := rfl
theorem take_next {α : Type} {l : List α} {k : Nat} {x : α} (h : l[k]? = some x) : l.take (k + 1) = l.take k ++ [x] := by
 obtain ⟨hk, rfl⟩ := List.getElem?_eq_some_iff.1 h
 exact List.take_succ_eq_append_getElem hk
theorem RunTo.step {l : List Nod} {k : Nat} {st st' : List Bool} {x : Nod} (h : RunTo l k st) (hx : l[k]? = some x) (hs : stepX x st = some st') : RunTo l (k + 1) st' := by
 unfold RunTo at h ⊢
 rw [take_next hx, runX_app, h]
 simp only [runX, hs]
theorem RunTo.err {l : List Nod} {k : Nat} {st : List Bool} {x : Nod} (h : RunTo l k st) (hx : l[k]? = some x) (hs : stepX x st = none) : runX l [] = none := by
 rw [← List.take_append_drop (k + 1) l, runX_app, take_next hx, runX_app, h]
 simp only [runX, hs]
theorem RunTo.all {l : List Nod} {n : Nat} {st : List Bool} (h : RunTo l n st) (hn : l.length = n) : runX l [] = some st := by
 unfold RunTo at h
 rwa [List.take_of_length_le (by omega)] at h
theorem expr_err {l : List Nod} (hl : l.length ≤ 32) (h : runX l [] = none) : exprE l = 1 := by
 unfold exprE
 rw [if_neg (by omega), h]
theorem expr_end {l : List Nod} {st : List Bool} (hl : l.length ≤ 32) (h : runX l [] = some st) : exprE l = if l = [] ∨ st = [false] then 0 else 1 := by
 unfold exprE
 rw [if_neg (by omega), h]

set_option maxHeartbeats 1600000 in
theorem expr_any {R : Nat → Prop} {A : Option Addr} {n c : Nat} {l : List Nod} (w : World) (h : Nds w R A n c l) :
  Calls Tryz.prog 78 #[.slice A n c] w fun e w' => e = .returned (.int .i64 (exprE l)) ∧ Below w.heap.size w w' := by
 have hle := Rw.le h
 have hcap := Rw.cap h
 have HL := Lib.hid (Rw.len h)
 unfold maxLen at hcap
 have H := Lib.hid h
 clear h
 by_cases h32 : 32 < n
 ·have HE : Hid (exprE l = 6) := by
   show exprE l = _
   unfold exprE
   rw [HL.out, if_pos h32]
  have hb : (32 : Int) < (n : Int) := by omega
  go_enter Tryz.func78, Tryz.ntmps78
  go_wp2_with fail
  go_ret
  exact ⟨ret_int HE.out.symm, Below.refl _ _⟩
 have hb : ¬ (32 : Int) < (n : Int) := by omega
 go_enter Tryz.func78, Tryz.ntmps78
 go_wp2
 go_loopw [3, 15] (fun s i wr => ∃ (k : Nat) (st : List Bool), k ≤ n ∧ i = .int .i64 k ∧ s = .string (lf st) ∧ st.length ≤ k ∧ RunTo l k st ∧ Below w.heap.size w wr) (fun _ i _ => n - (intOf i).toNat)
 case atStart => exact ⟨0, [], Nat.zero_le _, rfl, rfl, Nat.le_refl _, RunTo.zero _, Below.refl _ _⟩
 case round =>
  obtain ⟨k, st, hk, rfl, rfl, hst, hf, hb⟩ := hrel
  have HF := Lib.hid hf
  have HB := Lib.hid hb
  clear hf hb
  by_cases hlt : k < n
  ·obtain ⟨b, o, x, rfl, hRb, hbl, hx, hok, c0, c1, c2, c3, c4, c5, c6⟩ := (H.out.keep (Kept.all HB.out R) (fun _ h _ => h)).at_ hlt
   have HX := Lib.hid hx
   have hsh := fun W => shape_any x.op W
   have hho := fun W => holds_any x hok W
   have HS : Hid (stepX x st = if holdsB x = true then popX x.op st else none) := rfl
   rw [popX_pat] at HS
   obtain ⟨op, ⟨kx, nx, sx⟩, ⟨cx, mx, ux⟩⟩ := x
   simp only at c0 c1 c2 c3 c4 c5 c6 hsh hho HS
   have HHO := Lib.hid hho
   have hl32 := HL.out
   have hst' : st.length ≤ 1000 := by omega
   have HK := Lib.hid hst
   clear hok hho hx hst
   unfold ofT makesT at hsh
   cases hpat : patX op with
   | none =>
    rw [hpat] at hsh HS
    have hcut := fun W => cut_any st [] hst' (by simp) W
    simp only [Option.getD_none, hasP, List.take_zero, List.length_nil, decide_true, if_true, List.drop_zero, lf_nil] at hsh hcut
    have HSH := Lib.hid hsh
    have HCUT := Lib.hid hcut
    have HERR : Hid (exprE l = 1) := expr_err (by omega) (HF.out.err HX.out (by rw [HS.out]; simp))
    clear hsh hcut hpat HS hl32 hst'
    generalize lf st = ls at *
    go_wp2_with (first
     | (go_at_call 113; refine (HSH.out _).mono ?_; rintro e w1 ⟨rfl, rfl⟩)
     | (go_at_call 114; refine (HCUT.out _).mono ?_; rintro e w2 ⟨rfl, rfl⟩))
    go_ret
    exact ⟨ret_int HERR.out.symm, HB.out.alloc HB.out.size _⟩
   | some p =>
    rw [hpat] at hsh HS
    have hcut := fun W => cut_any st p hst' (by have := patX_len hpat; omega) W
    simp only [Option.getD_some] at hsh hcut HS
    by_cases hpp : hasP p st = true
    ·simp only [hpp, if_true] at hcut HS
     obtain ⟨d, hd⟩ : ∃ d, d = st.drop p.length := ⟨_, rfl⟩
     have hdl : d.length ≤ st.length := by rw [hd, List.length_drop]; omega
     rw [← hd] at hcut HS
     obtain ⟨hb, hhb⟩ : ∃ hb, hb = holdsB ⟨op, ⟨kx, nx, sx⟩, ⟨cx, mx, ux⟩⟩ := ⟨_, rfl⟩
     rw [← hhb] at HHO HS
     have hpush := lf_push d (makesX op)
     have hds := lf_size d
     have HSH := Lib.hid hsh
     have HCUT := Lib.hid hcut
     have hx1 : (9223372036854775807 < (lf d).size + 1) = False := eq_false (by have := HK.out; omega)
     have HD : Hid ((makesX op :: d).length ≤ k + 1) := by
      show (makesX op :: d).length ≤ k + 1
      have := HK.out
      rw [List.length_cons]
      omega
     clear hsh hcut hpat hl32 hst' hpp hd hdl hhb hds
     obtain ⟨mb, hmb⟩ : ∃ mb, mb = makesX op := ⟨_, rfl⟩
     rw [← hmb] at HSH hpush HS HD
     have HP := Lib.hid hpush
     clear hmb hpush
     generalize hls : lf st = ls at *
     generalize hlp : lf p = lp at *
     have HTX := Lib.hid (rfl : lf d = lf d)
     generalize htx : lf d = tx at *
     have HTX := Lib.hid htx
     clear hls hlp htx
     cases hb
     ·have HERR : Hid (exprE l = 1) := expr_err (by have := HL.out; omega) (HF.out.err HX.out (by rw [HS.out]; simp))
      clear HS
      cases mb
      all_goals
       simp only [show lf [false] = (⟨#[118]⟩ : ByteArray) from rfl, show lf [true] = (⟨#[98]⟩ : ByteArray) from rfl] at HSH
       go_wp2_with (first
        | (go_at_call 113; refine (HSH.out _).mono ?_; rintro e w1 ⟨rfl, rfl⟩)
        | (go_at_call 114; refine (HCUT.out _).mono ?_; rintro e w2 ⟨rfl, rfl⟩)
        | (go_at_call 115; refine (HHO.out _).mono ?_; rintro e w3 ⟨rfl, hb3⟩; have B3 := Lib.hid (Below.lit hb3)))
       go_ret
       exact ⟨ret_int HERR.out.symm, below_step HB.out B3.out⟩
     ·have HNEXT : Hid (RunTo l (k + 1) (mb :: d)) := HF.out.step HX.out (by rw [HS.out]; simp)
      clear HS
      cases mb
      all_goals
       simp only [show lf [false] = (⟨#[118]⟩ : ByteArray) from rfl, show lf [true] = (⟨#[98]⟩ : ByteArray) from rfl] at HSH HP
       go_wp2_with (first
        | (go_at_call 113; refine (HSH.out _).mono ?_; rintro e w1 ⟨rfl, rfl⟩)
        | (go_at_call 114; refine (HCUT.out _).mono ?_; rintro e w2 ⟨rfl, rfl⟩)
        | (go_at_call 115; refine (HHO.out _).mono ?_; rintro e w3 ⟨rfl, hb3⟩; have B3 := Lib.hid (Below.lit hb3)))
       go_roundw
       case rel => exact ⟨k + 1, _, by omega, by go_num, by rw [HP.out], HD.out, HNEXT.out, below_step HB.out B3.out⟩
       case measure => simp [intOf]; omega
    ·rw [Bool.not_eq_true] at hpp
     simp only [hpp] at hcut HS
     have HSH := Lib.hid hsh
     have HCUT := Lib.hid hcut
     have HERR : Hid (exprE l = 1) := expr_err (by omega) (HF.out.err HX.out (by rw [HS.out]; simp))
     clear hsh hcut hpat HS hl32 hst' hpp
     generalize lf st = ls at *
     generalize lf p = lp at *
     generalize lf [makesX op] = lm at *
     go_wp2_with (first
      | (go_at_call 113; refine (HSH.out _).mono ?_; rintro e w1 ⟨rfl, rfl⟩)
      | (go_at_call 114; refine (HCUT.out _).mono ?_; rintro e w2 ⟨rfl, rfl⟩))
     go_ret
     exact ⟨ret_int HERR.out.symm, HB.out.alloc HB.out.size _⟩
  ·obtain rfl : k = n := by omega
   have HEND := Lib.hid (expr_end (by have := HL.out; omega) (HF.out.all HL.out))
   by_cases hk0 : k = 0
   ·subst hk0
    have HZ : Hid (exprE l = 0) := HEND.out.trans (if_pos (.inl (List.eq_nil_of_length_eq_zero HL.out)))
    generalize lf st = ls at *
    go_wp2_with fail
    go_ret
    exact ⟨ret_int HZ.out.symm, HB.out⟩
   ·have hlpos : (0 : Int) < (k : Int) := by omega
    have hne : ¬ l = [] := by rintro rfl; have := HL.out; simp at this; omega
    by_cases hv : st = [false]
    ·subst hv
     have HZ : Hid (exprE l = 0) := HEND.out.trans (if_pos (.inr rfl))
     simp only [show lf [false] = (⟨#[118]⟩ : ByteArray) from rfl]
     go_wp2_with fail
     go_ret
     exact ⟨ret_int HZ.out.symm, HB.out⟩
    ·have HZ : Hid (exprE l = 1) := HEND.out.trans (if_neg (fun e => e.elim hne hv))
     have hls : ((lf st).toList == [118]) = false := beq_eq_false_iff_ne.2 (fun e => hv (lf_inj (text_eq (by show (lf st).data.toList = _; rw [← ByteArray.toList_eq, e]; rfl))))
     generalize lf st = ls at *
     clear hne hv
     go_wp2_with fail
     go_ret
     exact ⟨ret_int HZ.out.symm, HB.out⟩
end Go.Proofs.YtmoglaknmlhpgaaGreatDoor
/- The first error of a list: the project's each, over matches, AllOfs, AnyOfs, duties; targets and duties by it. -/
namespace Go.Proofs.YtmoglaknmlhpgaaGreatDoor
set_option linter.unusedVariables false
open Go.RowKit

set_option maxHeartbeats 800000 in
theorem each_match {w : World} {R : Nat → Prop} {A : Option Addr} {n c : Nat} {l : List Mat} (h : Ms w R A n c l) :
  Calls Tryz.prog 140 #[.slice A n c, .func (.func 141) #[] #[]] w fun e w' => e = .returned (.int .i64 (firstE matE l)) ∧ Below w.heap.size w w' := by
 have hle := Rw.le h
 have hcap := Rw.cap h
 have HL := Lib.hid (Rw.len h)
 unfold maxLen at hcap
 have H := Lib.hid h
 clear h
 go_enter Tryz.func140, Tryz.ntmps140
 go_wp2
 go_loopw [10] (fun i wr => ∃ k : Nat, k ≤ n ∧ i = .int .i64 k ∧ FineTo matE l k ∧ Below w.heap.size w wr) (fun i _ => n - (intOf i).toNat)
 case atStart => exact ⟨0, Nat.zero_le _, rfl, FineTo.zero _ _, Below.refl _ _⟩
 case round =>
  obtain ⟨k, hk, rfl, hf, hb⟩ := hrel
  have HF := Lib.hid hf
  have HB := Lib.hid hb
  clear hf hb
  by_cases hlt : k < n
  ·obtain ⟨b, o, x, rfl, hRb, hbl, hx, hok, c0, c1, c2, c3, c4, c5, c6⟩ := (H.out.keep (Kept.all HB.out R) (fun _ h _ => h)).at_ hlt
   have HX := Lib.hid hx
   have hcon := fun W => match_any x hok W
   clear hx
   by_cases hz : matE x = 0
   ·have HZ := Lib.hid hz
    rw [hz] at hcon
    have HC := Lib.hid hcon
    clear hz hcon
    go_wp2_with (go_at_call 141; refine (HC.out _).mono ?_; rintro e w1 ⟨rfl, hb1⟩; have B1 := Lib.hid (Below.lit hb1))
    go_roundw
    case rel => exact ⟨k + 1, by omega, by go_num, HF.out.step HX.out HZ.out, below_step HB.out B1.out⟩
    case measure => simp [intOf]; omega
   ·have HZ := Lib.hid hz
    obtain ⟨r, hr⟩ : ∃ r, r = matE x := ⟨_, rfl⟩
    have HR := Lib.hid hr
    rw [← hr] at hz hcon
    have hne : (r != 0) = true := by simpa using hz
    have HC := Lib.hid hcon
    clear hz hcon hr
    go_wp2_with (go_at_call 141; refine (HC.out _).mono ?_; rintro e w1 ⟨rfl, hb1⟩; have B1 := Lib.hid (Below.lit hb1))
    go_ret
    exact ⟨ret_int (HR.out.trans (HF.out.err HX.out HZ.out).symm), below_step HB.out B1.out⟩
  ·obtain rfl : k = n := by omega
   go_wp2
   go_ret
   exact ⟨ret_int (HF.out.all HL.out).symm, HB.out⟩

theorem allOf_any {R : Nat → Prop} {A : Option Addr} {n c : Nat} {l : List Mat} (w : World) (h : Ms w R A n c l) :
  Calls Tryz.prog 112 #[.slice A n c] w fun e w' => e = .returned (.int .i64 (allE l)) ∧ Below w.heap.size w w' := by
 have hle := Rw.le h
 have hcap := Rw.cap h
 have HL := Lib.hid (Rw.len h)
 unfold maxLen at hcap
 have H := Lib.hid h
 clear h
 obtain ⟨r, hr⟩ : ∃ r, r = partsE n := ⟨_, rfl⟩
 have HR := Lib.hid hr
 by_cases hz : r = 0
 ·have HP : ∀ W, Calls Tryz.prog 110 #[.int .i64 n] W fun e w' => e = .returned (.int .i64 0) ∧ w' = W := fun W => by have := parts_any n W; rwa [← hr, hz] at this
  have HE : Hid (allE l = firstE matE l) := by
   show allE l = _
   unfold allE
   rw [HL.out, ← hr, hz]; simp
  have HPP := Lib.hid HP
  clear hz hr HP
  go_enter Tryz.func112, Tryz.ntmps112
  go_wp2_with (first
   | (go_at_call 110; refine (HPP.out _).mono ?_; rintro e w1 ⟨rfl, rfl⟩)
   | (go_at_call 140; refine (each_match H.out).mono ?_; rintro e w2 ⟨rfl, hb2⟩; have B2 := Lib.hid hb2))
  go_ret
  exact ⟨ret_int HE.out.symm, B2.out⟩
 ·have HP : ∀ W, Calls Tryz.prog 110 #[.int .i64 n] W fun e w' => e = .returned (.int .i64 r) ∧ w' = W := fun W => by have := parts_any n W; rwa [← hr] at this
  have HE : Hid (allE l = r) := by
   show allE l = _
   unfold allE
   rw [HL.out, ← hr, if_pos hz]
  have hne : (r != 0) = true := by simpa using hz
  have HPP := Lib.hid HP
  clear hz hr HP
  go_enter Tryz.func112, Tryz.ntmps112
  go_wp2_with (first
   | (go_at_call 110; refine (HPP.out _).mono ?_; rintro e w1 ⟨rfl, rfl⟩))
  go_ret
  exact ⟨ret_int HE.out.symm, Below.refl _ _⟩

set_option maxHeartbeats 800000 in
theorem each_allOf {w : World} {R : Nat → Prop} {A : Option Addr} {n c : Nat} {l : List (List Mat)} (h : Als w R A n c l) :
  Calls Tryz.prog 111 #[.slice A n c, .func (.func 112) #[] #[]] w fun e w' => e = .returned (.int .i64 (firstE allE l)) ∧ Below w.heap.size w w' := by
 have hle := Rw.le h
 have hcap := Rw.cap h
 have HL := Lib.hid (Rw.len h)
 unfold maxLen at hcap
 have H := Lib.hid h
 clear h
 go_enter Tryz.func111, Tryz.ntmps111
 go_wp2
 go_loopw [10] (fun i wr => ∃ k : Nat, k ≤ n ∧ i = .int .i64 k ∧ FineTo allE l k ∧ Below w.heap.size w wr) (fun i _ => n - (intOf i).toNat)
 case atStart => exact ⟨0, Nat.zero_le _, rfl, FineTo.zero _ _, Below.refl _ _⟩
 case round =>
  obtain ⟨k, hk, rfl, hf, hb⟩ := hrel
  have HF := Lib.hid hf
  have HB := Lib.hid hb
  clear hf hb
  by_cases hlt : k < n
  ·obtain ⟨b, o, x, A', n', c', rfl, hRb, hbl, hx, c0, hin⟩ := (H.out.keep (Kept.all HB.out R) (fun _ h _ => h)).at_ hlt
   have HX := Lib.hid hx
   have hinK := fun W (hb : Below wr.heap.size wr W) => Ms.keep hin (Kept.all hb R) (fun _ h _ => h)
   have hcon := fun W (hb : Below wr.heap.size wr W) => allOf_any W (hinK W hb)
   clear hx
   by_cases hz : allE x = 0
   ·have HZ := Lib.hid hz
    rw [hz] at hcon
    have HC := Lib.hid hcon
    clear hz hcon
    go_wp2_with (go_at_call 112; refine (HC.out _ (Below.refl _ _)).mono ?_; rintro e w1 ⟨rfl, hb1⟩; have B1 := Lib.hid hb1)
    go_roundw
    case rel => exact ⟨k + 1, by omega, by go_num, HF.out.step HX.out HZ.out, below_step HB.out B1.out⟩
    case measure => simp [intOf]; omega
   ·have HZ := Lib.hid hz
    obtain ⟨r, hr⟩ : ∃ r, r = allE x := ⟨_, rfl⟩
    have HR := Lib.hid hr
    rw [← hr] at hz hcon
    have hne : (r != 0) = true := by simpa using hz
    have HC := Lib.hid hcon
    clear hz hcon hr
    go_wp2_with (go_at_call 112; refine (HC.out _ (Below.refl _ _)).mono ?_; rintro e w1 ⟨rfl, hb1⟩; have B1 := Lib.hid hb1)
    go_ret
    exact ⟨ret_int (HR.out.trans (HF.out.err HX.out HZ.out).symm), below_step HB.out B1.out⟩
  ·obtain rfl : k = n := by omega
   go_wp2
   go_ret
   exact ⟨ret_int (HF.out.all HL.out).symm, HB.out⟩

theorem anyOf_any {R : Nat → Prop} {A : Option Addr} {n c : Nat} {l : List (List Mat)} (w : World) (h : Als w R A n c l) :
  Calls Tryz.prog 75 #[.slice A n c] w fun e w' => e = .returned (.int .i64 (anyE l)) ∧ Below w.heap.size w w' := by
 have hle := Rw.le h
 have hcap := Rw.cap h
 have HL := Lib.hid (Rw.len h)
 unfold maxLen at hcap
 have H := Lib.hid h
 clear h
 obtain ⟨r, hr⟩ : ∃ r, r = partsE n := ⟨_, rfl⟩
 have HR := Lib.hid hr
 by_cases hz : r = 0
 ·have HP : ∀ W, Calls Tryz.prog 110 #[.int .i64 n] W fun e w' => e = .returned (.int .i64 0) ∧ w' = W := fun W => by have := parts_any n W; rwa [← hr, hz] at this
  have HE : Hid (anyE l = firstE allE l) := by
   show anyE l = _
   unfold anyE
   rw [HL.out, ← hr, hz]; simp
  have HPP := Lib.hid HP
  clear hz hr HP
  go_enter Tryz.func75, Tryz.ntmps75
  go_wp2_with (first
   | (go_at_call 110; refine (HPP.out _).mono ?_; rintro e w1 ⟨rfl, rfl⟩)
   | (go_at_call 111; refine (each_allOf H.out).mono ?_; rintro e w2 ⟨rfl, hb2⟩; have B2 := Lib.hid hb2))
  go_ret
  exact ⟨ret_int HE.out.symm, B2.out⟩
 ·have HP : ∀ W, Calls Tryz.prog 110 #[.int .i64 n] W fun e w' => e = .returned (.int .i64 r) ∧ w' = W := fun W => by have := parts_any n W; rwa [← hr] at this
  have HE : Hid (anyE l = r) := by
   show anyE l = _
   unfold anyE
   rw [HL.out, ← hr, if_pos hz]
  have hne : (r != 0) = true := by simpa using hz
  have HPP := Lib.hid HP
  clear hz hr HP
  go_enter Tryz.func75, Tryz.ntmps75
  go_wp2_with (first
   | (go_at_call 110; refine (HPP.out _).mono ?_; rintro e w1 ⟨rfl, rfl⟩))
  go_ret
  exact ⟨ret_int HE.out.symm, Below.refl _ _⟩

set_option maxHeartbeats 800000 in
theorem each_anyOf {w : World} {R : Nat → Prop} {A : Option Addr} {n c : Nat} {l : List (List (List Mat))} (h : Tg w R A n c l) :
  Calls Tryz.prog 74 #[.slice A n c, .func (.func 75) #[] #[]] w fun e w' => e = .returned (.int .i64 (firstE anyE l)) ∧ Below w.heap.size w w' := by
 have hle := Rw.le h
 have hcap := Rw.cap h
 have HL := Lib.hid (Rw.len h)
 unfold maxLen at hcap
 have H := Lib.hid h
 clear h
 go_enter Tryz.func74, Tryz.ntmps74
 go_wp2
 go_loopw [10] (fun i wr => ∃ k : Nat, k ≤ n ∧ i = .int .i64 k ∧ FineTo anyE l k ∧ Below w.heap.size w wr) (fun i _ => n - (intOf i).toNat)
 case atStart => exact ⟨0, Nat.zero_le _, rfl, FineTo.zero _ _, Below.refl _ _⟩
 case round =>
  obtain ⟨k, hk, rfl, hf, hb⟩ := hrel
  have HF := Lib.hid hf
  have HB := Lib.hid hb
  clear hf hb
  by_cases hlt : k < n
  ·obtain ⟨b, o, x, A', n', c', rfl, hRb, hbl, hx, c0, hin⟩ := (H.out.keep (Kept.all HB.out R) (fun _ h _ => h)).at_ hlt
   have HX := Lib.hid hx
   have hinK := fun W (hb : Below wr.heap.size wr W) => Als.keep hin (Kept.all hb R) (fun _ h _ => h)
   have hcon := fun W (hb : Below wr.heap.size wr W) => anyOf_any W (hinK W hb)
   clear hx
   by_cases hz : anyE x = 0
   ·have HZ := Lib.hid hz
    rw [hz] at hcon
    have HC := Lib.hid hcon
    clear hz hcon
    go_wp2_with (go_at_call 75; refine (HC.out _ (Below.refl _ _)).mono ?_; rintro e w1 ⟨rfl, hb1⟩; have B1 := Lib.hid hb1)
    go_roundw
    case rel => exact ⟨k + 1, by omega, by go_num, HF.out.step HX.out HZ.out, below_step HB.out B1.out⟩
    case measure => simp [intOf]; omega
   ·have HZ := Lib.hid hz
    obtain ⟨r, hr⟩ : ∃ r, r = anyE x := ⟨_, rfl⟩
    have HR := Lib.hid hr
    rw [← hr] at hz hcon
    have hne : (r != 0) = true := by simpa using hz
    have HC := Lib.hid hcon
    clear hz hcon hr
    go_wp2_with (go_at_call 75; refine (HC.out _ (Below.refl _ _)).mono ?_; rintro e w1 ⟨rfl, hb1⟩; have B1 := Lib.hid hb1)
    go_ret
    exact ⟨ret_int (HR.out.trans (HF.out.err HX.out HZ.out).symm), below_step HB.out B1.out⟩
  ·obtain rfl : k = n := by omega
   go_wp2
   go_ret
   exact ⟨ret_int (HF.out.all HL.out).symm, HB.out⟩

set_option maxHeartbeats 800000 in
theorem each_duty {w : World} {R : Nat → Prop} {A : Option Addr} {n c : Nat} {l : List Dut} (h : Dus w R A n c l) :
  Calls Tryz.prog 76 #[.slice A n c, .func (.func 77) #[] #[]] w fun e w' => e = .returned (.int .i64 (firstE dutE l)) ∧ Below w.heap.size w w' := by
 have hle := Rw.le h
 have hcap := Rw.cap h
 have HL := Lib.hid (Rw.len h)
 unfold maxLen at hcap
 have H := Lib.hid h
 clear h
 go_enter Tryz.func76, Tryz.ntmps76
 go_wp2
 go_loopw [10] (fun i wr => ∃ k : Nat, k ≤ n ∧ i = .int .i64 k ∧ FineTo dutE l k ∧ Below w.heap.size w wr) (fun i _ => n - (intOf i).toNat)
 case atStart => exact ⟨0, Nat.zero_le _, rfl, FineTo.zero _ _, Below.refl _ _⟩
 case round =>
  obtain ⟨k, hk, rfl, hf, hb⟩ := hrel
  have HF := Lib.hid hf
  have HB := Lib.hid hb
  clear hf hb
  by_cases hlt : k < n
  ·obtain ⟨b, o, x, rfl, hRb, hbl, hx, hok, c0, c1, c2⟩ := (H.out.keep (Kept.all HB.out R) (fun _ h _ => h)).at_ hlt
   have HX := Lib.hid hx
   have hcon := fun W => duty_any x hok W
   clear hx
   by_cases hz : dutE x = 0
   ·have HZ := Lib.hid hz
    rw [hz] at hcon
    have HC := Lib.hid hcon
    clear hz hcon
    go_wp2_with (go_at_call 77; refine (HC.out _).mono ?_; rintro e w1 ⟨rfl, hb1⟩; have B1 := Lib.hid (Below.lit hb1))
    go_roundw
    case rel => exact ⟨k + 1, by omega, by go_num, HF.out.step HX.out HZ.out, below_step HB.out B1.out⟩
    case measure => simp [intOf]; omega
   ·have HZ := Lib.hid hz
    obtain ⟨r, hr⟩ : ∃ r, r = dutE x := ⟨_, rfl⟩
    have HR := Lib.hid hr
    rw [← hr] at hz hcon
    have hne : (r != 0) = true := by simpa using hz
    have HC := Lib.hid hcon
    clear hz hcon hr
    go_wp2_with (go_at_call 77; refine (HC.out _).mono ?_; rintro e w1 ⟨rfl, hb1⟩; have B1 := Lib.hid (Below.lit hb1))
    go_ret
    exact ⟨ret_int (HR.out.trans (HF.out.err HX.out HZ.out).symm), below_step HB.out B1.out⟩
  ·obtain rfl : k = n := by omega
   go_wp2
   go_ret
   exact ⟨ret_int (HF.out.all HL.out).symm, HB.out⟩

theorem target_any {R : Nat → Prop} {A : Option Addr} {n c : Nat} {l : Tgt} (w : World) (h : Tg w R A n c l) :
  Calls Tryz.prog 54 #[.slice A n c] w fun e w' => e = .returned (.int .i64 (tgE l)) ∧ Below w.heap.size w w' := by
 have hle := Rw.le h
 have hcap := Rw.cap h
 have HL := Lib.hid (Rw.len h)
 unfold maxLen at hcap
 have H := Lib.hid h
 clear h
 by_cases h8 : 8 < n
 ·have HE : Hid (tgE l = 6) := by
   show tgE l = _
   unfold tgE
   rw [HL.out, if_pos h8]
  have hb : (8 : Int) < (n : Int) := by omega
  go_enter Tryz.func54, Tryz.ntmps54
  go_wp2_with fail
  go_ret
  exact ⟨ret_int HE.out.symm, Below.refl _ _⟩
 ·have HE : Hid (tgE l = firstE anyE l) := by
   show tgE l = _
   unfold tgE
   rw [HL.out, if_neg h8]
  have hb : ¬ (8 : Int) < (n : Int) := by omega
  go_enter Tryz.func54, Tryz.ntmps54
  go_wp2_with (go_at_call 74; refine (each_anyOf H.out).mono ?_; rintro e w2 ⟨rfl, hb2⟩; have B2 := Lib.hid hb2)
  go_ret
  exact ⟨ret_int HE.out.symm, B2.out⟩

theorem obls_any {R : Nat → Prop} {A : Option Addr} {n c : Nat} {l : List Dut} (w : World) (h : Dus w R A n c l) :
  Calls Tryz.prog 55 #[.slice A n c] w fun e w' => e = .returned (.int .i64 (obE l)) ∧ Below w.heap.size w w' := by
 have hle := Rw.le h
 have hcap := Rw.cap h
 have HL := Lib.hid (Rw.len h)
 unfold maxLen at hcap
 have H := Lib.hid h
 clear h
 by_cases h8 : 8 < n
 ·have HE : Hid (obE l = 6) := by
   show obE l = _
   unfold obE
   rw [HL.out, if_pos h8]
  have hb : (8 : Int) < (n : Int) := by omega
  go_enter Tryz.func55, Tryz.ntmps55
  go_wp2_with fail
  go_ret
  exact ⟨ret_int HE.out.symm, Below.refl _ _⟩
 ·have HE : Hid (obE l = firstE dutE l) := by
   show obE l = _
   unfold obE
   rw [HL.out, if_neg h8]
  have hb : ¬ (8 : Int) < (n : Int) := by omega
  go_enter Tryz.func55, Tryz.ntmps55
  go_wp2_with (go_at_call 76; refine (each_duty H.out).mono ?_; rintro e w2 ⟨rfl, hb2⟩; have B2 := Lib.hid hb2)
  go_ret
  exact ⟨ret_int HE.out.symm, B2.out⟩

end Go.Proofs.YtmoglaknmlhpgaaGreatDoor
/- What was met on the way through a policy: the map of names, the count of rules (the project's walk). -/
namespace Go.Proofs.YtmoglaknmlhpgaaGreatDoor
set_option linter.unusedVariables false
open Go.RowKit Go.Maps

def cnt (x : ByteArray) (l : List ByteArray) : Nat := l.countP fun y => decide (y = x)
theorem cnt_snoc (x : ByteArray) (l : List ByteArray) : cnt x (l ++ [x]) = cnt x l + 1 := by simp [cnt]
theorem cnt_other {x y : ByteArray} (h : y ≠ x) (l : List ByteArray) : cnt x (l ++ [y]) = cnt x l := by simp [cnt, h]
theorem cnt_le (x : ByteArray) (l : List ByteArray) : cnt x l ≤ l.length := List.countP_le_length
theorem cnt_met (x : ByteArray) : ∀ (l : List ByteArray), (cnt x l = 0) = (metB x l = false)
 | [] => by simp [cnt, metB]
 | y :: l => by
  have := cnt_met x l
  unfold cnt metB at this ⊢
  by_cases e : y = x
  ·simp [e]
  ·simp only [List.countP_cons, List.any_cons, e, decide_false, Bool.false_or, if_false, Nat.add_zero, Bool.false_eq_true]
   exact this

theorem law9 : Keyed Tryz.prog 9 := string_keyed Tryz.underlying9
theorem zero3 (w : World) : (zeroValue 3).run Tryz.prog w = .ok (.int .i64 0) w := by kernel_rfl

def MapIs (w : World) (B : Nat) (ids : List ByteArray) : Prop :=
 ∃ D : DataW Unit, w.ownsMap Tryz.prog 9 (plainElem Tryz.prog 3) B ids.length D ∧ IsMap D ∧ ∀ x : ByteArray, D.atKey (.string x.data.toList) (.lit (.int .i64 0)) = .lit (.int .i64 (cnt x ids))
theorem MapIs.lt {w : World} {B : Nat} {ids : List ByteArray} (h : MapIs w B ids) : B < w.heap.size := by obtain ⟨D, h, _⟩ := h; exact h.lt
theorem MapIs.kept {w w' : World} {B : Nat} {ids : List ByteArray} {r : Nat} (h : MapIs w B ids) (ho : Only r w w') (hr : B ≠ r) : MapIs w' B ids := by
 obtain ⟨D, h1, h2, h3⟩ := h
 exact ⟨D, h1.kept ho (fun e => hr (Option.some.inj e)), h2, h3⟩
theorem MapIs.below {w w' : World} {B : Nat} {ids : List ByteArray} (h : MapIs w B ids) (ho : Below w.heap.size w w') : MapIs w' B ids :=
 h.kept (r := w.heap.size) (Only.of_below ho) (Nat.ne_of_lt h.lt)
theorem MapIs.made (w : World) : MapIs (w.alloc (.map #[] 0)) w.heap.size [] :=
 ⟨.map [], World.ownsMap_made _ _ _ _, isMap_empty, fun x => rfl⟩
theorem text_key {x y : ByteArray} (h : x ≠ y) : (Lit.string x.data.toList) ≠ .string y.data.toList := by
 intro e
 injection e with e
 exact h (text_eq e)

set_option maxRecDepth 100000 in
set_option maxHeartbeats 800000 in
theorem fresh_any {w : World} {g B : Nat} {ids : List ByteArray} {m : Value} (id : ByteArray) (hid : id.size ≤ maxLen) (hob : Ob w g 59 #[.map (some B), m]) (hmap : MapIs w B ids) (hgB : g ≠ B) (hlen : ids.length < 1000000) :
  Calls Tryz.prog 51 #[.pointer (some ⟨g, 0, none⟩), .string id] w fun e w' => e = .returned (.bool (decide (Named (bl id)) && !metB id ids)) ∧ Only B w w' ∧ MapIs w' B (ids ++ [id]) := by
 obtain ⟨D, hown, hD, hat0⟩ := hmap
 have hkey : keyOf Tryz.prog 9 (.string id) = some (.string id.data.toList) := WideMaps.keyOf_string_mk Tryz.underlying9 hid
 have HN := Lib.hid (name_any id hid)
 have hc0 := hob.cell 0
 have HC := Lib.hid (cnt_le id ids)
 have HM := Lib.hid (cnt_met id ids)
 have hc := hat0 id
 have HA0 := Lib.hid hat0
 have HD := Lib.hid hD
 have HB := Lib.hid hob
 have HK := Lib.hid hkey
 have HID := Lib.hid hid
 have hck : cnt id ids < 1000000 := by have := HC.out; omega
 clear hat0 hD hob hid
 obtain ⟨k, hk⟩ : ∃ k, k = cnt id ids := ⟨_, rfl⟩
 have HKK := Lib.hid hk
 rw [← hk] at hc hck
 have HAT := Lib.hid hc
 clear hc hk
 generalize hrb : decide (Named id.data.toList) = rb at *
 have HRB := Lib.hid hrb
 clear hrb
 have hputs : IsMap (D.put (.string id.data.toList) (.lit (.int .i64 ((k : Int) + 1)))) := HD.out.put _ _
 have hsame : (D.put (.string id.data.toList) (.lit (.int .i64 ((k : Int) + 1)))).atKey (.string id.data.toList) (.lit (.int .i64 0)) = .lit (.int .i64 ((k : Int) + 1)) := atKey_put_same HD.out (law9.key HK.out) _ _
 have HSAME := Lib.hid hsame
 have HPUT := Lib.hid hputs
 have hnew : ∀ x : ByteArray, (D.put (.string id.data.toList) (.lit (.int .i64 ((k : Int) + 1)))).atKey (.string x.data.toList) (.lit (.int .i64 0)) = .lit (.int .i64 (cnt x (ids ++ [id]))) := fun x => by
  by_cases e : x = id
  ·subst e
   rw [HSAME.out, cnt_snoc, ← HKK.out]; simp
  ·rw [atKey_put_other (text_key e), HA0.out x, cnt_other (Ne.symm e)]
 have HNEW := Lib.hid hnew
 clear hsame hputs hnew
 by_cases h0 : k = 0
 ·have HR : Hid ((decide (Named (bl id)) && !metB id ids) = rb) := by
   have hm : metB id ids = false := by rw [← HM.out, ← HKK.out]; exact h0
   show (decide (Named id.data.toList) && !metB id ids) = rb
   rw [hm, HRB.out]; simp
  subst h0
  rw [show ((0 : Nat) : Int) + 1 = 1 from rfl] at HSAME HPUT HNEW
  rw [show ((0 : Nat) : Int) = 0 from rfl] at HAT
  go_enter Tryz.func51, Tryz.ntmps51
  go_wp2_with (first
   | (at_lookup; refine wpList_lookup_own_int _ rfl _ _ 57 rfl 9 3 .i64 law9 Tryz.underlying57 Tryz.underlying3 (zero3 _) B _ _ rfl hown _ _ rfl hkey ?_; intro c hat hwc; obtain rfl : c = 0 := by (rw [HAT.out] at hat; injection hat with h1; injection h1 with h2 h3; exact h3.symm))
   | (at_lookup; refine wpList_lookup_own_int _ rfl _ _ 57 rfl 9 3 .i64 law9 Tryz.underlying57 Tryz.underlying3 (zero3 _) B _ _ rfl hown1 _ _ rfl hkey ?_; intro c hat hwc; obtain rfl : c = 1 := by (rw [HSAME.out] at hat; injection hat with h1; injection h1 with h2 h3; exact h3.symm))
   | (at_mapUpdate; refine wpList_mapUpdate_own _ rfl _ _ _ 57 rfl 9 3 law9 Tryz.underlying57 _ B _ _ rfl hown (by unfold maxLen; omega) _ _ _ rfl rfl hkey _ [] (plainElem_int Tryz.underlying3 (a := 1) (WalkArith.wf_i64 (by omega))) ?_; intro w1 hown1 hgrow1; have hc1 := (Ob.keep HB.out (Only.heap hgrow1 HB.out.lt hgB)).cell 0)
   | (go_at_call 49; refine (HN.out _).mono ?_; rintro e w2 ⟨rfl, rfl⟩))
  go_ret
  exact ⟨ret_bool HR.out.symm, hgrow1, _, by rw [List.length_append]; exact hown1, HPUT.out, HNEW.out⟩
 ·have HR : Hid ((decide (Named (bl id)) && !metB id ids) = false) := by
   have hm : metB id ids = true := by
    rw [← Bool.not_eq_false, ← HM.out, ← HKK.out]; exact h0
   show (decide (Named (bl id)) && !metB id ids) = false
   rw [hm]; simp
  have hne : ((k : Int) + 1 == 1) = false := by rw [beq_eq_false_iff_ne]; omega
  have H0 := Lib.hid h0
  clear h0
  go_enter Tryz.func51, Tryz.ntmps51
  go_wp2_with (first
   | (at_lookup; refine wpList_lookup_own_int _ rfl _ _ 57 rfl 9 3 .i64 law9 Tryz.underlying57 Tryz.underlying3 (zero3 _) B _ _ rfl hown _ _ rfl hkey ?_; intro c hat hwc; obtain rfl : c = (k : Int) := by (rw [HAT.out] at hat; injection hat with h1; injection h1 with h2 h3; exact h3.symm))
   | (at_lookup; refine wpList_lookup_own_int _ rfl _ _ 57 rfl 9 3 .i64 law9 Tryz.underlying57 Tryz.underlying3 (zero3 _) B _ _ rfl hown1 _ _ rfl hkey ?_; intro c hat hwc; obtain rfl : c = ((k : Int) + 1) := by (rw [HSAME.out] at hat; injection hat with h1; injection h1 with h2 h3; exact h3.symm))
   | (at_mapUpdate; refine wpList_mapUpdate_own _ rfl _ _ _ 57 rfl 9 3 law9 Tryz.underlying57 _ B _ _ rfl hown (by unfold maxLen; omega) _ _ _ rfl rfl hkey _ [] (plainElem_int Tryz.underlying3 (a := ((k : Int) + 1)) (WalkArith.wf_i64 (by omega))) ?_; intro w1 hown1 hgrow1; have hc1 := (Ob.keep HB.out (Only.heap hgrow1 HB.out.lt hgB)).cell 0)
   | (go_at_call 49; refine (HN.out _).mono ?_; rintro e w2 ⟨rfl, rfl⟩))
  go_ret
  exact ⟨ret_bool HR.out.symm, hgrow1, _, by rw [List.length_append]; exact hown1, HPUT.out, HNEW.out⟩
end Go.Proofs.YtmoglaknmlhpgaaGreatDoor
/- cmp.Or over errors; what a policy may have as what it is (the project's fits). -/
namespace Go.Proofs.YtmoglaknmlhpgaaGreatDoor
set_option linter.unusedVariables false
open Go.RowKit

def ev (l : List Int) : List Value := l.map (Value.int .i64)
theorem or2 (a b : Int) : firstE (fun x => x) [a, b] = orE a b := by
 unfold orE; simp only [firstE]
 by_cases ha : a = 0 <;> by_cases hb : b = 0 <;> simp [ha, hb]
theorem or3 (a b c : Int) : firstE (fun x => x) [a, b, c] = orE a (orE b c) := by
 unfold orE; simp only [firstE]
 by_cases ha : a = 0 <;> by_cases hb : b = 0 <;> by_cases hc : c = 0 <;> simp [ha, hb, hc]

set_option maxHeartbeats 800000 in
theorem or_any {w : World} {B n c : Nat} {A : Option Addr} {l : List Int} (h : Sl w B A n c (ev l)) (hn : n ≤ 1000) (hB : B ≤ w.heap.size) :
  Calls Tryz.prog 53 #[.slice A n c] w fun e w' => e = .returned (.int .i64 (firstE (fun x => x) l)) ∧ w' = w := by
 have HL : Hid (l.length = n) := by show l.length = n; have := h.1; simpa [ev] using this
 have hle := h.le
 have hcap := h.cap
 unfold maxLen at hcap
 have H := Lib.hid h
 clear h
 go_enter Tryz.func53, Tryz.ntmps53
 go_wp2
 go_loop [8] (fun i => ∃ k : Nat, k ≤ n ∧ i = .int .i64 k ∧ FineTo (fun x : Int => x) l k) (fun i => n - (intOf i).toNat)
 case atStart => exact ⟨0, Nat.zero_le _, rfl, FineTo.zero _ _⟩
 case round =>
  obtain ⟨k, hk, rfl, hf⟩ := hrel
  have HF := Lib.hid hf
  clear hf
  by_cases hlt : k < n
  ·obtain ⟨b, o, u, rfl, hb, hu, hc⟩ := H.out.at_ hlt
   have hkl : k < l.length := by have := HL.out; omega
   have hx : l[k]? = some l[k] := List.getElem?_eq_getElem hkl
   have hu' : u = .int .i64 l[k] := by
    have : (ev l)[k]? = some (.int .i64 l[k]) := by simp [ev, hkl]
    rw [this] at hu
    exact (Option.some.inj hu).symm
   subst hu'
   have HX := Lib.hid hx
   generalize l[k] = x at *
   clear hu hx
   by_cases hz : x = 0
   ·subst hz
    go_wp2_with fail
    go_round
    case rel => exact ⟨k + 1, by omega, by go_num, HF.out.step HX.out rfl⟩
    case measure => simp [intOf]; omega
   ·have HZ := Lib.hid hz
    have hne : (x != 0) = true := by simpa using hz
    clear hz
    go_wp2_with fail
    go_ret
    exact ⟨ret_int (HF.out.err (f := fun x : Int => x) HX.out HZ.out).symm, rfl⟩
  ·obtain rfl : k = n := by omega
   go_wp2
   go_ret
   exact ⟨ret_int (HF.out.all HL.out).symm, rfl⟩

def fitsN (set : Bool) (alg : Int) (nr nk : Nat) : Bool := decide (1 ≤ alg) && decide (alg ≤ 6) && if set = true then decide (nr = 0) else decide (nk = 0) && decide (alg ≠ 4)
theorem fits_eq (p : Pol) : fitsB p = fitsN p.set p.alg p.rules.length p.kids.length := rfl
set_option maxHeartbeats 800000 in
theorem fits_any (id : ByteArray) (set : Bool) (alg : Int) (A1 A2 A3 A4 : Option Addr) (n1 n2 n3 n4 c1 c2 c3 c4 : Nat) (w : World) :
  Calls Tryz.prog 52 #[.agg #[.string id, .bool set, .int .i64 alg, .slice A1 n1 c1, .slice A2 n2 c2, .slice A3 n3 c3, .slice A4 n4 c4]] w fun e w' => e = .returned (.bool (fitsN set alg n2 n3)) ∧ Below w.heap.size w w' := by
 have HE : Hid (fitsN set alg n2 n3 = (decide (1 ≤ alg) && decide (alg ≤ 6) && if set = true then decide (n2 = 0) else decide (n3 = 0) && decide (alg ≠ 4))) := rfl
 generalize fitsN set alg n2 n3 = r at *
 cases set
 all_goals
  go_enter Tryz.func52, Tryz.ntmps52
  go_wp2_with fail
  all_goals
   go_ret
   refine ⟨ret_bool ?_, (Below.refl _ _).alloc (Nat.le_refl _) _⟩
   rw [HE.out]
   clear HE
   rw [Bool.eq_iff_iff]
   simp only [Bool.and_eq_true, decide_eq_true_eq, beq_iff_eq, bne_iff_ne, if_true, if_false, Bool.false_eq_true, ne_eq]
   first | omega | (simp only [false_iff]; omega)
end Go.Proofs.YtmoglaknmlhpgaaGreatDoor
