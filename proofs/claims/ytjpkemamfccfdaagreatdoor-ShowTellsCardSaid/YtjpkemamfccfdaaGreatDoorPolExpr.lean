/- Expressions: the project's. -/
import Derived.Test.YtjpkemamfccfdaaGreatDoorPolHolds
import Derived.Test.YtjpkemamfccfdaaGreatDoorMade
namespace Go.Proofs.YtjpkemamfccfdaaGreatDoor
set_option linter.unusedVariables false
open Go.RowKit

theorem runX_app : ∀ (l m : List Nod) (st : List Bool), runX (l ++ m) st = (match runX l st with | some st' => runX m st' | none => none)
  | [], m, st => rfl
  | x :: l, m, st => by
    simp only [List.cons_append, runX]
    cases stepX x st with
    | none => rfl
    | some st' => exact runX_app l m st'
/-- So far. -/
def RunTo (l : List Nod) (k : Nat) (st : List Bool) : Prop := runX (l.take k) [] = some st
theorem RunTo.zero (l : List Nod) : RunTo l 0 [] := rfl
theorem take_next {α : Type} {l : List α} {k : Nat} {x : α} (h : l[k]? = some x) : l.take (k + 1) = l.take k ++ [x] := by
  obtain ⟨hk, rfl⟩ := List.getElem?_eq_some_iff.1 h
  exact List.take_succ_eq_append_getElem hk
theorem RunTo.step {l : List Nod} {k : Nat} {st st' : List Bool} {x : Nod} (h : RunTo l k st) (hx : l[k]? = some x) (hs : stepX x st = some st') : RunTo l (k + 1) st' := by
  unfold RunTo at h ⊢
  rw [take_next hx, runX_app, h]
  simp only [runX, hs]
theorem RunTo.err {l : List Nod} {k : Nat} {st : List Bool} {x : Nod} (h : RunTo l k st) (hx : l[k]? = some x) (hs : stepX x st = none) : runX l [] = none := by
  rw [← List.take_append_drop (k + 1) l, runX_app, take_next hx, runX_app, h]
  simp only [runX, hs]
theorem RunTo.all {l : List Nod} {n : Nat} {st : List Bool} (h : RunTo l n st) (hn : l.length = n) : runX l [] = some st := by
  unfold RunTo at h
  rwa [List.take_of_length_le (by omega)] at h
theorem expr_err {l : List Nod} (hl : l.length ≤ 32) (h : runX l [] = none) : exprE l = 1 := by
  unfold exprE
  rw [if_neg (by omega), h]
theorem expr_end {l : List Nod} {st : List Bool} (hl : l.length ≤ 32) (h : runX l [] = some st) : exprE l = if l = [] ∨ st = [false] then 0 else 1 := by
  unfold exprE
  rw [if_neg (by omega), h]

set_option maxHeartbeats 1600000 in
theorem expr_any {R : Nat → Prop} {A : Option Addr} {n c : Nat} {l : List Nod} (w : World) (h : Nds w R A n c l) :
    Calls Tryz.prog 28 #[.slice A n c] w fun e w' => e = .returned (.int .i64 (exprE l)) ∧ Below w.heap.size w w' := by
  have hle := Rw.le h
  have hcap := Rw.cap h
  have HL := Lib.hid (Rw.len h)
  unfold maxLen at hcap
  have H := Lib.hid h
  clear h
  by_cases h32 : 32 < n
  · have HE : Hid (exprE l = 6) := by
      show exprE l = _
      unfold exprE
      rw [HL.out, if_pos h32]
    have hb : (32 : Int) < (n : Int) := by omega
    go_enter Tryz.func28, Tryz.ntmps28
    go_wp2_with fail
    go_ret
    exact ⟨ret_int HE.out.symm, Below.refl _ _⟩
  have hb : ¬ (32 : Int) < (n : Int) := by omega
  go_enter Tryz.func28, Tryz.ntmps28
  go_wp2
  go_loopw [3, 15] (fun s i wr => ∃ (k : Nat) (st : List Bool), k ≤ n ∧ i = .int .i64 k ∧ s = .string (lf st) ∧ st.length ≤ k ∧ RunTo l k st ∧ Below w.heap.size w wr) (fun _ i _ => n - (intOf i).toNat)
  case atStart => exact ⟨0, [], Nat.zero_le _, rfl, rfl, Nat.le_refl _, RunTo.zero _, Below.refl _ _⟩
  case round =>
    obtain ⟨k, st, hk, rfl, rfl, hst, hf, hb⟩ := hrel
    have HF := Lib.hid hf
    have HB := Lib.hid hb
    clear hf hb
    by_cases hlt : k < n
    · obtain ⟨b, o, x, rfl, hRb, hbl, hx, hok, c0, c1, c2, c3, c4, c5, c6⟩ := (H.out.keep (Kept.all HB.out R) (fun _ h _ => h)).at_ hlt
      have HX := Lib.hid hx
      have hsh := fun W => shape_any x.op W
      have hho := fun W => holds_any x hok W
      have HS : Hid (stepX x st = if holdsB x = true then popX x.op st else none) := rfl
      rw [popX_pat] at HS
      obtain ⟨op, ⟨kx, nx, sx⟩, ⟨cx, mx, ux⟩⟩ := x
      simp only at c0 c1 c2 c3 c4 c5 c6 hsh hho HS
      have HHO := Lib.hid hho
      have hl32 := HL.out
      have hst' : st.length ≤ 1000 := by omega
      have HK := Lib.hid hst
      clear hok hho hx hst
      unfold ofT makesT at hsh
      cases hpat : patX op with
      | none =>
        rw [hpat] at hsh HS
        have hcut := fun W => cut_any st [] hst' (by simp) W
        simp only [Option.getD_none, hasP, List.take_zero, List.length_nil, decide_true, if_true, List.drop_zero, lf_nil] at hsh hcut
        have HSH := Lib.hid hsh
        have HCUT := Lib.hid hcut
        have HERR : Hid (exprE l = 1) := expr_err (by omega) (HF.out.err HX.out (by rw [HS.out]; simp))
        clear hsh hcut hpat HS hl32 hst'
        generalize lf st = ls at *
        go_wp2_with (first
          | (go_at_call 53; refine (HSH.out _).mono ?_; rintro e w1 ⟨rfl, rfl⟩)
          | (go_at_call 54; refine (HCUT.out _).mono ?_; rintro e w2 ⟨rfl, rfl⟩))
        go_ret
        exact ⟨ret_int HERR.out.symm, HB.out.alloc HB.out.size _⟩
      | some p =>
        rw [hpat] at hsh HS
        have hcut := fun W => cut_any st p hst' (by have := patX_len hpat; omega) W
        simp only [Option.getD_some] at hsh hcut HS
        by_cases hpp : hasP p st = true
        · simp only [hpp, if_true] at hcut HS
          obtain ⟨d, hd⟩ : ∃ d, d = st.drop p.length := ⟨_, rfl⟩
          have hdl : d.length ≤ st.length := by rw [hd, List.length_drop]; omega
          rw [← hd] at hcut HS
          obtain ⟨hb, hhb⟩ : ∃ hb, hb = holdsB ⟨op, ⟨kx, nx, sx⟩, ⟨cx, mx, ux⟩⟩ := ⟨_, rfl⟩
          rw [← hhb] at HHO HS
          have hpush := lf_push d (makesX op)
          have hds := lf_size d
          have HSH := Lib.hid hsh
          have HCUT := Lib.hid hcut
          have hx1 : (9223372036854775807 < (lf d).size + 1) = False := eq_false (by have := HK.out; omega)
          have HD : Hid ((makesX op :: d).length ≤ k + 1) := by
            show (makesX op :: d).length ≤ k + 1
            have := HK.out
            rw [List.length_cons]
            omega
          clear hsh hcut hpat hl32 hst' hpp hd hdl hhb hds
          obtain ⟨mb, hmb⟩ : ∃ mb, mb = makesX op := ⟨_, rfl⟩
          rw [← hmb] at HSH hpush HS HD
          have HP := Lib.hid hpush
          clear hmb hpush
          generalize hls : lf st = ls at *
          generalize hlp : lf p = lp at *
          have HTX := Lib.hid (rfl : lf d = lf d)
          generalize htx : lf d = tx at *
          have HTX := Lib.hid htx
          clear hls hlp htx
          cases hb
          · have HERR : Hid (exprE l = 1) := expr_err (by have := HL.out; omega) (HF.out.err HX.out (by rw [HS.out]; simp))
            clear HS
            cases mb
            all_goals
              simp only [show lf [false] = (⟨#[118]⟩ : ByteArray) from rfl, show lf [true] = (⟨#[98]⟩ : ByteArray) from rfl] at HSH
              go_wp2_with (first
                | (go_at_call 53; refine (HSH.out _).mono ?_; rintro e w1 ⟨rfl, rfl⟩)
                | (go_at_call 54; refine (HCUT.out _).mono ?_; rintro e w2 ⟨rfl, rfl⟩)
                | (go_at_call 55; refine (HHO.out _).mono ?_; rintro e w3 ⟨rfl, hb3⟩; have B3 := Lib.hid (Below.lit hb3)))
              go_ret
              exact ⟨ret_int HERR.out.symm, below_step HB.out B3.out⟩
          · have HNEXT : Hid (RunTo l (k + 1) (mb :: d)) := HF.out.step HX.out (by rw [HS.out]; simp)
            clear HS
            cases mb
            all_goals
              simp only [show lf [false] = (⟨#[118]⟩ : ByteArray) from rfl, show lf [true] = (⟨#[98]⟩ : ByteArray) from rfl] at HSH HP
              go_wp2_with (first
                | (go_at_call 53; refine (HSH.out _).mono ?_; rintro e w1 ⟨rfl, rfl⟩)
                | (go_at_call 54; refine (HCUT.out _).mono ?_; rintro e w2 ⟨rfl, rfl⟩)
                | (go_at_call 55; refine (HHO.out _).mono ?_; rintro e w3 ⟨rfl, hb3⟩; have B3 := Lib.hid (Below.lit hb3)))
              go_roundw
              case rel => exact ⟨k + 1, _, by omega, by go_num, by rw [HP.out], HD.out, HNEXT.out, below_step HB.out B3.out⟩
              case measure => simp [intOf]; omega
        · rw [Bool.not_eq_true] at hpp
          simp only [hpp] at hcut HS
          have HSH := Lib.hid hsh
          have HCUT := Lib.hid hcut
          have HERR : Hid (exprE l = 1) := expr_err (by omega) (HF.out.err HX.out (by rw [HS.out]; simp))
          clear hsh hcut hpat HS hl32 hst' hpp
          generalize lf st = ls at *
          generalize lf p = lp at *
          generalize lf [makesX op] = lm at *
          go_wp2_with (first
            | (go_at_call 53; refine (HSH.out _).mono ?_; rintro e w1 ⟨rfl, rfl⟩)
            | (go_at_call 54; refine (HCUT.out _).mono ?_; rintro e w2 ⟨rfl, rfl⟩))
          go_ret
          exact ⟨ret_int HERR.out.symm, HB.out.alloc HB.out.size _⟩
    · obtain rfl : k = n := by omega
      have HEND := Lib.hid (expr_end (by have := HL.out; omega) (HF.out.all HL.out))
      by_cases hk0 : k = 0
      · subst hk0
        have HZ : Hid (exprE l = 0) := HEND.out.trans (if_pos (.inl (List.eq_nil_of_length_eq_zero HL.out)))
        generalize lf st = ls at *
        go_wp2_with fail
        go_ret
        exact ⟨ret_int HZ.out.symm, HB.out⟩
      · have hlpos : (0 : Int) < (k : Int) := by omega
        have hne : ¬ l = [] := by rintro rfl; have := HL.out; simp at this; omega
        by_cases hv : st = [false]
        · subst hv
          have HZ : Hid (exprE l = 0) := HEND.out.trans (if_pos (.inr rfl))
          simp only [show lf [false] = (⟨#[118]⟩ : ByteArray) from rfl]
          go_wp2_with fail
          go_ret
          exact ⟨ret_int HZ.out.symm, HB.out⟩
        · have HZ : Hid (exprE l = 1) := HEND.out.trans (if_neg (fun e => e.elim hne hv))
          have hls : ((lf st).toList == [118]) = false := beq_eq_false_iff_ne.2 (fun e => hv (lf_inj (text_eq (by show (lf st).data.toList = _; rw [← ByteArray.toList_eq, e]; rfl))))
          generalize lf st = ls at *
          clear hne hv
          go_wp2_with fail
          go_ret
          exact ⟨ret_int HZ.out.symm, HB.out⟩
end Go.Proofs.YtjpkemamfccfdaaGreatDoor
