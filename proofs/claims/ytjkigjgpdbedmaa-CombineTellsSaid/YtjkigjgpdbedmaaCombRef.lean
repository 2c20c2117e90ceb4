/- All for any algorithm and any marks; the reference's Combine. -/
import Derived.Test.YtjkigjgpdbedmaaCombKit
import Derived.Test.YtjkigjgpdbedmaaMkSteps
namespace Go.Proofs.Ytjkigjgpdbedmaa
set_option linter.unusedVariables false
open Go.RowKit
attribute [local go_sem] eq0 eq2 eq4 gt0 gt2 ord_eq ord_gt ord_lt run_max_fl

theorem only_first {l : List Mk} (h : cnt l ≤ 1) : foldM 3 l = foldM 2 l := by
  have z : ∀ l : List Mk, cnt l = 0 → foldM 2 l = (0, 0) ∧ foldM 3 l = (0, 0) := by
    intro l
    induction l with
    | nil => intro _; exact ⟨rfl, rfl⟩
    | cons m l ih =>
      intro h
      rw [cnt_cons] at h
      by_cases hm : m = (0, 0)
      · subst hm
        rw [fold_cons, fold_cons, step_0l, step_0l]
        exact ih (by omega)
      · rw [if_neg hm] at h; omega
  induction l with
  | nil => rfl
  | cons m l ih =>
    rw [cnt_cons] at h
    rw [fold_cons, fold_cons]
    by_cases hm : m = (0, 0)
    · subst hm
      rw [step_0l, step_0l]
      exact ih (by omega)
    · rw [if_neg hm] at h
      obtain ⟨z2, z3⟩ := z l (by omega)
      rw [z2, z3, step_0r, step_0r]
theorem allK_bad1 {a : Int} (h : algB a = false) (l : List Mk) : allK a l = ((0, 0), 1) := by unfold allK; rw [h]; rfl
theorem allK_bad2 (a : Int) {l : List Mk} (h : l.all rightK = false) : allK a l = ((0, 0), 1) := by unfold allK; rw [h, Bool.and_false]; rfl

set_option maxHeartbeats 1600000 in
theorem all_any {w : World} {B n c : Nat} {A : Option Addr} {l : List Mk} (a : Int) {p d : Fin 5} {e : Int} (h : Sl w B A n c (mv l)) (hr : allK a l = ((p, d), e)) :
    Calls Try.prog 11 #[.int .i64 a, .slice A n c] w fun z w' => z = .returned (.tuple #[.complex .f64 (fl p) (fl d), .int .i64 e]) ∧ w = w' := by
  by_cases ha : algB a = true
  · by_cases hl : l.all rightK = true
    · obtain ⟨i, rfl⟩ := alg_of ha
      rw [allK_right i (List.all_eq_true.1 hl)] at hr
      obtain ⟨hm, rfl⟩ := Prod.mk.inj hr
      exact all_to i h (List.all_eq_true.1 hl) hm
    · have hl' : l.all rightK = false := by simpa using hl
      rw [allK_bad2 a hl'] at hr
      obtain ⟨hm, rfl⟩ := Prod.mk.inj hr
      obtain ⟨rfl, rfl⟩ := Prod.mk.inj hm
      have c1 := allright_any h
      have c2 := cright_any a
      rw [hl'] at c1
      rw [ha] at c2
      have C1 := Lib.hid c1
      have C2 := Lib.hid c2
      clear c1 c2 h hl hl' ha hm hr
      go_enter Try.func11, Try.ntmps11
      go_wp2_with fail
      refine (C2.out _).mono ?_
      rintro z w' ⟨rfl, rfl⟩
      go_wp2_with fail
      refine C1.out.mono ?_
      rintro z w' ⟨rfl, rfl⟩
      go_wp2_with fail
      go_ret2
      exact ⟨by rw [fl0]; rfl, rfl⟩
  · have ha' : algB a = false := by simpa using ha
    rw [allK_bad1 ha'] at hr
    obtain ⟨hm, rfl⟩ := Prod.mk.inj hr
    obtain ⟨rfl, rfl⟩ := Prod.mk.inj hm
    have c2 := cright_any a
    rw [ha'] at c2
    have C2 := Lib.hid c2
    clear c2 h ha ha' hm hr
    go_enter Try.func11, Try.ntmps11
    go_wp2_with fail
    refine (C2.out _).mono ?_
    rintro z w' ⟨rfl, rfl⟩
    go_wp2_with fail
    go_ret2
    exact ⟨by rw [fl0]; rfl, rfl⟩

def RefRel (l : List Mk) (j f m u i : Value) : Prop :=
  ∃ k : Nat, k ≤ l.length ∧ i = .int .i64 (k : Int) ∧ ∃ (p d q e : Fin 5) (bu : Bool) (c : Nat), j = .complex .f64 (fl p) (fl d) ∧ f = .complex .f64 (fl q) (fl e) ∧ m = .int .i64 (c : Int) ∧ u = .bool bu ∧ c ≤ k ∧
    foldM 0 (l.take k) = (p, d) ∧ foldM 2 (l.take k) = (q, e) ∧ cnt (l.take k) = c ∧ anyU (l.take k) = bu ∧ (l.take k).all rightK = true
theorem right_step {l : List Mk} {k : Nat} {m : Mk} (h : l[k]? = some m) (ht : (l.take k).all rightK = true) (hr : rightK m = true) : (l.take (k + 1)).all rightK = true := by
  obtain ⟨hk, e⟩ := List.getElem?_eq_some_iff.1 h
  rw [List.take_succ_eq_append_getElem hk, e, List.all_append, ht]
  simp [hr]
theorem first_no {j m : Mk} (h : ¬ j = (0, 0)) : stepM 2 j m = j := if_neg h
theorem first_yes {j m : Mk} (h : j = (0, 0)) : stepM 2 j m = m := if_pos h
theorem fin_all {l : List Mk} {a : Fin 6} {x : Int} (hx : algN a = x) {m : Mk} {p d : Fin 5} {e : Int} (hr : allK x l = ((p, d), e)) (h6 : Six l) (hm : makeM a l = m) : (p, d) = m ∧ e = 0 := by
  rw [← hx, allK_right a h6, hm] at hr
  obtain ⟨h1, h2⟩ := Prod.mk.inj hr
  exact ⟨h1.symm, h2.symm⟩
theorem ret_t {p d q e : Fin 5} {x y : Int} (h : (p, d) = (q, e)) (k : x = y) : Ending.returned (.tuple #[.complex .f64 (fl q) (fl e), .int .i64 y]) = .returned (.tuple #[.complex .f64 (fl p) (fl d), .int .i64 x]) := by
  obtain ⟨rfl, rfl⟩ := Prod.mk.inj h
  rw [k]
theorem ret_t0 {q e : Nat} {p d : Fin 5} {x y : Int} (h : q = fl p) (g : e = fl d) (k : x = y) : Ending.returned (.tuple #[.complex .f64 q e, .int .i64 y]) = .returned (.tuple #[.complex .f64 (fl p) (fl d), .int .i64 x]) := by
  rw [h, g, k]

set_option maxHeartbeats 12800000 in
theorem refcomb_any {w : World} {B n c : Nat} {A : Option Addr} {l : List Mk} (a : Int) {P D : Fin 5} {E : Int} (h : Sl w B A n c (mv l)) (hn : n ≤ 1000) (hr : allK a l = ((P, D), E)) :
    Calls Try.prog 15 #[.int .i64 a, .slice A n c] w fun z w' => z = .returned (.tuple #[.complex .f64 (fl P) (fl D), .int .i64 E]) ∧ w = w' := by
  have hcap := h.cap
  have hle := h.le
  unfold maxLen at hcap
  have H := Lib.hid h
  have hlen := h.mlen
  have R := Lib.hid hr
  clear h hr
  subst hlen
  go_enter Try.func15, Try.ntmps15
  go_wp2_with fail
  go_loop [6, 7, 8, 9, 14] (fun j f m u i => RefRel l j f m u i) (fun _ _ _ _ i => l.length - (intOf i).toNat)
  case atStart => exact ⟨0, Nat.zero_le _, rfl, 0, 0, 0, 0, false, 0, by rw [fl0], by rw [fl0], rfl, rfl, by omega, rfl, rfl, rfl, rfl, rfl⟩
  case round =>
    obtain ⟨k, hk, rfl, p, d, q, e, bu, cc, rfl, rfl, rfl, rfl, hcc, r1, r2, r3, r4, r5⟩ := hrel
    have R1 := Lib.hid r1
    have R2 := Lib.hid r2
    have R3 := Lib.hid r3
    have R4 := Lib.hid r4
    have R5 := Lib.hid r5
    clear r1 r2 r3 r4 r5
    by_cases hlt : k < l.length
    · obtain ⟨b, o, x, y, rfl, _, hx, hc⟩ := H.out.mark hlt
      have CM := refmark_any x y
      cases hxy : rightM x y with
      | false =>
        rw [hxy] at CM
        have C1 := Lib.hid CM
        have hb : l.all rightK = false := by
          rw [List.all_eq_false]
          exact ⟨(x, y), List.mem_of_getElem? hx, by simpa [rightK] using hxy⟩
        have RB := Lib.hid (R.out.symm.trans (allK_bad2 a hb))
        clear CM hxy hx hb
        go_wp2_with fail
        refine (C1.out _).mono ?_
        rintro z w' ⟨rfl, rfl⟩
        go_wp2_with fail
        go_ret2
        obtain ⟨h1, h2⟩ := Prod.mk.inj RB.out
        obtain ⟨rfl, rfl⟩ := Prod.mk.inj h1
        exact ⟨ret_t0 (by rw [fl0]) (by rw [fl0]) h2, rfl⟩
      | true =>
        rw [hxy] at CM
        have C1 := Lib.hid CM
        have hj := (fold_take 0 hx).trans (congrArg (fun m => stepM 0 m (x, y)) R1.out)
        have C2 := Lib.hid (refjoin_any p d x y)
        have S1 := Lib.hid hj
        have S2 := Lib.hid ((fold_take 2 hx).trans (congrArg (fun m => stepM 2 m (x, y)) R2.out))
        have S3 := Lib.hid ((cnt_step hx).trans (by rw [R3.out]))
        have S4 := Lib.hid ((anyU_step hx).trans (by rw [R4.out]))
        have S5 := Lib.hid (right_step hx R5.out hxy)
        have hv := six_of x y hxy
        clear CM hx hxy hj R1 R2 R3 R4 R5
        by_cases hq : (q == 0 && e == 0) = true
        · have hq' : Hid ((q, e) = ((0, 0) : Mk)) := by
            show (q, e) = ((0, 0) : Mk)
            simpa using hq
          obtain ⟨rfl, rfl⟩ | ⟨rfl, rfl⟩ | ⟨rfl, rfl⟩ | ⟨rfl, rfl⟩ | ⟨rfl, rfl⟩ | ⟨rfl, rfl⟩ := hv
          all_goals
            cases bu
            all_goals
              go_wp2_with fail
              refine (C1.out _).mono ?_
              rintro z w' ⟨rfl, rfl⟩
              go_wp2_with fail
              refine (C2.out _).mono ?_
              rintro z w' ⟨rfl, rfl⟩
              go_wp2_with fail
              go_round
              case rel => exact ⟨k + 1, by omega, by go_num, _, _, _, _, _, _, rfl, rfl, rfl, rfl, (by first | omega | exact Nat.succ_le_succ hcc), S1.out, S2.out.trans (first_yes hq'.out), S3.out, S4.out, S5.out⟩
              case measure => simp [intOf]; omega
        · have hq' : Hid (¬ (q, e) = ((0, 0) : Mk)) := by
            show ¬ (q, e) = ((0, 0) : Mk)
            simpa using hq
          have hq1 : (q == 0 && e == 0) = false := by simpa using hq
          clear hq
          obtain ⟨rfl, rfl⟩ | ⟨rfl, rfl⟩ | ⟨rfl, rfl⟩ | ⟨rfl, rfl⟩ | ⟨rfl, rfl⟩ | ⟨rfl, rfl⟩ := hv
          all_goals
            cases bu
            all_goals
              go_wp2_with fail
              refine (C1.out _).mono ?_
              rintro z w' ⟨rfl, rfl⟩
              go_wp2_with fail
              refine (C2.out _).mono ?_
              rintro z w' ⟨rfl, rfl⟩
              go_wp2_with fail
              go_round
              case rel => exact ⟨k + 1, by omega, by go_num, _, _, _, _, _, _, rfl, rfl, rfl, rfl, (by first | omega | exact Nat.succ_le_succ hcc), S1.out, S2.out.trans (first_no hq'.out), S3.out, S4.out, S5.out⟩
              case measure => simp [intOf]; omega
    · obtain rfl : k = l.length := by omega
      rw [List.take_length] at R1 R2 R3 R4 R5
      have H6 : Hid (Six l) := List.all_eq_true.1 R5.out
      by_cases ha : algB a = true
      · obtain ⟨i, hi⟩ := alg_of ha
        clear ha
        obtain ⟨rfl, g⟩ | ⟨rfl, g⟩ | ⟨rfl, g⟩ | ⟨rfl, g⟩ | ⟨rfl, g⟩ | ⟨rfl, g⟩ := alg6 i
        · obtain rfl : a = 1 := hi.trans g
          have F := Lib.hid (fin_all g R.out H6.out (make_fold R1.out rfl))
          clear hi g
          go_wp2_with fail
          refine (refover_any _ _ _).mono ?_
          rintro z w' ⟨rfl, rfl⟩
          go_wp2_with fail
          go_ret2
          exact ⟨ret_t F.out.1 F.out.2, rfl⟩
        · obtain rfl : a = 2 := hi.trans g
          have F := Lib.hid (fin_all g R.out H6.out (make_fold ((join_1 l).trans R1.out) rfl))
          clear hi g
          go_wp2_with fail
          refine (refturn_any _ _ _).mono ?_
          rintro z w' ⟨rfl, rfl⟩
          go_wp2_with fail
          refine (refover_any _ _ _).mono ?_
          rintro z w' ⟨rfl, rfl⟩
          go_wp2_with fail
          refine (refturn_any _ _ _).mono ?_
          rintro z w' ⟨rfl, rfl⟩
          go_wp2_with fail
          go_ret2
          exact ⟨ret_t F.out.1 F.out.2, rfl⟩
        · obtain rfl : a = 3 := hi.trans g
          have F := Lib.hid (fin_all g R.out H6.out (make_fold R2.out rfl))
          clear hi g
          go_wp2_with fail
          go_ret2
          exact ⟨ret_t F.out.1 F.out.2, rfl⟩
        · obtain rfl : a = 4 := hi.trans g
          have hm := make_only_two l
          cases bu with
          | true =>
            have F := Lib.hid (fin_all g R.out H6.out (hm.2 (.inl R4.out)))
            clear hi g hm
            go_wp2_with fail
            go_ret2
            obtain ⟨rfl, rfl⟩ := Prod.mk.inj F.out.1
            exact ⟨ret_t0 (by rw [fl2]) (by rw [fl2]) F.out.2, rfl⟩
          | false =>
            by_cases hcc1 : 1 < cc
            · have F := Lib.hid (fin_all g R.out H6.out (hm.2 (.inr (by rw [R3.out]; exact hcc1))))
              clear hi g hm
              go_wp2_with fail
              go_ret2
              obtain ⟨rfl, rfl⟩ := Prod.mk.inj F.out.1
              exact ⟨ret_t0 (by rw [fl2]) (by rw [fl2]) F.out.2, rfl⟩
            · have F := Lib.hid (fin_all g R.out H6.out (show makeM 3 l = (q, e) by rw [make_only, R4.out, only_first (by rw [R3.out]; omega), R2.out]; rfl))
              have hcc2 : ¬ ((1 : Int) < (cc : Int)) := by omega
              clear hi g hm hcc1
              go_wp2_with fail
              go_ret2
              exact ⟨ret_t F.out.1 F.out.2, rfl⟩
        · obtain rfl : a = 5 := hi.trans g
          by_cases hp : p = 4
          · have hp1 : (p == 4) = true := by simp [hp]
            have F := Lib.hid (fin_all g R.out H6.out (show makeM 4 l = (4, 0) from make_fold ((join_4 l).trans R1.out) (by simp only [decideM, hp]; rfl)))
            clear hi g hp
            go_wp2_with fail
            go_ret2
            obtain ⟨rfl, rfl⟩ := Prod.mk.inj F.out.1
            exact ⟨ret_t0 (by rw [fl4]) (by rw [fl0]) F.out.2, rfl⟩
          · have hp1 : (p == 4) = false := by simp [hp]
            have F := Lib.hid (fin_all g R.out H6.out (show makeM 4 l = (0, 4) from make_fold ((join_4 l).trans R1.out) (by simp only [decideM, hp]; rfl)))
            clear hi g hp
            go_wp2_with fail
            go_ret2
            obtain ⟨rfl, rfl⟩ := Prod.mk.inj F.out.1
            exact ⟨ret_t0 (by rw [fl0]) (by rw [fl4]) F.out.2, rfl⟩
        · obtain rfl : a = 6 := hi.trans g
          by_cases hp : d = 4
          · have hp1 : (d == 4) = true := by simp [hp]
            have F := Lib.hid (fin_all g R.out H6.out (show makeM 5 l = (0, 4) from make_fold ((join_5 l).trans R1.out) (by simp only [decideM, hp]; rfl)))
            clear hi g hp
            go_wp2_with fail
            go_ret2
            obtain ⟨rfl, rfl⟩ := Prod.mk.inj F.out.1
            exact ⟨ret_t0 (by rw [fl0]) (by rw [fl4]) F.out.2, rfl⟩
          · have hp1 : (d == 4) = false := by simp [hp]
            have F := Lib.hid (fin_all g R.out H6.out (show makeM 5 l = (4, 0) from make_fold ((join_5 l).trans R1.out) (by simp only [decideM, hp]; rfl)))
            clear hi g hp
            go_wp2_with fail
            go_ret2
            obtain ⟨rfl, rfl⟩ := Prod.mk.inj F.out.1
            exact ⟨ret_t0 (by rw [fl4]) (by rw [fl0]) F.out.2, rfl⟩
      · have ha' : algB a = false := by simpa using ha
        have RB := Lib.hid (R.out.symm.trans (allK_bad1 ha' l))
        have n1 : (a == 1) = false := by rw [beq_eq_false_iff_ne]; rintro rfl; exact ha rfl
        have n2 : (a == 2) = false := by rw [beq_eq_false_iff_ne]; rintro rfl; exact ha rfl
        have n3 : (a == 3) = false := by rw [beq_eq_false_iff_ne]; rintro rfl; exact ha rfl
        have n4 : (a == 4) = false := by rw [beq_eq_false_iff_ne]; rintro rfl; exact ha rfl
        have n5 : (a == 5) = false := by rw [beq_eq_false_iff_ne]; rintro rfl; exact ha rfl
        have n6 : (a == 6) = false := by rw [beq_eq_false_iff_ne]; rintro rfl; exact ha rfl
        clear ha ha'
        go_wp2_with fail
        go_ret2
        obtain ⟨h1, h2⟩ := Prod.mk.inj RB.out
        obtain ⟨rfl, rfl⟩ := Prod.mk.inj h1
        exact ⟨ret_t0 (by rw [fl0]) (by rw [fl0]) h2, rfl⟩
end Go.Proofs.Ytjkigjgpdbedmaa
