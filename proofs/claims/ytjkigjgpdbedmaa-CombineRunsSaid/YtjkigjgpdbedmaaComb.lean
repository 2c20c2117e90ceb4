/- Package combine: each function over marks whose parts are quarters. -/
import Derived.Test.YtjkigjgpdbedmaaMarkRow
namespace Go.Proofs.Ytjkigjgpdbedmaa
set_option linter.unusedVariables false
open Go.RowKit
attribute [local go_sem] eq0 eq2 eq4 gt0 gt2 ord_eq ord_gt ord_lt run_max_fl

def algB (a : Int) : Bool := decide (1 ≤ a) && decide (a ≤ 6)
/-- An algorithm's number. -/
def algN (a : Fin 6) : Int := 1 + (a.val : Int)
theorem alg6 : ∀ a : Fin 6, a = 0 ∧ algN a = 1 ∨ a = 1 ∧ algN a = 2 ∨ a = 2 ∧ algN a = 3 ∨ a = 3 ∧ algN a = 4 ∨ a = 4 ∧ algN a = 5 ∨ a = 5 ∧ algN a = 6 := by decide +kernel
theorem ret_m {m : Mk} {p d : Fin 5} (h : (p, d) = m) : Ending.returned (.complex .f64 (fl p) (fl d)) = .returned (mcell m) := by rw [← h]; rfl

theorem ret_k {a b : Nat} {m : Mk} (h : a = fl m.1) (k : b = fl m.2) : Ending.returned (.complex .f64 a b) = .returned (mcell m) := by rw [h, k]; rfl
theorem only_two {j m : Mk} (h : ¬ j = (0, 0)) (k : ¬ m = (0, 0)) : onlyM j m = (2, 2) := by rw [onlyM, if_neg h, if_neg k]

set_option maxHeartbeats 800000 in
theorem cright_any (a : Int) (w : World) : Calls Try.prog 16 #[.int .i64 a] w fun z w' => z = .returned (.bool (algB a)) ∧ w = w' := by
  by_cases h1 : 1 ≤ a
  · by_cases h2 : a ≤ 6
    · go_enter Try.func16, Try.ntmps16
      go_wp2
      go_ret
      exact ⟨ret_bool (by simp [algB, h1, h2]), rfl⟩
    · go_enter Try.func16, Try.ntmps16
      go_wp2
      go_ret
      exact ⟨ret_bool (by simp [algB, h1, h2]), rfl⟩
  · go_enter Try.func16, Try.ntmps16
    go_wp2
    go_ret
    exact ⟨ret_bool (by unfold algB; rw [decide_eq_false (by omega)]; rfl), rfl⟩
set_option maxHeartbeats 800000 in
theorem first_any (p d q e : Fin 5) (w : World) : Calls Try.prog 30 #[.complex .f64 (fl p) (fl d), .complex .f64 (fl q) (fl e)] w fun z w' => z = .returned (mcell (firstM (p, d) (q, e))) ∧ w = w' := by
  by_cases h : (p == 0 && d == 0) = true
  · have hk : (p, d) = ((0, 0) : Mk) := by simpa using h
    go_enter Try.func30, Try.ntmps30
    go_wp2
    go_ret
    exact ⟨ret_m (by rw [hk]; rfl), rfl⟩
  · have hk : ¬ (p, d) = ((0, 0) : Mk) := by simpa using h
    have h' : (p == 0 && d == 0) = false := by simpa using h
    clear h
    go_enter Try.func30, Try.ntmps30
    go_wp2
    go_ret
    exact ⟨ret_m (by rw [firstM, if_neg hk]), rfl⟩
set_option maxHeartbeats 800000 in
theorem only_any (p d q e : Fin 5) (w : World) : Calls Try.prog 31 #[.complex .f64 (fl p) (fl d), .complex .f64 (fl q) (fl e)] w fun z w' => z = .returned (mcell (onlyM (p, d) (q, e))) ∧ w = w' := by
  by_cases h : (p == 0 && d == 0) = true
  · have hk : (p, d) = ((0, 0) : Mk) := by simpa using h
    go_enter Try.func31, Try.ntmps31
    go_wp2
    go_ret
    exact ⟨ret_m (by rw [hk]; rfl), rfl⟩
  · have hk : ¬ (p, d) = ((0, 0) : Mk) := by simpa using h
    have h' : (p == 0 && d == 0) = false := by simpa using h
    clear h
    by_cases g : (q == 0 && e == 0) = true
    · have gk : (q, e) = ((0, 0) : Mk) := by simpa using g
      go_enter Try.func31, Try.ntmps31
      go_wp2
      go_ret
      exact ⟨ret_m (by rw [onlyM, if_neg hk, if_pos gk]), rfl⟩
    · have gk : ¬ (q, e) = ((0, 0) : Mk) := by simpa using g
      have g' : (q == 0 && e == 0) = false := by simpa using g
      clear g
      go_enter Try.func31, Try.ntmps31
      go_wp2
      go_ret
      exact ⟨ret_k (by rw [only_two hk gk, fl2]) (by rw [only_two hk gk, fl2]), rfl⟩
set_option maxHeartbeats 3200000 in
theorem sure_any (p d : Fin 5) (w : World) : Calls Try.prog 33 #[.complex .f64 (fl p) (fl d)] w fun z w' => z = .returned (mcell (sureM (p, d))) ∧ w = w' := by
  obtain rfl | rfl | rfl | rfl | rfl := five p
  all_goals
    obtain rfl | rfl | rfl | rfl | rfl := five d
    all_goals
      go_enter Try.func33, Try.ntmps33
      go_wp2
      go_ret
      exact ⟨ret_k (by decide +kernel) (by decide +kernel), rfl⟩
set_option maxHeartbeats 800000 in
theorem unless_any (p a b c d : Fin 5) (w : World) : Calls Try.prog 34 #[.float .f64 (fl p), .complex .f64 (fl a) (fl b), .complex .f64 (fl c) (fl d)] w fun z w' => z = .returned (mcell (if p = 4 then (a, b) else (c, d))) ∧ w = w' := by
  by_cases h : p = 4
  · have hb : (p == 4) = true := by simp [h]
    rw [if_pos h]
    clear h
    go_enter Try.func34, Try.ntmps34
    go_wp2
    go_ret
    exact ⟨rfl, rfl⟩
  · have hb : (p == 4) = false := by simp [h]
    rw [if_neg h]
    clear h
    go_enter Try.func34, Try.ntmps34
    go_wp2
    go_ret
    exact ⟨rfl, rfl⟩
set_option maxHeartbeats 800000 in
theorem step_any (a : Fin 6) (p d q e : Fin 5) (w : World) : Calls Try.prog 18 #[.int .i64 (algN a), .complex .f64 (fl p) (fl d), .complex .f64 (fl q) (fl e)] w fun z w' => z = .returned (mcell (stepM a (p, d) (q, e))) ∧ w = w' := by
  have c1 := Lib.hid (join_any p d q e)
  have c2 := Lib.hid (first_any p d q e)
  have c3 := Lib.hid (only_any p d q e)
  obtain ⟨rfl, h⟩ | ⟨rfl, h⟩ | ⟨rfl, h⟩ | ⟨rfl, h⟩ | ⟨rfl, h⟩ | ⟨rfl, h⟩ := alg6 a
  all_goals
    rw [h]
    clear h
    go_enter Try.func18, Try.ntmps18
    go_wp2_with fail
    first
      | refine (c1.out _).mono ?_
      | refine (c2.out _).mono ?_
      | refine (c3.out _).mono ?_
    rintro z w' ⟨rfl, rfl⟩
    go_wp2
    go_ret
    exact ⟨rfl, rfl⟩
set_option maxHeartbeats 1600000 in
theorem decide_any (a : Fin 6) (p d : Fin 5) (w : World) : Calls Try.prog 23 #[.int .i64 (algN a), .complex .f64 (fl p) (fl d)] w fun z w' => z = .returned (mcell (decideM a (p, d))) ∧ w = w' := by
  have u1 := unless_any p 4 0 0 4
  have u2 := unless_any d 0 4 4 0
  rw [fl0, fl4] at u1
  rw [fl0, fl4] at u2
  generalize hm : (if p = 4 then ((4, 0) : Mk) else (0, 4)) = m at u1
  generalize hk : (if d = 4 then ((0, 4) : Mk) else (4, 0)) = k at u2
  have HM := Lib.hid hm
  have HK := Lib.hid hk
  clear hm hk
  have c1 := Lib.hid (over_any p d)
  have c2 := Lib.hid (turn_any p d)
  have c3 := Lib.hid (over_any d p)
  have c4 := Lib.hid (turn_any (overP d p) (overD d p))
  have c5 := Lib.hid (sure_any p d)
  have c6 := Lib.hid u1
  have c7 := Lib.hid u2
  clear u1 u2
  obtain ⟨rfl, h⟩ | ⟨rfl, h⟩ | ⟨rfl, h⟩ | ⟨rfl, h⟩ | ⟨rfl, h⟩ | ⟨rfl, h⟩ := alg6 a
  all_goals
    rw [h]
    clear h
    go_enter Try.func23, Try.ntmps23
    go_wp2_with fail
  · refine (c1.out _).mono ?_
    rintro z w' ⟨rfl, rfl⟩
    go_wp2
    go_ret
    exact ⟨rfl, rfl⟩
  · refine (c2.out _).mono ?_
    rintro z w' ⟨rfl, rfl⟩
    go_wp2_with fail
    refine (c3.out _).mono ?_
    rintro z w' ⟨rfl, rfl⟩
    go_wp2_with fail
    refine (c4.out _).mono ?_
    rintro z w' ⟨rfl, rfl⟩
    go_wp2
    go_ret
    exact ⟨rfl, rfl⟩
  · go_ret
    exact ⟨rfl, rfl⟩
  · refine (c5.out _).mono ?_
    rintro z w' ⟨rfl, rfl⟩
    go_wp2
    go_ret
    exact ⟨rfl, rfl⟩
  · refine (c6.out _).mono ?_
    rintro z w' ⟨rfl, rfl⟩
    go_wp2
    go_ret
    exact ⟨congrArg (fun m => Ending.returned (mcell m)) HM.out.symm, rfl⟩
  · refine (c7.out _).mono ?_
    rintro z w' ⟨rfl, rfl⟩
    go_wp2
    go_ret
    exact ⟨congrArg (fun m => Ending.returned (mcell m)) HK.out.symm, rfl⟩
set_option maxHeartbeats 800000 in
theorem allright_any {w : World} {B n c : Nat} {A : Option Addr} {l : List Mk} (h : Sl w B A n c (mv l)) :
    Calls Try.prog 22 #[.slice A n c] w fun z w' => z = .returned (.bool (l.all rightK)) ∧ w = w' := by
  have hcap := h.cap
  have hle := h.le
  unfold maxLen at hcap
  have H := Lib.hid h
  have HL := Lib.hid h.mlen
  clear h
  go_enter Try.func22, Try.ntmps22
  go_wp2_with fail
  go_loop [7] (fun i => ∃ k : Nat, k ≤ n ∧ i = .int .i64 k ∧ (l.take k).all rightK = true) (fun i => n - (intOf i).toNat)
  case atStart => exact ⟨0, Nat.zero_le _, rfl, rfl⟩
  case round =>
    obtain ⟨k, hk, rfl, ht⟩ := hrel
    have HT := Lib.hid ht
    clear ht
    by_cases hlt : k < n
    · obtain ⟨b, o, p, d, rfl, _, hx, hc⟩ := H.out.mark hlt
      have HX := Lib.hid hx
      clear hx
      have c1 := mright_any p d
      by_cases hr : rightM p d = true
      · rw [hr] at c1
        have C1 := Lib.hid c1
        have HR := Lib.hid hr
        clear c1 hr
        go_wp2_with fail
        refine (C1.out _).mono ?_
        rintro z w' ⟨rfl, rfl⟩
        go_wp2_with fail
        go_round
        case rel =>
          refine ⟨k + 1, by omega, by go_num, ?_⟩
          obtain ⟨hk', e⟩ := List.getElem?_eq_some_iff.1 HX.out
          rw [List.take_succ_eq_append_getElem hk', e, List.all_append, HT.out]
          simpa [rightK] using HR.out
        case measure => simp [intOf]; omega
      · have hr' : rightM p d = false := by simpa using hr
        rw [hr'] at c1
        have C1 := Lib.hid c1
        have HR := Lib.hid hr'
        clear c1 hr hr'
        go_wp2_with fail
        refine (C1.out _).mono ?_
        rintro z w' ⟨rfl, rfl⟩
        go_wp2_with fail
        go_ret
        refine ⟨ret_bool ?_, rfl⟩
        symm
        rw [List.all_eq_false]
        exact ⟨(p, d), List.mem_of_getElem? HX.out, by simpa [rightK] using HR.out⟩
    · obtain rfl : k = n := by omega
      go_wp2_with fail
      go_ret
      refine ⟨ret_bool ?_, rfl⟩
      have := HT.out
      rw [List.take_of_length_le (by rw [HL.out]; omega)] at this
      exact this.symm

/-- What All answers. -/
def allK (a : Int) (l : List Mk) : Mk × Int := if algB a && l.all rightK then (makeM (if a = 2 then 1 else if a = 3 then 2 else if a = 4 then 3 else if a = 5 then 4 else if a = 6 then 5 else 0) l, 0) else ((0, 0), 1)
theorem allK_right (a : Fin 6) {l : List Mk} (h : Six l) : allK (algN a) l = (makeM a l, 0) := by
  have hr : l.all rightK = true := List.all_eq_true.2 h
  unfold allK
  rw [hr]
  obtain ⟨rfl, e⟩ | ⟨rfl, e⟩ | ⟨rfl, e⟩ | ⟨rfl, e⟩ | ⟨rfl, e⟩ | ⟨rfl, e⟩ := alg6 a <;> rw [e] <;> rfl
theorem alg_of {a : Int} (h : algB a = true) : ∃ i : Fin 6, a = algN i := by
  simp only [algB, Bool.and_eq_true, decide_eq_true_eq] at h
  refine ⟨⟨(a - 1).toNat, by omega⟩, ?_⟩
  unfold algN
  simp only
  omega
set_option maxHeartbeats 800000 in
theorem all_six {w : World} {B n c : Nat} {A : Option Addr} {l : List Mk} (a : Fin 6) (h : Sl w B A n c (mv l)) (h6 : Six l) :
    Calls Try.prog 11 #[.int .i64 (algN a), .slice A n c] w fun z w' => z = .returned (.tuple #[mcell (makeM a l), .int .i64 0]) ∧ w = w' := by
  have hcap := h.cap
  have hle := h.le
  unfold maxLen at hcap
  have hall := fun w => (fun (h : Sl w B A n c (mv l)) => allright_any h)
  rw [List.all_eq_true.2 h6] at hall
  have hr := cright_any (algN a)
  have hb : algB (algN a) = true := by obtain ⟨rfl, e⟩ | ⟨rfl, e⟩ | ⟨rfl, e⟩ | ⟨rfl, e⟩ | ⟨rfl, e⟩ | ⟨rfl, e⟩ := alg6 a <;> rfl
  rw [hb] at hr
  have HALL := Lib.hid (hall w h)
  have HR := Lib.hid hr
  have H := Lib.hid h
  have HL := Lib.hid h.mlen
  clear h hall hr hb
  generalize hn : algN a = x at *
  have HN := Lib.hid hn
  clear hn
  go_enter Try.func11, Try.ntmps11
  go_wp2_with fail
  refine (HR.out _).mono ?_
  rintro z w' ⟨rfl, rfl⟩
  go_wp2_with fail
  refine HALL.out.mono ?_
  rintro z w' ⟨rfl, rfl⟩
  go_wp2_with fail
  go_loop [6, 19] (fun j i => ∃ k : Nat, k ≤ n ∧ i = .int .i64 k ∧ ∃ p d : Fin 5, j = .complex .f64 (fl p) (fl d) ∧ foldM a (l.take k) = (p, d)) (fun _ i => n - (intOf i).toNat)
  case atStart => exact ⟨0, Nat.zero_le _, rfl, 0, 0, by rw [fl0], rfl⟩
  case round =>
    obtain ⟨k, hk, rfl, p, d, rfl, ht⟩ := hrel
    have HT := Lib.hid ht
    clear ht
    by_cases hlt : k < n
    · obtain ⟨b, o, q, e, rfl, _, hx, hc⟩ := H.out.mark hlt
      have HX := Lib.hid hx
      clear hx
      have c1 := step_any a p d q e
      rw [HN.out] at c1
      have C1 := Lib.hid c1
      clear c1
      go_wp2_with fail
      refine (C1.out _).mono ?_
      rintro z w' ⟨rfl, rfl⟩
      go_wp2_with fail
      go_round
      case rel => exact ⟨k + 1, by omega, by go_num, _, _, rfl, by rw [fold_take a HX.out, HT.out]⟩
      case measure => simp [intOf]; omega
    · obtain rfl : k = n := by omega
      have c1 := decide_any a p d
      rw [HN.out] at c1
      have C1 := Lib.hid c1
      clear c1
      go_wp2_with fail
      refine (C1.out _).mono ?_
      rintro z w' ⟨rfl, rfl⟩
      go_wp2_with fail
      go_ret2
      have := HT.out
      rw [List.take_of_length_le (by rw [HL.out]; omega)] at this
      exact ⟨by unfold makeM; rw [this]; rfl, rfl⟩
theorem all_to {w : World} {B n c : Nat} {A : Option Addr} {l : List Mk} (a : Fin 6) {p d : Fin 5} (h : Sl w B A n c (mv l)) (h6 : Six l) (hm : makeM a l = (p, d)) :
    Calls Try.prog 11 #[.int .i64 (1 + (a.val : Int)), .slice A n c] w fun z w' => z = .returned (.tuple #[.complex .f64 (fl p) (fl d), .int .i64 0]) ∧ w = w' := by
  have := all_six a h h6
  rw [hm] at this
  exact this
end Go.Proofs.Ytjkigjgpdbedmaa
