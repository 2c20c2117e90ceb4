/- CombineOne: the walk, 36 closed cases. Written by gen5one.py. -/
import Derived.Test.YtjkigjgpdbedmaaCombKit
namespace Go.Proofs.Ytjkigjgpdbedmaa
set_option linter.unusedVariables false
open Go.RowKit
attribute [local go_sem] eq0 eq2 eq4 gt0 gt2 ord_eq ord_gt ord_lt run_max_fl

set_option maxHeartbeats 800000 in
theorem one_0_0 (g i : Int) (w : World) (c0 : ∀ w, Calls Try.prog 13 #[.int .i64 g, .int .i64 0, .int .i64 5] w fun e w' => e = .returned (.int .i64 0) ∧ w = w')
    (c1 : ∀ w, Calls Try.prog 21 #[.int .i64 i] w fun e w' => e = .returned (.complex .f64 (fl 0) (fl 0)) ∧ w = w') :
    Calls Try.prog 10 #[.int .i64 g, .int .i64 i] w fun z w' => z = .returned (.bool true) ∧ Below w.heap.size w w' := by
  have C2 := Lib.hid (fun w => all_at (x := 1) 0 (by decide +kernel) (lit1 w 0 0) (six1 (by decide +kernel)) (show makeM 0 [(0, 0)] = (0, 0) from by decide +kernel))
  have C3 := Lib.hid (fun w => all_at (x := 1) 0 (by decide +kernel) (lit2 w 0 0 0 0) (six2 (by decide +kernel) (by decide +kernel)) (show makeM 0 [(0, 0), (0, 0)] = (0, 0) from by decide +kernel))
  have D := Lib.hid (fun (w w' : World) (o : Obj) (h : Below w.heap.size w w') => h.alloc h.size o)
  have C0 := Lib.hid c0
  have C1 := Lib.hid c1
  clear c0 c1
  go_enter Try.func10, Try.ntmps10
  go_wp2_with fail
  refine (C0.out _).mono ?_
  rintro x w' ⟨rfl, rfl⟩
  go_wp2_with fail
  refine (C1.out _).mono ?_
  rintro x w' ⟨rfl, rfl⟩
  go_wp2_with fail
  refine (C2.out w).mono ?_
  rintro e w' ⟨rfl, rfl⟩
  have D1 := Lib.hid (D.out w w (.cells #[.complex .f64 (fl 0) (fl 0)] 23) (Below.refl _ _))
  generalize w.alloc (.cells #[.complex .f64 (fl 0) (fl 0)] 23) = w1 at *
  go_wp2_with fail
  refine (C3.out w1).mono ?_
  rintro e w' ⟨rfl, rfl⟩
  have D2 := Lib.hid (D.out w w1 (.cells #[.complex .f64 (fl 0) (fl 0), .complex .f64 (fl 0) (fl 0)] 23) D1.out)
  clear D1
  generalize w1.alloc (.cells #[.complex .f64 (fl 0) (fl 0), .complex .f64 (fl 0) (fl 0)] 23) = w2 at *
  go_wp2_with fail
  refine (runs_any _).mono ?_
  rintro e w3 ⟨rfl, hb3⟩
  have D3 := Lib.hid (below_step D2.out hb3)
  clear hb3
  go_wp2_with fail
  go_ret
  exact ⟨rfl, D3.out⟩
set_option maxHeartbeats 800000 in
theorem one_0_1 (g i : Int) (w : World) (c0 : ∀ w, Calls Try.prog 13 #[.int .i64 g, .int .i64 0, .int .i64 5] w fun e w' => e = .returned (.int .i64 0) ∧ w = w')
    (c1 : ∀ w, Calls Try.prog 21 #[.int .i64 i] w fun e w' => e = .returned (.complex .f64 (fl 4) (fl 0)) ∧ w = w') :
    Calls Try.prog 10 #[.int .i64 g, .int .i64 i] w fun z w' => z = .returned (.bool true) ∧ Below w.heap.size w w' := by
  have C2 := Lib.hid (fun w => all_at (x := 1) 0 (by decide +kernel) (lit1 w 4 0) (six1 (by decide +kernel)) (show makeM 0 [(4, 0)] = (4, 0) from by decide +kernel))
  have C3 := Lib.hid (fun w => all_at (x := 1) 0 (by decide +kernel) (lit2 w 4 0 4 0) (six2 (by decide +kernel) (by decide +kernel)) (show makeM 0 [(4, 0), (4, 0)] = (4, 0) from by decide +kernel))
  have D := Lib.hid (fun (w w' : World) (o : Obj) (h : Below w.heap.size w w') => h.alloc h.size o)
  have C0 := Lib.hid c0
  have C1 := Lib.hid c1
  clear c0 c1
  go_enter Try.func10, Try.ntmps10
  go_wp2_with fail
  refine (C0.out _).mono ?_
  rintro x w' ⟨rfl, rfl⟩
  go_wp2_with fail
  refine (C1.out _).mono ?_
  rintro x w' ⟨rfl, rfl⟩
  go_wp2_with fail
  refine (C2.out w).mono ?_
  rintro e w' ⟨rfl, rfl⟩
  have D1 := Lib.hid (D.out w w (.cells #[.complex .f64 (fl 4) (fl 0)] 23) (Below.refl _ _))
  generalize w.alloc (.cells #[.complex .f64 (fl 4) (fl 0)] 23) = w1 at *
  go_wp2_with fail
  refine (C3.out w1).mono ?_
  rintro e w' ⟨rfl, rfl⟩
  have D2 := Lib.hid (D.out w w1 (.cells #[.complex .f64 (fl 4) (fl 0), .complex .f64 (fl 4) (fl 0)] 23) D1.out)
  clear D1
  generalize w1.alloc (.cells #[.complex .f64 (fl 4) (fl 0), .complex .f64 (fl 4) (fl 0)] 23) = w2 at *
  go_wp2_with fail
  refine (runs_any _).mono ?_
  rintro e w3 ⟨rfl, hb3⟩
  have D3 := Lib.hid (below_step D2.out hb3)
  clear hb3
  go_wp2_with fail
  go_ret
  exact ⟨rfl, D3.out⟩
set_option maxHeartbeats 800000 in
theorem one_0_2 (g i : Int) (w : World) (c0 : ∀ w, Calls Try.prog 13 #[.int .i64 g, .int .i64 0, .int .i64 5] w fun e w' => e = .returned (.int .i64 0) ∧ w = w')
    (c1 : ∀ w, Calls Try.prog 21 #[.int .i64 i] w fun e w' => e = .returned (.complex .f64 (fl 0) (fl 4)) ∧ w = w') :
    Calls Try.prog 10 #[.int .i64 g, .int .i64 i] w fun z w' => z = .returned (.bool true) ∧ Below w.heap.size w w' := by
  have C2 := Lib.hid (fun w => all_at (x := 1) 0 (by decide +kernel) (lit1 w 0 4) (six1 (by decide +kernel)) (show makeM 0 [(0, 4)] = (0, 4) from by decide +kernel))
  have C3 := Lib.hid (fun w => all_at (x := 1) 0 (by decide +kernel) (lit2 w 0 4 0 4) (six2 (by decide +kernel) (by decide +kernel)) (show makeM 0 [(0, 4), (0, 4)] = (0, 4) from by decide +kernel))
  have D := Lib.hid (fun (w w' : World) (o : Obj) (h : Below w.heap.size w w') => h.alloc h.size o)
  have C0 := Lib.hid c0
  have C1 := Lib.hid c1
  clear c0 c1
  go_enter Try.func10, Try.ntmps10
  go_wp2_with fail
  refine (C0.out _).mono ?_
  rintro x w' ⟨rfl, rfl⟩
  go_wp2_with fail
  refine (C1.out _).mono ?_
  rintro x w' ⟨rfl, rfl⟩
  go_wp2_with fail
  refine (C2.out w).mono ?_
  rintro e w' ⟨rfl, rfl⟩
  have D1 := Lib.hid (D.out w w (.cells #[.complex .f64 (fl 0) (fl 4)] 23) (Below.refl _ _))
  generalize w.alloc (.cells #[.complex .f64 (fl 0) (fl 4)] 23) = w1 at *
  go_wp2_with fail
  refine (C3.out w1).mono ?_
  rintro e w' ⟨rfl, rfl⟩
  have D2 := Lib.hid (D.out w w1 (.cells #[.complex .f64 (fl 0) (fl 4), .complex .f64 (fl 0) (fl 4)] 23) D1.out)
  clear D1
  generalize w1.alloc (.cells #[.complex .f64 (fl 0) (fl 4), .complex .f64 (fl 0) (fl 4)] 23) = w2 at *
  go_wp2_with fail
  refine (runs_any _).mono ?_
  rintro e w3 ⟨rfl, hb3⟩
  have D3 := Lib.hid (below_step D2.out hb3)
  clear hb3
  go_wp2_with fail
  go_ret
  exact ⟨rfl, D3.out⟩
set_option maxHeartbeats 800000 in
theorem one_0_3 (g i : Int) (w : World) (c0 : ∀ w, Calls Try.prog 13 #[.int .i64 g, .int .i64 0, .int .i64 5] w fun e w' => e = .returned (.int .i64 0) ∧ w = w')
    (c1 : ∀ w, Calls Try.prog 21 #[.int .i64 i] w fun e w' => e = .returned (.complex .f64 (fl 2) (fl 0)) ∧ w = w') :
    Calls Try.prog 10 #[.int .i64 g, .int .i64 i] w fun z w' => z = .returned (.bool true) ∧ Below w.heap.size w w' := by
  have C2 := Lib.hid (fun w => all_at (x := 1) 0 (by decide +kernel) (lit1 w 2 0) (six1 (by decide +kernel)) (show makeM 0 [(2, 0)] = (2, 0) from by decide +kernel))
  have C3 := Lib.hid (fun w => all_at (x := 1) 0 (by decide +kernel) (lit2 w 2 0 2 0) (six2 (by decide +kernel) (by decide +kernel)) (show makeM 0 [(2, 0), (2, 0)] = (2, 0) from by decide +kernel))
  have D := Lib.hid (fun (w w' : World) (o : Obj) (h : Below w.heap.size w w') => h.alloc h.size o)
  have C0 := Lib.hid c0
  have C1 := Lib.hid c1
  clear c0 c1
  go_enter Try.func10, Try.ntmps10
  go_wp2_with fail
  refine (C0.out _).mono ?_
  rintro x w' ⟨rfl, rfl⟩
  go_wp2_with fail
  refine (C1.out _).mono ?_
  rintro x w' ⟨rfl, rfl⟩
  go_wp2_with fail
  refine (C2.out w).mono ?_
  rintro e w' ⟨rfl, rfl⟩
  have D1 := Lib.hid (D.out w w (.cells #[.complex .f64 (fl 2) (fl 0)] 23) (Below.refl _ _))
  generalize w.alloc (.cells #[.complex .f64 (fl 2) (fl 0)] 23) = w1 at *
  go_wp2_with fail
  refine (C3.out w1).mono ?_
  rintro e w' ⟨rfl, rfl⟩
  have D2 := Lib.hid (D.out w w1 (.cells #[.complex .f64 (fl 2) (fl 0), .complex .f64 (fl 2) (fl 0)] 23) D1.out)
  clear D1
  generalize w1.alloc (.cells #[.complex .f64 (fl 2) (fl 0), .complex .f64 (fl 2) (fl 0)] 23) = w2 at *
  go_wp2_with fail
  refine (runs_any _).mono ?_
  rintro e w3 ⟨rfl, hb3⟩
  have D3 := Lib.hid (below_step D2.out hb3)
  clear hb3
  go_wp2_with fail
  go_ret
  exact ⟨rfl, D3.out⟩
set_option maxHeartbeats 800000 in
theorem one_0_4 (g i : Int) (w : World) (c0 : ∀ w, Calls Try.prog 13 #[.int .i64 g, .int .i64 0, .int .i64 5] w fun e w' => e = .returned (.int .i64 0) ∧ w = w')
    (c1 : ∀ w, Calls Try.prog 21 #[.int .i64 i] w fun e w' => e = .returned (.complex .f64 (fl 0) (fl 2)) ∧ w = w') :
    Calls Try.prog 10 #[.int .i64 g, .int .i64 i] w fun z w' => z = .returned (.bool true) ∧ Below w.heap.size w w' := by
  have C2 := Lib.hid (fun w => all_at (x := 1) 0 (by decide +kernel) (lit1 w 0 2) (six1 (by decide +kernel)) (show makeM 0 [(0, 2)] = (0, 2) from by decide +kernel))
  have C3 := Lib.hid (fun w => all_at (x := 1) 0 (by decide +kernel) (lit2 w 0 2 0 2) (six2 (by decide +kernel) (by decide +kernel)) (show makeM 0 [(0, 2), (0, 2)] = (0, 2) from by decide +kernel))
  have D := Lib.hid (fun (w w' : World) (o : Obj) (h : Below w.heap.size w w') => h.alloc h.size o)
  have C0 := Lib.hid c0
  have C1 := Lib.hid c1
  clear c0 c1
  go_enter Try.func10, Try.ntmps10
  go_wp2_with fail
  refine (C0.out _).mono ?_
  rintro x w' ⟨rfl, rfl⟩
  go_wp2_with fail
  refine (C1.out _).mono ?_
  rintro x w' ⟨rfl, rfl⟩
  go_wp2_with fail
  refine (C2.out w).mono ?_
  rintro e w' ⟨rfl, rfl⟩
  have D1 := Lib.hid (D.out w w (.cells #[.complex .f64 (fl 0) (fl 2)] 23) (Below.refl _ _))
  generalize w.alloc (.cells #[.complex .f64 (fl 0) (fl 2)] 23) = w1 at *
  go_wp2_with fail
  refine (C3.out w1).mono ?_
  rintro e w' ⟨rfl, rfl⟩
  have D2 := Lib.hid (D.out w w1 (.cells #[.complex .f64 (fl 0) (fl 2), .complex .f64 (fl 0) (fl 2)] 23) D1.out)
  clear D1
  generalize w1.alloc (.cells #[.complex .f64 (fl 0) (fl 2), .complex .f64 (fl 0) (fl 2)] 23) = w2 at *
  go_wp2_with fail
  refine (runs_any _).mono ?_
  rintro e w3 ⟨rfl, hb3⟩
  have D3 := Lib.hid (below_step D2.out hb3)
  clear hb3
  go_wp2_with fail
  go_ret
  exact ⟨rfl, D3.out⟩
set_option maxHeartbeats 800000 in
theorem one_0_5 (g i : Int) (w : World) (c0 : ∀ w, Calls Try.prog 13 #[.int .i64 g, .int .i64 0, .int .i64 5] w fun e w' => e = .returned (.int .i64 0) ∧ w = w')
    (c1 : ∀ w, Calls Try.prog 21 #[.int .i64 i] w fun e w' => e = .returned (.complex .f64 (fl 2) (fl 2)) ∧ w = w') :
    Calls Try.prog 10 #[.int .i64 g, .int .i64 i] w fun z w' => z = .returned (.bool true) ∧ Below w.heap.size w w' := by
  have C2 := Lib.hid (fun w => all_at (x := 1) 0 (by decide +kernel) (lit1 w 2 2) (six1 (by decide +kernel)) (show makeM 0 [(2, 2)] = (2, 2) from by decide +kernel))
  have C3 := Lib.hid (fun w => all_at (x := 1) 0 (by decide +kernel) (lit2 w 2 2 2 2) (six2 (by decide +kernel) (by decide +kernel)) (show makeM 0 [(2, 2), (2, 2)] = (2, 2) from by decide +kernel))
  have D := Lib.hid (fun (w w' : World) (o : Obj) (h : Below w.heap.size w w') => h.alloc h.size o)
  have C0 := Lib.hid c0
  have C1 := Lib.hid c1
  clear c0 c1
  go_enter Try.func10, Try.ntmps10
  go_wp2_with fail
  refine (C0.out _).mono ?_
  rintro x w' ⟨rfl, rfl⟩
  go_wp2_with fail
  refine (C1.out _).mono ?_
  rintro x w' ⟨rfl, rfl⟩
  go_wp2_with fail
  refine (C2.out w).mono ?_
  rintro e w' ⟨rfl, rfl⟩
  have D1 := Lib.hid (D.out w w (.cells #[.complex .f64 (fl 2) (fl 2)] 23) (Below.refl _ _))
  generalize w.alloc (.cells #[.complex .f64 (fl 2) (fl 2)] 23) = w1 at *
  go_wp2_with fail
  refine (C3.out w1).mono ?_
  rintro e w' ⟨rfl, rfl⟩
  have D2 := Lib.hid (D.out w w1 (.cells #[.complex .f64 (fl 2) (fl 2), .complex .f64 (fl 2) (fl 2)] 23) D1.out)
  clear D1
  generalize w1.alloc (.cells #[.complex .f64 (fl 2) (fl 2), .complex .f64 (fl 2) (fl 2)] 23) = w2 at *
  go_wp2_with fail
  refine (runs_any _).mono ?_
  rintro e w3 ⟨rfl, hb3⟩
  have D3 := Lib.hid (below_step D2.out hb3)
  clear hb3
  go_wp2_with fail
  go_ret
  exact ⟨rfl, D3.out⟩
set_option maxHeartbeats 800000 in
theorem one_1_0 (g i : Int) (w : World) (c0 : ∀ w, Calls Try.prog 13 #[.int .i64 g, .int .i64 0, .int .i64 5] w fun e w' => e = .returned (.int .i64 1) ∧ w = w')
    (c1 : ∀ w, Calls Try.prog 21 #[.int .i64 i] w fun e w' => e = .returned (.complex .f64 (fl 0) (fl 0)) ∧ w = w') :
    Calls Try.prog 10 #[.int .i64 g, .int .i64 i] w fun z w' => z = .returned (.bool true) ∧ Below w.heap.size w w' := by
  have C2 := Lib.hid (fun w => all_at (x := 2) 1 (by decide +kernel) (lit1 w 0 0) (six1 (by decide +kernel)) (show makeM 1 [(0, 0)] = (0, 0) from by decide +kernel))
  have C3 := Lib.hid (fun w => all_at (x := 2) 1 (by decide +kernel) (lit2 w 0 0 0 0) (six2 (by decide +kernel) (by decide +kernel)) (show makeM 1 [(0, 0), (0, 0)] = (0, 0) from by decide +kernel))
  have D := Lib.hid (fun (w w' : World) (o : Obj) (h : Below w.heap.size w w') => h.alloc h.size o)
  have C0 := Lib.hid c0
  have C1 := Lib.hid c1
  clear c0 c1
  go_enter Try.func10, Try.ntmps10
  go_wp2_with fail
  refine (C0.out _).mono ?_
  rintro x w' ⟨rfl, rfl⟩
  go_wp2_with fail
  refine (C1.out _).mono ?_
  rintro x w' ⟨rfl, rfl⟩
  go_wp2_with fail
  refine (C2.out w).mono ?_
  rintro e w' ⟨rfl, rfl⟩
  have D1 := Lib.hid (D.out w w (.cells #[.complex .f64 (fl 0) (fl 0)] 23) (Below.refl _ _))
  generalize w.alloc (.cells #[.complex .f64 (fl 0) (fl 0)] 23) = w1 at *
  go_wp2_with fail
  refine (C3.out w1).mono ?_
  rintro e w' ⟨rfl, rfl⟩
  have D2 := Lib.hid (D.out w w1 (.cells #[.complex .f64 (fl 0) (fl 0), .complex .f64 (fl 0) (fl 0)] 23) D1.out)
  clear D1
  generalize w1.alloc (.cells #[.complex .f64 (fl 0) (fl 0), .complex .f64 (fl 0) (fl 0)] 23) = w2 at *
  go_wp2_with fail
  refine (runs_any _).mono ?_
  rintro e w3 ⟨rfl, hb3⟩
  have D3 := Lib.hid (below_step D2.out hb3)
  clear hb3
  go_wp2_with fail
  go_ret
  exact ⟨rfl, D3.out⟩
set_option maxHeartbeats 800000 in
theorem one_1_1 (g i : Int) (w : World) (c0 : ∀ w, Calls Try.prog 13 #[.int .i64 g, .int .i64 0, .int .i64 5] w fun e w' => e = .returned (.int .i64 1) ∧ w = w')
    (c1 : ∀ w, Calls Try.prog 21 #[.int .i64 i] w fun e w' => e = .returned (.complex .f64 (fl 4) (fl 0)) ∧ w = w') :
    Calls Try.prog 10 #[.int .i64 g, .int .i64 i] w fun z w' => z = .returned (.bool true) ∧ Below w.heap.size w w' := by
  have C2 := Lib.hid (fun w => all_at (x := 2) 1 (by decide +kernel) (lit1 w 4 0) (six1 (by decide +kernel)) (show makeM 1 [(4, 0)] = (4, 0) from by decide +kernel))
  have C3 := Lib.hid (fun w => all_at (x := 2) 1 (by decide +kernel) (lit2 w 4 0 4 0) (six2 (by decide +kernel) (by decide +kernel)) (show makeM 1 [(4, 0), (4, 0)] = (4, 0) from by decide +kernel))
  have D := Lib.hid (fun (w w' : World) (o : Obj) (h : Below w.heap.size w w') => h.alloc h.size o)
  have C0 := Lib.hid c0
  have C1 := Lib.hid c1
  clear c0 c1
  go_enter Try.func10, Try.ntmps10
  go_wp2_with fail
  refine (C0.out _).mono ?_
  rintro x w' ⟨rfl, rfl⟩
  go_wp2_with fail
  refine (C1.out _).mono ?_
  rintro x w' ⟨rfl, rfl⟩
  go_wp2_with fail
  refine (C2.out w).mono ?_
  rintro e w' ⟨rfl, rfl⟩
  have D1 := Lib.hid (D.out w w (.cells #[.complex .f64 (fl 4) (fl 0)] 23) (Below.refl _ _))
  generalize w.alloc (.cells #[.complex .f64 (fl 4) (fl 0)] 23) = w1 at *
  go_wp2_with fail
  refine (C3.out w1).mono ?_
  rintro e w' ⟨rfl, rfl⟩
  have D2 := Lib.hid (D.out w w1 (.cells #[.complex .f64 (fl 4) (fl 0), .complex .f64 (fl 4) (fl 0)] 23) D1.out)
  clear D1
  generalize w1.alloc (.cells #[.complex .f64 (fl 4) (fl 0), .complex .f64 (fl 4) (fl 0)] 23) = w2 at *
  go_wp2_with fail
  refine (runs_any _).mono ?_
  rintro e w3 ⟨rfl, hb3⟩
  have D3 := Lib.hid (below_step D2.out hb3)
  clear hb3
  go_wp2_with fail
  go_ret
  exact ⟨rfl, D3.out⟩
set_option maxHeartbeats 800000 in
theorem one_1_2 (g i : Int) (w : World) (c0 : ∀ w, Calls Try.prog 13 #[.int .i64 g, .int .i64 0, .int .i64 5] w fun e w' => e = .returned (.int .i64 1) ∧ w = w')
    (c1 : ∀ w, Calls Try.prog 21 #[.int .i64 i] w fun e w' => e = .returned (.complex .f64 (fl 0) (fl 4)) ∧ w = w') :
    Calls Try.prog 10 #[.int .i64 g, .int .i64 i] w fun z w' => z = .returned (.bool true) ∧ Below w.heap.size w w' := by
  have C2 := Lib.hid (fun w => all_at (x := 2) 1 (by decide +kernel) (lit1 w 0 4) (six1 (by decide +kernel)) (show makeM 1 [(0, 4)] = (0, 4) from by decide +kernel))
  have C3 := Lib.hid (fun w => all_at (x := 2) 1 (by decide +kernel) (lit2 w 0 4 0 4) (six2 (by decide +kernel) (by decide +kernel)) (show makeM 1 [(0, 4), (0, 4)] = (0, 4) from by decide +kernel))
  have D := Lib.hid (fun (w w' : World) (o : Obj) (h : Below w.heap.size w w') => h.alloc h.size o)
  have C0 := Lib.hid c0
  have C1 := Lib.hid c1
  clear c0 c1
  go_enter Try.func10, Try.ntmps10
  go_wp2_with fail
  refine (C0.out _).mono ?_
  rintro x w' ⟨rfl, rfl⟩
  go_wp2_with fail
  refine (C1.out _).mono ?_
  rintro x w' ⟨rfl, rfl⟩
  go_wp2_with fail
  refine (C2.out w).mono ?_
  rintro e w' ⟨rfl, rfl⟩
  have D1 := Lib.hid (D.out w w (.cells #[.complex .f64 (fl 0) (fl 4)] 23) (Below.refl _ _))
  generalize w.alloc (.cells #[.complex .f64 (fl 0) (fl 4)] 23) = w1 at *
  go_wp2_with fail
  refine (C3.out w1).mono ?_
  rintro e w' ⟨rfl, rfl⟩
  have D2 := Lib.hid (D.out w w1 (.cells #[.complex .f64 (fl 0) (fl 4), .complex .f64 (fl 0) (fl 4)] 23) D1.out)
  clear D1
  generalize w1.alloc (.cells #[.complex .f64 (fl 0) (fl 4), .complex .f64 (fl 0) (fl 4)] 23) = w2 at *
  go_wp2_with fail
  refine (runs_any _).mono ?_
  rintro e w3 ⟨rfl, hb3⟩
  have D3 := Lib.hid (below_step D2.out hb3)
  clear hb3
  go_wp2_with fail
  go_ret
  exact ⟨rfl, D3.out⟩
set_option maxHeartbeats 800000 in
theorem one_1_3 (g i : Int) (w : World) (c0 : ∀ w, Calls Try.prog 13 #[.int .i64 g, .int .i64 0, .int .i64 5] w fun e w' => e = .returned (.int .i64 1) ∧ w = w')
    (c1 : ∀ w, Calls Try.prog 21 #[.int .i64 i] w fun e w' => e = .returned (.complex .f64 (fl 2) (fl 0)) ∧ w = w') :
    Calls Try.prog 10 #[.int .i64 g, .int .i64 i] w fun z w' => z = .returned (.bool true) ∧ Below w.heap.size w w' := by
  have C2 := Lib.hid (fun w => all_at (x := 2) 1 (by decide +kernel) (lit1 w 2 0) (six1 (by decide +kernel)) (show makeM 1 [(2, 0)] = (2, 0) from by decide +kernel))
  have C3 := Lib.hid (fun w => all_at (x := 2) 1 (by decide +kernel) (lit2 w 2 0 2 0) (six2 (by decide +kernel) (by decide +kernel)) (show makeM 1 [(2, 0), (2, 0)] = (2, 0) from by decide +kernel))
  have D := Lib.hid (fun (w w' : World) (o : Obj) (h : Below w.heap.size w w') => h.alloc h.size o)
  have C0 := Lib.hid c0
  have C1 := Lib.hid c1
  clear c0 c1
  go_enter Try.func10, Try.ntmps10
  go_wp2_with fail
  refine (C0.out _).mono ?_
  rintro x w' ⟨rfl, rfl⟩
  go_wp2_with fail
  refine (C1.out _).mono ?_
  rintro x w' ⟨rfl, rfl⟩
  go_wp2_with fail
  refine (C2.out w).mono ?_
  rintro e w' ⟨rfl, rfl⟩
  have D1 := Lib.hid (D.out w w (.cells #[.complex .f64 (fl 2) (fl 0)] 23) (Below.refl _ _))
  generalize w.alloc (.cells #[.complex .f64 (fl 2) (fl 0)] 23) = w1 at *
  go_wp2_with fail
  refine (C3.out w1).mono ?_
  rintro e w' ⟨rfl, rfl⟩
  have D2 := Lib.hid (D.out w w1 (.cells #[.complex .f64 (fl 2) (fl 0), .complex .f64 (fl 2) (fl 0)] 23) D1.out)
  clear D1
  generalize w1.alloc (.cells #[.complex .f64 (fl 2) (fl 0), .complex .f64 (fl 2) (fl 0)] 23) = w2 at *
  go_wp2_with fail
  refine (runs_any _).mono ?_
  rintro e w3 ⟨rfl, hb3⟩
  have D3 := Lib.hid (below_step D2.out hb3)
  clear hb3
  go_wp2_with fail
  go_ret
  exact ⟨rfl, D3.out⟩
set_option maxHeartbeats 800000 in
theorem one_1_4 (g i : Int) (w : World) (c0 : ∀ w, Calls Try.prog 13 #[.int .i64 g, .int .i64 0, .int .i64 5] w fun e w' => e = .returned (.int .i64 1) ∧ w = w')
    (c1 : ∀ w, Calls Try.prog 21 #[.int .i64 i] w fun e w' => e = .returned (.complex .f64 (fl 0) (fl 2)) ∧ w = w') :
    Calls Try.prog 10 #[.int .i64 g, .int .i64 i] w fun z w' => z = .returned (.bool true) ∧ Below w.heap.size w w' := by
  have C2 := Lib.hid (fun w => all_at (x := 2) 1 (by decide +kernel) (lit1 w 0 2) (six1 (by decide +kernel)) (show makeM 1 [(0, 2)] = (0, 2) from by decide +kernel))
  have C3 := Lib.hid (fun w => all_at (x := 2) 1 (by decide +kernel) (lit2 w 0 2 0 2) (six2 (by decide +kernel) (by decide +kernel)) (show makeM 1 [(0, 2), (0, 2)] = (0, 2) from by decide +kernel))
  have D := Lib.hid (fun (w w' : World) (o : Obj) (h : Below w.heap.size w w') => h.alloc h.size o)
  have C0 := Lib.hid c0
  have C1 := Lib.hid c1
  clear c0 c1
  go_enter Try.func10, Try.ntmps10
  go_wp2_with fail
  refine (C0.out _).mono ?_
  rintro x w' ⟨rfl, rfl⟩
  go_wp2_with fail
  refine (C1.out _).mono ?_
  rintro x w' ⟨rfl, rfl⟩
  go_wp2_with fail
  refine (C2.out w).mono ?_
  rintro e w' ⟨rfl, rfl⟩
  have D1 := Lib.hid (D.out w w (.cells #[.complex .f64 (fl 0) (fl 2)] 23) (Below.refl _ _))
  generalize w.alloc (.cells #[.complex .f64 (fl 0) (fl 2)] 23) = w1 at *
  go_wp2_with fail
  refine (C3.out w1).mono ?_
  rintro e w' ⟨rfl, rfl⟩
  have D2 := Lib.hid (D.out w w1 (.cells #[.complex .f64 (fl 0) (fl 2), .complex .f64 (fl 0) (fl 2)] 23) D1.out)
  clear D1
  generalize w1.alloc (.cells #[.complex .f64 (fl 0) (fl 2), .complex .f64 (fl 0) (fl 2)] 23) = w2 at *
  go_wp2_with fail
  refine (runs_any _).mono ?_
  rintro e w3 ⟨rfl, hb3⟩
  have D3 := Lib.hid (below_step D2.out hb3)
  clear hb3
  go_wp2_with fail
  go_ret
  exact ⟨rfl, D3.out⟩
set_option maxHeartbeats 800000 in
theorem one_1_5 (g i : Int) (w : World) (c0 : ∀ w, Calls Try.prog 13 #[.int .i64 g, .int .i64 0, .int .i64 5] w fun e w' => e = .returned (.int .i64 1) ∧ w = w')
    (c1 : ∀ w, Calls Try.prog 21 #[.int .i64 i] w fun e w' => e = .returned (.complex .f64 (fl 2) (fl 2)) ∧ w = w') :
    Calls Try.prog 10 #[.int .i64 g, .int .i64 i] w fun z w' => z = .returned (.bool true) ∧ Below w.heap.size w w' := by
  have C2 := Lib.hid (fun w => all_at (x := 2) 1 (by decide +kernel) (lit1 w 2 2) (six1 (by decide +kernel)) (show makeM 1 [(2, 2)] = (2, 2) from by decide +kernel))
  have C3 := Lib.hid (fun w => all_at (x := 2) 1 (by decide +kernel) (lit2 w 2 2 2 2) (six2 (by decide +kernel) (by decide +kernel)) (show makeM 1 [(2, 2), (2, 2)] = (2, 2) from by decide +kernel))
  have D := Lib.hid (fun (w w' : World) (o : Obj) (h : Below w.heap.size w w') => h.alloc h.size o)
  have C0 := Lib.hid c0
  have C1 := Lib.hid c1
  clear c0 c1
  go_enter Try.func10, Try.ntmps10
  go_wp2_with fail
  refine (C0.out _).mono ?_
  rintro x w' ⟨rfl, rfl⟩
  go_wp2_with fail
  refine (C1.out _).mono ?_
  rintro x w' ⟨rfl, rfl⟩
  go_wp2_with fail
  refine (C2.out w).mono ?_
  rintro e w' ⟨rfl, rfl⟩
  have D1 := Lib.hid (D.out w w (.cells #[.complex .f64 (fl 2) (fl 2)] 23) (Below.refl _ _))
  generalize w.alloc (.cells #[.complex .f64 (fl 2) (fl 2)] 23) = w1 at *
  go_wp2_with fail
  refine (C3.out w1).mono ?_
  rintro e w' ⟨rfl, rfl⟩
  have D2 := Lib.hid (D.out w w1 (.cells #[.complex .f64 (fl 2) (fl 2), .complex .f64 (fl 2) (fl 2)] 23) D1.out)
  clear D1
  generalize w1.alloc (.cells #[.complex .f64 (fl 2) (fl 2), .complex .f64 (fl 2) (fl 2)] 23) = w2 at *
  go_wp2_with fail
  refine (runs_any _).mono ?_
  rintro e w3 ⟨rfl, hb3⟩
  have D3 := Lib.hid (below_step D2.out hb3)
  clear hb3
  go_wp2_with fail
  go_ret
  exact ⟨rfl, D3.out⟩
set_option maxHeartbeats 800000 in
theorem one_2_0 (g i : Int) (w : World) (c0 : ∀ w, Calls Try.prog 13 #[.int .i64 g, .int .i64 0, .int .i64 5] w fun e w' => e = .returned (.int .i64 2) ∧ w = w')
    (c1 : ∀ w, Calls Try.prog 21 #[.int .i64 i] w fun e w' => e = .returned (.complex .f64 (fl 0) (fl 0)) ∧ w = w') :
    Calls Try.prog 10 #[.int .i64 g, .int .i64 i] w fun z w' => z = .returned (.bool true) ∧ Below w.heap.size w w' := by
  have C2 := Lib.hid (fun w => all_at (x := 3) 2 (by decide +kernel) (lit1 w 0 0) (six1 (by decide +kernel)) (show makeM 2 [(0, 0)] = (0, 0) from by decide +kernel))
  have C3 := Lib.hid (fun w => all_at (x := 3) 2 (by decide +kernel) (lit2 w 0 0 0 0) (six2 (by decide +kernel) (by decide +kernel)) (show makeM 2 [(0, 0), (0, 0)] = (0, 0) from by decide +kernel))
  have D := Lib.hid (fun (w w' : World) (o : Obj) (h : Below w.heap.size w w') => h.alloc h.size o)
  have C0 := Lib.hid c0
  have C1 := Lib.hid c1
  clear c0 c1
  go_enter Try.func10, Try.ntmps10
  go_wp2_with fail
  refine (C0.out _).mono ?_
  rintro x w' ⟨rfl, rfl⟩
  go_wp2_with fail
  refine (C1.out _).mono ?_
  rintro x w' ⟨rfl, rfl⟩
  go_wp2_with fail
  refine (C2.out w).mono ?_
  rintro e w' ⟨rfl, rfl⟩
  have D1 := Lib.hid (D.out w w (.cells #[.complex .f64 (fl 0) (fl 0)] 23) (Below.refl _ _))
  generalize w.alloc (.cells #[.complex .f64 (fl 0) (fl 0)] 23) = w1 at *
  go_wp2_with fail
  refine (C3.out w1).mono ?_
  rintro e w' ⟨rfl, rfl⟩
  have D2 := Lib.hid (D.out w w1 (.cells #[.complex .f64 (fl 0) (fl 0), .complex .f64 (fl 0) (fl 0)] 23) D1.out)
  clear D1
  generalize w1.alloc (.cells #[.complex .f64 (fl 0) (fl 0), .complex .f64 (fl 0) (fl 0)] 23) = w2 at *
  go_wp2_with fail
  refine (runs_any _).mono ?_
  rintro e w3 ⟨rfl, hb3⟩
  have D3 := Lib.hid (below_step D2.out hb3)
  clear hb3
  go_wp2_with fail
  go_ret
  exact ⟨rfl, D3.out⟩
set_option maxHeartbeats 800000 in
theorem one_2_1 (g i : Int) (w : World) (c0 : ∀ w, Calls Try.prog 13 #[.int .i64 g, .int .i64 0, .int .i64 5] w fun e w' => e = .returned (.int .i64 2) ∧ w = w')
    (c1 : ∀ w, Calls Try.prog 21 #[.int .i64 i] w fun e w' => e = .returned (.complex .f64 (fl 4) (fl 0)) ∧ w = w') :
    Calls Try.prog 10 #[.int .i64 g, .int .i64 i] w fun z w' => z = .returned (.bool true) ∧ Below w.heap.size w w' := by
  have C2 := Lib.hid (fun w => all_at (x := 3) 2 (by decide +kernel) (lit1 w 4 0) (six1 (by decide +kernel)) (show makeM 2 [(4, 0)] = (4, 0) from by decide +kernel))
  have C3 := Lib.hid (fun w => all_at (x := 3) 2 (by decide +kernel) (lit2 w 4 0 4 0) (six2 (by decide +kernel) (by decide +kernel)) (show makeM 2 [(4, 0), (4, 0)] = (4, 0) from by decide +kernel))
  have D := Lib.hid (fun (w w' : World) (o : Obj) (h : Below w.heap.size w w') => h.alloc h.size o)
  have C0 := Lib.hid c0
  have C1 := Lib.hid c1
  clear c0 c1
  go_enter Try.func10, Try.ntmps10
  go_wp2_with fail
  refine (C0.out _).mono ?_
  rintro x w' ⟨rfl, rfl⟩
  go_wp2_with fail
  refine (C1.out _).mono ?_
  rintro x w' ⟨rfl, rfl⟩
  go_wp2_with fail
  refine (C2.out w).mono ?_
  rintro e w' ⟨rfl, rfl⟩
  have D1 := Lib.hid (D.out w w (.cells #[.complex .f64 (fl 4) (fl 0)] 23) (Below.refl _ _))
  generalize w.alloc (.cells #[.complex .f64 (fl 4) (fl 0)] 23) = w1 at *
  go_wp2_with fail
  refine (C3.out w1).mono ?_
  rintro e w' ⟨rfl, rfl⟩
  have D2 := Lib.hid (D.out w w1 (.cells #[.complex .f64 (fl 4) (fl 0), .complex .f64 (fl 4) (fl 0)] 23) D1.out)
  clear D1
  generalize w1.alloc (.cells #[.complex .f64 (fl 4) (fl 0), .complex .f64 (fl 4) (fl 0)] 23) = w2 at *
  go_wp2_with fail
  refine (runs_any _).mono ?_
  rintro e w3 ⟨rfl, hb3⟩
  have D3 := Lib.hid (below_step D2.out hb3)
  clear hb3
  go_wp2_with fail
  go_ret
  exact ⟨rfl, D3.out⟩
set_option maxHeartbeats 800000 in
theorem one_2_2 (g i : Int) (w : World) (c0 : ∀ w, Calls Try.prog 13 #[.int .i64 g, .int .i64 0, .int .i64 5] w fun e w' => e = .returned (.int .i64 2) ∧ w = w')
    (c1 : ∀ w, Calls Try.prog 21 #[.int .i64 i] w fun e w' => e = .returned (.complex .f64 (fl 0) (fl 4)) ∧ w = w') :
    Calls Try.prog 10 #[.int .i64 g, .int .i64 i] w fun z w' => z = .returned (.bool true) ∧ Below w.heap.size w w' := by
  have C2 := Lib.hid (fun w => all_at (x := 3) 2 (by decide +kernel) (lit1 w 0 4) (six1 (by decide +kernel)) (show makeM 2 [(0, 4)] = (0, 4) from by decide +kernel))
  have C3 := Lib.hid (fun w => all_at (x := 3) 2 (by decide +kernel) (lit2 w 0 4 0 4) (six2 (by decide +kernel) (by decide +kernel)) (show makeM 2 [(0, 4), (0, 4)] = (0, 4) from by decide +kernel))
  have D := Lib.hid (fun (w w' : World) (o : Obj) (h : Below w.heap.size w w') => h.alloc h.size o)
  have C0 := Lib.hid c0
  have C1 := Lib.hid c1
  clear c0 c1
  go_enter Try.func10, Try.ntmps10
  go_wp2_with fail
  refine (C0.out _).mono ?_
  rintro x w' ⟨rfl, rfl⟩
  go_wp2_with fail
  refine (C1.out _).mono ?_
  rintro x w' ⟨rfl, rfl⟩
  go_wp2_with fail
  refine (C2.out w).mono ?_
  rintro e w' ⟨rfl, rfl⟩
  have D1 := Lib.hid (D.out w w (.cells #[.complex .f64 (fl 0) (fl 4)] 23) (Below.refl _ _))
  generalize w.alloc (.cells #[.complex .f64 (fl 0) (fl 4)] 23) = w1 at *
  go_wp2_with fail
  refine (C3.out w1).mono ?_
  rintro e w' ⟨rfl, rfl⟩
  have D2 := Lib.hid (D.out w w1 (.cells #[.complex .f64 (fl 0) (fl 4), .complex .f64 (fl 0) (fl 4)] 23) D1.out)
  clear D1
  generalize w1.alloc (.cells #[.complex .f64 (fl 0) (fl 4), .complex .f64 (fl 0) (fl 4)] 23) = w2 at *
  go_wp2_with fail
  refine (runs_any _).mono ?_
  rintro e w3 ⟨rfl, hb3⟩
  have D3 := Lib.hid (below_step D2.out hb3)
  clear hb3
  go_wp2_with fail
  go_ret
  exact ⟨rfl, D3.out⟩
set_option maxHeartbeats 800000 in
theorem one_2_3 (g i : Int) (w : World) (c0 : ∀ w, Calls Try.prog 13 #[.int .i64 g, .int .i64 0, .int .i64 5] w fun e w' => e = .returned (.int .i64 2) ∧ w = w')
    (c1 : ∀ w, Calls Try.prog 21 #[.int .i64 i] w fun e w' => e = .returned (.complex .f64 (fl 2) (fl 0)) ∧ w = w') :
    Calls Try.prog 10 #[.int .i64 g, .int .i64 i] w fun z w' => z = .returned (.bool true) ∧ Below w.heap.size w w' := by
  have C2 := Lib.hid (fun w => all_at (x := 3) 2 (by decide +kernel) (lit1 w 2 0) (six1 (by decide +kernel)) (show makeM 2 [(2, 0)] = (2, 0) from by decide +kernel))
  have C3 := Lib.hid (fun w => all_at (x := 3) 2 (by decide +kernel) (lit2 w 2 0 2 0) (six2 (by decide +kernel) (by decide +kernel)) (show makeM 2 [(2, 0), (2, 0)] = (2, 0) from by decide +kernel))
  have D := Lib.hid (fun (w w' : World) (o : Obj) (h : Below w.heap.size w w') => h.alloc h.size o)
  have C0 := Lib.hid c0
  have C1 := Lib.hid c1
  clear c0 c1
  go_enter Try.func10, Try.ntmps10
  go_wp2_with fail
  refine (C0.out _).mono ?_
  rintro x w' ⟨rfl, rfl⟩
  go_wp2_with fail
  refine (C1.out _).mono ?_
  rintro x w' ⟨rfl, rfl⟩
  go_wp2_with fail
  refine (C2.out w).mono ?_
  rintro e w' ⟨rfl, rfl⟩
  have D1 := Lib.hid (D.out w w (.cells #[.complex .f64 (fl 2) (fl 0)] 23) (Below.refl _ _))
  generalize w.alloc (.cells #[.complex .f64 (fl 2) (fl 0)] 23) = w1 at *
  go_wp2_with fail
  refine (C3.out w1).mono ?_
  rintro e w' ⟨rfl, rfl⟩
  have D2 := Lib.hid (D.out w w1 (.cells #[.complex .f64 (fl 2) (fl 0), .complex .f64 (fl 2) (fl 0)] 23) D1.out)
  clear D1
  generalize w1.alloc (.cells #[.complex .f64 (fl 2) (fl 0), .complex .f64 (fl 2) (fl 0)] 23) = w2 at *
  go_wp2_with fail
  refine (runs_any _).mono ?_
  rintro e w3 ⟨rfl, hb3⟩
  have D3 := Lib.hid (below_step D2.out hb3)
  clear hb3
  go_wp2_with fail
  go_ret
  exact ⟨rfl, D3.out⟩
set_option maxHeartbeats 800000 in
theorem one_2_4 (g i : Int) (w : World) (c0 : ∀ w, Calls Try.prog 13 #[.int .i64 g, .int .i64 0, .int .i64 5] w fun e w' => e = .returned (.int .i64 2) ∧ w = w')
    (c1 : ∀ w, Calls Try.prog 21 #[.int .i64 i] w fun e w' => e = .returned (.complex .f64 (fl 0) (fl 2)) ∧ w = w') :
    Calls Try.prog 10 #[.int .i64 g, .int .i64 i] w fun z w' => z = .returned (.bool true) ∧ Below w.heap.size w w' := by
  have C2 := Lib.hid (fun w => all_at (x := 3) 2 (by decide +kernel) (lit1 w 0 2) (six1 (by decide +kernel)) (show makeM 2 [(0, 2)] = (0, 2) from by decide +kernel))
  have C3 := Lib.hid (fun w => all_at (x := 3) 2 (by decide +kernel) (lit2 w 0 2 0 2) (six2 (by decide +kernel) (by decide +kernel)) (show makeM 2 [(0, 2), (0, 2)] = (0, 2) from by decide +kernel))
  have D := Lib.hid (fun (w w' : World) (o : Obj) (h : Below w.heap.size w w') => h.alloc h.size o)
  have C0 := Lib.hid c0
  have C1 := Lib.hid c1
  clear c0 c1
  go_enter Try.func10, Try.ntmps10
  go_wp2_with fail
  refine (C0.out _).mono ?_
  rintro x w' ⟨rfl, rfl⟩
  go_wp2_with fail
  refine (C1.out _).mono ?_
  rintro x w' ⟨rfl, rfl⟩
  go_wp2_with fail
  refine (C2.out w).mono ?_
  rintro e w' ⟨rfl, rfl⟩
  have D1 := Lib.hid (D.out w w (.cells #[.complex .f64 (fl 0) (fl 2)] 23) (Below.refl _ _))
  generalize w.alloc (.cells #[.complex .f64 (fl 0) (fl 2)] 23) = w1 at *
  go_wp2_with fail
  refine (C3.out w1).mono ?_
  rintro e w' ⟨rfl, rfl⟩
  have D2 := Lib.hid (D.out w w1 (.cells #[.complex .f64 (fl 0) (fl 2), .complex .f64 (fl 0) (fl 2)] 23) D1.out)
  clear D1
  generalize w1.alloc (.cells #[.complex .f64 (fl 0) (fl 2), .complex .f64 (fl 0) (fl 2)] 23) = w2 at *
  go_wp2_with fail
  refine (runs_any _).mono ?_
  rintro e w3 ⟨rfl, hb3⟩
  have D3 := Lib.hid (below_step D2.out hb3)
  clear hb3
  go_wp2_with fail
  go_ret
  exact ⟨rfl, D3.out⟩
set_option maxHeartbeats 800000 in
theorem one_2_5 (g i : Int) (w : World) (c0 : ∀ w, Calls Try.prog 13 #[.int .i64 g, .int .i64 0, .int .i64 5] w fun e w' => e = .returned (.int .i64 2) ∧ w = w')
    (c1 : ∀ w, Calls Try.prog 21 #[.int .i64 i] w fun e w' => e = .returned (.complex .f64 (fl 2) (fl 2)) ∧ w = w') :
    Calls Try.prog 10 #[.int .i64 g, .int .i64 i] w fun z w' => z = .returned (.bool true) ∧ Below w.heap.size w w' := by
  have C2 := Lib.hid (fun w => all_at (x := 3) 2 (by decide +kernel) (lit1 w 2 2) (six1 (by decide +kernel)) (show makeM 2 [(2, 2)] = (2, 2) from by decide +kernel))
  have C3 := Lib.hid (fun w => all_at (x := 3) 2 (by decide +kernel) (lit2 w 2 2 2 2) (six2 (by decide +kernel) (by decide +kernel)) (show makeM 2 [(2, 2), (2, 2)] = (2, 2) from by decide +kernel))
  have D := Lib.hid (fun (w w' : World) (o : Obj) (h : Below w.heap.size w w') => h.alloc h.size o)
  have C0 := Lib.hid c0
  have C1 := Lib.hid c1
  clear c0 c1
  go_enter Try.func10, Try.ntmps10
  go_wp2_with fail
  refine (C0.out _).mono ?_
  rintro x w' ⟨rfl, rfl⟩
  go_wp2_with fail
  refine (C1.out _).mono ?_
  rintro x w' ⟨rfl, rfl⟩
  go_wp2_with fail
  refine (C2.out w).mono ?_
  rintro e w' ⟨rfl, rfl⟩
  have D1 := Lib.hid (D.out w w (.cells #[.complex .f64 (fl 2) (fl 2)] 23) (Below.refl _ _))
  generalize w.alloc (.cells #[.complex .f64 (fl 2) (fl 2)] 23) = w1 at *
  go_wp2_with fail
  refine (C3.out w1).mono ?_
  rintro e w' ⟨rfl, rfl⟩
  have D2 := Lib.hid (D.out w w1 (.cells #[.complex .f64 (fl 2) (fl 2), .complex .f64 (fl 2) (fl 2)] 23) D1.out)
  clear D1
  generalize w1.alloc (.cells #[.complex .f64 (fl 2) (fl 2), .complex .f64 (fl 2) (fl 2)] 23) = w2 at *
  go_wp2_with fail
  refine (runs_any _).mono ?_
  rintro e w3 ⟨rfl, hb3⟩
  have D3 := Lib.hid (below_step D2.out hb3)
  clear hb3
  go_wp2_with fail
  go_ret
  exact ⟨rfl, D3.out⟩
set_option maxHeartbeats 800000 in
theorem one_3_0 (g i : Int) (w : World) (c0 : ∀ w, Calls Try.prog 13 #[.int .i64 g, .int .i64 0, .int .i64 5] w fun e w' => e = .returned (.int .i64 3) ∧ w = w')
    (c1 : ∀ w, Calls Try.prog 21 #[.int .i64 i] w fun e w' => e = .returned (.complex .f64 (fl 0) (fl 0)) ∧ w = w') :
    Calls Try.prog 10 #[.int .i64 g, .int .i64 i] w fun z w' => z = .returned (.bool true) ∧ Below w.heap.size w w' := by
  have C2 := Lib.hid (fun w => all_at (x := 4) 3 (by decide +kernel) (lit1 w 0 0) (six1 (by decide +kernel)) (show makeM 3 [(0, 0)] = (0, 0) from by decide +kernel))
  have C3 := Lib.hid (fun w => all_at (x := 4) 3 (by decide +kernel) (lit2 w 0 0 0 0) (six2 (by decide +kernel) (by decide +kernel)) (show makeM 3 [(0, 0), (0, 0)] = (0, 0) from by decide +kernel))
  have D := Lib.hid (fun (w w' : World) (o : Obj) (h : Below w.heap.size w w') => h.alloc h.size o)
  have C0 := Lib.hid c0
  have C1 := Lib.hid c1
  clear c0 c1
  go_enter Try.func10, Try.ntmps10
  go_wp2_with fail
  refine (C0.out _).mono ?_
  rintro x w' ⟨rfl, rfl⟩
  go_wp2_with fail
  refine (C1.out _).mono ?_
  rintro x w' ⟨rfl, rfl⟩
  go_wp2_with fail
  refine (C2.out w).mono ?_
  rintro e w' ⟨rfl, rfl⟩
  have D1 := Lib.hid (D.out w w (.cells #[.complex .f64 (fl 0) (fl 0)] 23) (Below.refl _ _))
  generalize w.alloc (.cells #[.complex .f64 (fl 0) (fl 0)] 23) = w1 at *
  go_wp2_with fail
  refine (C3.out w1).mono ?_
  rintro e w' ⟨rfl, rfl⟩
  have D2 := Lib.hid (D.out w w1 (.cells #[.complex .f64 (fl 0) (fl 0), .complex .f64 (fl 0) (fl 0)] 23) D1.out)
  clear D1
  generalize w1.alloc (.cells #[.complex .f64 (fl 0) (fl 0), .complex .f64 (fl 0) (fl 0)] 23) = w2 at *
  go_wp2_with fail
  refine (runs_any _).mono ?_
  rintro e w3 ⟨rfl, hb3⟩
  have D3 := Lib.hid (below_step D2.out hb3)
  clear hb3
  go_wp2_with fail
  go_ret
  exact ⟨rfl, D3.out⟩
set_option maxHeartbeats 800000 in
theorem one_3_1 (g i : Int) (w : World) (c0 : ∀ w, Calls Try.prog 13 #[.int .i64 g, .int .i64 0, .int .i64 5] w fun e w' => e = .returned (.int .i64 3) ∧ w = w')
    (c1 : ∀ w, Calls Try.prog 21 #[.int .i64 i] w fun e w' => e = .returned (.complex .f64 (fl 4) (fl 0)) ∧ w = w') :
    Calls Try.prog 10 #[.int .i64 g, .int .i64 i] w fun z w' => z = .returned (.bool true) ∧ Below w.heap.size w w' := by
  have C2 := Lib.hid (fun w => all_at (x := 4) 3 (by decide +kernel) (lit1 w 4 0) (six1 (by decide +kernel)) (show makeM 3 [(4, 0)] = (4, 0) from by decide +kernel))
  have C3 := Lib.hid (fun w => all_at (x := 4) 3 (by decide +kernel) (lit2 w 4 0 4 0) (six2 (by decide +kernel) (by decide +kernel)) (show makeM 3 [(4, 0), (4, 0)] = (2, 2) from by decide +kernel))
  have D := Lib.hid (fun (w w' : World) (o : Obj) (h : Below w.heap.size w w') => h.alloc h.size o)
  have C0 := Lib.hid c0
  have C1 := Lib.hid c1
  clear c0 c1
  go_enter Try.func10, Try.ntmps10
  go_wp2_with fail
  refine (C0.out _).mono ?_
  rintro x w' ⟨rfl, rfl⟩
  go_wp2_with fail
  refine (C1.out _).mono ?_
  rintro x w' ⟨rfl, rfl⟩
  go_wp2_with fail
  refine (C2.out w).mono ?_
  rintro e w' ⟨rfl, rfl⟩
  have D1 := Lib.hid (D.out w w (.cells #[.complex .f64 (fl 4) (fl 0)] 23) (Below.refl _ _))
  generalize w.alloc (.cells #[.complex .f64 (fl 4) (fl 0)] 23) = w1 at *
  go_wp2_with fail
  refine (C3.out w1).mono ?_
  rintro e w' ⟨rfl, rfl⟩
  have D2 := Lib.hid (D.out w w1 (.cells #[.complex .f64 (fl 4) (fl 0), .complex .f64 (fl 4) (fl 0)] 23) D1.out)
  clear D1
  generalize w1.alloc (.cells #[.complex .f64 (fl 4) (fl 0), .complex .f64 (fl 4) (fl 0)] 23) = w2 at *
  go_wp2_with fail
  refine (runs_any _).mono ?_
  rintro e w3 ⟨rfl, hb3⟩
  have D3 := Lib.hid (below_step D2.out hb3)
  clear hb3
  go_wp2_with fail
  go_ret
  exact ⟨rfl, D3.out⟩
set_option maxHeartbeats 800000 in
theorem one_3_2 (g i : Int) (w : World) (c0 : ∀ w, Calls Try.prog 13 #[.int .i64 g, .int .i64 0, .int .i64 5] w fun e w' => e = .returned (.int .i64 3) ∧ w = w')
    (c1 : ∀ w, Calls Try.prog 21 #[.int .i64 i] w fun e w' => e = .returned (.complex .f64 (fl 0) (fl 4)) ∧ w = w') :
    Calls Try.prog 10 #[.int .i64 g, .int .i64 i] w fun z w' => z = .returned (.bool true) ∧ Below w.heap.size w w' := by
  have C2 := Lib.hid (fun w => all_at (x := 4) 3 (by decide +kernel) (lit1 w 0 4) (six1 (by decide +kernel)) (show makeM 3 [(0, 4)] = (0, 4) from by decide +kernel))
  have C3 := Lib.hid (fun w => all_at (x := 4) 3 (by decide +kernel) (lit2 w 0 4 0 4) (six2 (by decide +kernel) (by decide +kernel)) (show makeM 3 [(0, 4), (0, 4)] = (2, 2) from by decide +kernel))
  have D := Lib.hid (fun (w w' : World) (o : Obj) (h : Below w.heap.size w w') => h.alloc h.size o)
  have C0 := Lib.hid c0
  have C1 := Lib.hid c1
  clear c0 c1
  go_enter Try.func10, Try.ntmps10
  go_wp2_with fail
  refine (C0.out _).mono ?_
  rintro x w' ⟨rfl, rfl⟩
  go_wp2_with fail
  refine (C1.out _).mono ?_
  rintro x w' ⟨rfl, rfl⟩
  go_wp2_with fail
  refine (C2.out w).mono ?_
  rintro e w' ⟨rfl, rfl⟩
  have D1 := Lib.hid (D.out w w (.cells #[.complex .f64 (fl 0) (fl 4)] 23) (Below.refl _ _))
  generalize w.alloc (.cells #[.complex .f64 (fl 0) (fl 4)] 23) = w1 at *
  go_wp2_with fail
  refine (C3.out w1).mono ?_
  rintro e w' ⟨rfl, rfl⟩
  have D2 := Lib.hid (D.out w w1 (.cells #[.complex .f64 (fl 0) (fl 4), .complex .f64 (fl 0) (fl 4)] 23) D1.out)
  clear D1
  generalize w1.alloc (.cells #[.complex .f64 (fl 0) (fl 4), .complex .f64 (fl 0) (fl 4)] 23) = w2 at *
  go_wp2_with fail
  refine (runs_any _).mono ?_
  rintro e w3 ⟨rfl, hb3⟩
  have D3 := Lib.hid (below_step D2.out hb3)
  clear hb3
  go_wp2_with fail
  go_ret
  exact ⟨rfl, D3.out⟩
set_option maxHeartbeats 800000 in
theorem one_3_3 (g i : Int) (w : World) (c0 : ∀ w, Calls Try.prog 13 #[.int .i64 g, .int .i64 0, .int .i64 5] w fun e w' => e = .returned (.int .i64 3) ∧ w = w')
    (c1 : ∀ w, Calls Try.prog 21 #[.int .i64 i] w fun e w' => e = .returned (.complex .f64 (fl 2) (fl 0)) ∧ w = w') :
    Calls Try.prog 10 #[.int .i64 g, .int .i64 i] w fun z w' => z = .returned (.bool true) ∧ Below w.heap.size w w' := by
  have C2 := Lib.hid (fun w => all_at (x := 4) 3 (by decide +kernel) (lit1 w 2 0) (six1 (by decide +kernel)) (show makeM 3 [(2, 0)] = (2, 2) from by decide +kernel))
  have C3 := Lib.hid (fun w => all_at (x := 4) 3 (by decide +kernel) (lit2 w 2 0 2 0) (six2 (by decide +kernel) (by decide +kernel)) (show makeM 3 [(2, 0), (2, 0)] = (2, 2) from by decide +kernel))
  have D := Lib.hid (fun (w w' : World) (o : Obj) (h : Below w.heap.size w w') => h.alloc h.size o)
  have C0 := Lib.hid c0
  have C1 := Lib.hid c1
  clear c0 c1
  go_enter Try.func10, Try.ntmps10
  go_wp2_with fail
  refine (C0.out _).mono ?_
  rintro x w' ⟨rfl, rfl⟩
  go_wp2_with fail
  refine (C1.out _).mono ?_
  rintro x w' ⟨rfl, rfl⟩
  go_wp2_with fail
  refine (C2.out w).mono ?_
  rintro e w' ⟨rfl, rfl⟩
  have D1 := Lib.hid (D.out w w (.cells #[.complex .f64 (fl 2) (fl 0)] 23) (Below.refl _ _))
  generalize w.alloc (.cells #[.complex .f64 (fl 2) (fl 0)] 23) = w1 at *
  go_wp2_with fail
  refine (C3.out w1).mono ?_
  rintro e w' ⟨rfl, rfl⟩
  have D2 := Lib.hid (D.out w w1 (.cells #[.complex .f64 (fl 2) (fl 0), .complex .f64 (fl 2) (fl 0)] 23) D1.out)
  clear D1
  generalize w1.alloc (.cells #[.complex .f64 (fl 2) (fl 0), .complex .f64 (fl 2) (fl 0)] 23) = w2 at *
  go_wp2_with fail
  refine (runs_any _).mono ?_
  rintro e w3 ⟨rfl, hb3⟩
  have D3 := Lib.hid (below_step D2.out hb3)
  clear hb3
  go_wp2_with fail
  go_ret
  exact ⟨rfl, D3.out⟩
set_option maxHeartbeats 800000 in
theorem one_3_4 (g i : Int) (w : World) (c0 : ∀ w, Calls Try.prog 13 #[.int .i64 g, .int .i64 0, .int .i64 5] w fun e w' => e = .returned (.int .i64 3) ∧ w = w')
    (c1 : ∀ w, Calls Try.prog 21 #[.int .i64 i] w fun e w' => e = .returned (.complex .f64 (fl 0) (fl 2)) ∧ w = w') :
    Calls Try.prog 10 #[.int .i64 g, .int .i64 i] w fun z w' => z = .returned (.bool true) ∧ Below w.heap.size w w' := by
  have C2 := Lib.hid (fun w => all_at (x := 4) 3 (by decide +kernel) (lit1 w 0 2) (six1 (by decide +kernel)) (show makeM 3 [(0, 2)] = (2, 2) from by decide +kernel))
  have C3 := Lib.hid (fun w => all_at (x := 4) 3 (by decide +kernel) (lit2 w 0 2 0 2) (six2 (by decide +kernel) (by decide +kernel)) (show makeM 3 [(0, 2), (0, 2)] = (2, 2) from by decide +kernel))
  have D := Lib.hid (fun (w w' : World) (o : Obj) (h : Below w.heap.size w w') => h.alloc h.size o)
  have C0 := Lib.hid c0
  have C1 := Lib.hid c1
  clear c0 c1
  go_enter Try.func10, Try.ntmps10
  go_wp2_with fail
  refine (C0.out _).mono ?_
  rintro x w' ⟨rfl, rfl⟩
  go_wp2_with fail
  refine (C1.out _).mono ?_
  rintro x w' ⟨rfl, rfl⟩
  go_wp2_with fail
  refine (C2.out w).mono ?_
  rintro e w' ⟨rfl, rfl⟩
  have D1 := Lib.hid (D.out w w (.cells #[.complex .f64 (fl 0) (fl 2)] 23) (Below.refl _ _))
  generalize w.alloc (.cells #[.complex .f64 (fl 0) (fl 2)] 23) = w1 at *
  go_wp2_with fail
  refine (C3.out w1).mono ?_
  rintro e w' ⟨rfl, rfl⟩
  have D2 := Lib.hid (D.out w w1 (.cells #[.complex .f64 (fl 0) (fl 2), .complex .f64 (fl 0) (fl 2)] 23) D1.out)
  clear D1
  generalize w1.alloc (.cells #[.complex .f64 (fl 0) (fl 2), .complex .f64 (fl 0) (fl 2)] 23) = w2 at *
  go_wp2_with fail
  refine (runs_any _).mono ?_
  rintro e w3 ⟨rfl, hb3⟩
  have D3 := Lib.hid (below_step D2.out hb3)
  clear hb3
  go_wp2_with fail
  go_ret
  exact ⟨rfl, D3.out⟩
set_option maxHeartbeats 800000 in
theorem one_3_5 (g i : Int) (w : World) (c0 : ∀ w, Calls Try.prog 13 #[.int .i64 g, .int .i64 0, .int .i64 5] w fun e w' => e = .returned (.int .i64 3) ∧ w = w')
    (c1 : ∀ w, Calls Try.prog 21 #[.int .i64 i] w fun e w' => e = .returned (.complex .f64 (fl 2) (fl 2)) ∧ w = w') :
    Calls Try.prog 10 #[.int .i64 g, .int .i64 i] w fun z w' => z = .returned (.bool true) ∧ Below w.heap.size w w' := by
  have C2 := Lib.hid (fun w => all_at (x := 4) 3 (by decide +kernel) (lit1 w 2 2) (six1 (by decide +kernel)) (show makeM 3 [(2, 2)] = (2, 2) from by decide +kernel))
  have C3 := Lib.hid (fun w => all_at (x := 4) 3 (by decide +kernel) (lit2 w 2 2 2 2) (six2 (by decide +kernel) (by decide +kernel)) (show makeM 3 [(2, 2), (2, 2)] = (2, 2) from by decide +kernel))
  have D := Lib.hid (fun (w w' : World) (o : Obj) (h : Below w.heap.size w w') => h.alloc h.size o)
  have C0 := Lib.hid c0
  have C1 := Lib.hid c1
  clear c0 c1
  go_enter Try.func10, Try.ntmps10
  go_wp2_with fail
  refine (C0.out _).mono ?_
  rintro x w' ⟨rfl, rfl⟩
  go_wp2_with fail
  refine (C1.out _).mono ?_
  rintro x w' ⟨rfl, rfl⟩
  go_wp2_with fail
  refine (C2.out w).mono ?_
  rintro e w' ⟨rfl, rfl⟩
  have D1 := Lib.hid (D.out w w (.cells #[.complex .f64 (fl 2) (fl 2)] 23) (Below.refl _ _))
  generalize w.alloc (.cells #[.complex .f64 (fl 2) (fl 2)] 23) = w1 at *
  go_wp2_with fail
  refine (C3.out w1).mono ?_
  rintro e w' ⟨rfl, rfl⟩
  have D2 := Lib.hid (D.out w w1 (.cells #[.complex .f64 (fl 2) (fl 2), .complex .f64 (fl 2) (fl 2)] 23) D1.out)
  clear D1
  generalize w1.alloc (.cells #[.complex .f64 (fl 2) (fl 2), .complex .f64 (fl 2) (fl 2)] 23) = w2 at *
  go_wp2_with fail
  refine (runs_any _).mono ?_
  rintro e w3 ⟨rfl, hb3⟩
  have D3 := Lib.hid (below_step D2.out hb3)
  clear hb3
  go_wp2_with fail
  go_ret
  exact ⟨rfl, D3.out⟩
set_option maxHeartbeats 800000 in
theorem one_4_0 (g i : Int) (w : World) (c0 : ∀ w, Calls Try.prog 13 #[.int .i64 g, .int .i64 0, .int .i64 5] w fun e w' => e = .returned (.int .i64 4) ∧ w = w')
    (c1 : ∀ w, Calls Try.prog 21 #[.int .i64 i] w fun e w' => e = .returned (.complex .f64 (fl 0) (fl 0)) ∧ w = w') :
    Calls Try.prog 10 #[.int .i64 g, .int .i64 i] w fun z w' => z = .returned (.bool true) ∧ Below w.heap.size w w' := by
  have C2 := Lib.hid (fun w => all_at (x := 5) 4 (by decide +kernel) (lit1 w 0 0) (six1 (by decide +kernel)) (show makeM 4 [(0, 0)] = (0, 4) from by decide +kernel))
  have C3 := Lib.hid (fun w => all_at (x := 5) 4 (by decide +kernel) (lit2 w 0 0 0 0) (six2 (by decide +kernel) (by decide +kernel)) (show makeM 4 [(0, 0), (0, 0)] = (0, 4) from by decide +kernel))
  have D := Lib.hid (fun (w w' : World) (o : Obj) (h : Below w.heap.size w w') => h.alloc h.size o)
  have C0 := Lib.hid c0
  have C1 := Lib.hid c1
  clear c0 c1
  go_enter Try.func10, Try.ntmps10
  go_wp2_with fail
  refine (C0.out _).mono ?_
  rintro x w' ⟨rfl, rfl⟩
  go_wp2_with fail
  refine (C1.out _).mono ?_
  rintro x w' ⟨rfl, rfl⟩
  go_wp2_with fail
  refine (C2.out w).mono ?_
  rintro e w' ⟨rfl, rfl⟩
  have D1 := Lib.hid (D.out w w (.cells #[.complex .f64 (fl 0) (fl 0)] 23) (Below.refl _ _))
  generalize w.alloc (.cells #[.complex .f64 (fl 0) (fl 0)] 23) = w1 at *
  go_wp2_with fail
  refine (C3.out w1).mono ?_
  rintro e w' ⟨rfl, rfl⟩
  have D2 := Lib.hid (D.out w w1 (.cells #[.complex .f64 (fl 0) (fl 0), .complex .f64 (fl 0) (fl 0)] 23) D1.out)
  clear D1
  generalize w1.alloc (.cells #[.complex .f64 (fl 0) (fl 0), .complex .f64 (fl 0) (fl 0)] 23) = w2 at *
  go_wp2_with fail
  refine (runs_any _).mono ?_
  rintro e w3 ⟨rfl, hb3⟩
  have D3 := Lib.hid (below_step D2.out hb3)
  clear hb3
  go_wp2_with fail
  go_ret
  exact ⟨rfl, D3.out⟩
set_option maxHeartbeats 800000 in
theorem one_4_1 (g i : Int) (w : World) (c0 : ∀ w, Calls Try.prog 13 #[.int .i64 g, .int .i64 0, .int .i64 5] w fun e w' => e = .returned (.int .i64 4) ∧ w = w')
    (c1 : ∀ w, Calls Try.prog 21 #[.int .i64 i] w fun e w' => e = .returned (.complex .f64 (fl 4) (fl 0)) ∧ w = w') :
    Calls Try.prog 10 #[.int .i64 g, .int .i64 i] w fun z w' => z = .returned (.bool true) ∧ Below w.heap.size w w' := by
  have C2 := Lib.hid (fun w => all_at (x := 5) 4 (by decide +kernel) (lit1 w 4 0) (six1 (by decide +kernel)) (show makeM 4 [(4, 0)] = (4, 0) from by decide +kernel))
  have C3 := Lib.hid (fun w => all_at (x := 5) 4 (by decide +kernel) (lit2 w 4 0 4 0) (six2 (by decide +kernel) (by decide +kernel)) (show makeM 4 [(4, 0), (4, 0)] = (4, 0) from by decide +kernel))
  have D := Lib.hid (fun (w w' : World) (o : Obj) (h : Below w.heap.size w w') => h.alloc h.size o)
  have C0 := Lib.hid c0
  have C1 := Lib.hid c1
  clear c0 c1
  go_enter Try.func10, Try.ntmps10
  go_wp2_with fail
  refine (C0.out _).mono ?_
  rintro x w' ⟨rfl, rfl⟩
  go_wp2_with fail
  refine (C1.out _).mono ?_
  rintro x w' ⟨rfl, rfl⟩
  go_wp2_with fail
  refine (C2.out w).mono ?_
  rintro e w' ⟨rfl, rfl⟩
  have D1 := Lib.hid (D.out w w (.cells #[.complex .f64 (fl 4) (fl 0)] 23) (Below.refl _ _))
  generalize w.alloc (.cells #[.complex .f64 (fl 4) (fl 0)] 23) = w1 at *
  go_wp2_with fail
  refine (C3.out w1).mono ?_
  rintro e w' ⟨rfl, rfl⟩
  have D2 := Lib.hid (D.out w w1 (.cells #[.complex .f64 (fl 4) (fl 0), .complex .f64 (fl 4) (fl 0)] 23) D1.out)
  clear D1
  generalize w1.alloc (.cells #[.complex .f64 (fl 4) (fl 0), .complex .f64 (fl 4) (fl 0)] 23) = w2 at *
  go_wp2_with fail
  refine (runs_any _).mono ?_
  rintro e w3 ⟨rfl, hb3⟩
  have D3 := Lib.hid (below_step D2.out hb3)
  clear hb3
  go_wp2_with fail
  go_ret
  exact ⟨rfl, D3.out⟩
set_option maxHeartbeats 800000 in
theorem one_4_2 (g i : Int) (w : World) (c0 : ∀ w, Calls Try.prog 13 #[.int .i64 g, .int .i64 0, .int .i64 5] w fun e w' => e = .returned (.int .i64 4) ∧ w = w')
    (c1 : ∀ w, Calls Try.prog 21 #[.int .i64 i] w fun e w' => e = .returned (.complex .f64 (fl 0) (fl 4)) ∧ w = w') :
    Calls Try.prog 10 #[.int .i64 g, .int .i64 i] w fun z w' => z = .returned (.bool true) ∧ Below w.heap.size w w' := by
  have C2 := Lib.hid (fun w => all_at (x := 5) 4 (by decide +kernel) (lit1 w 0 4) (six1 (by decide +kernel)) (show makeM 4 [(0, 4)] = (0, 4) from by decide +kernel))
  have C3 := Lib.hid (fun w => all_at (x := 5) 4 (by decide +kernel) (lit2 w 0 4 0 4) (six2 (by decide +kernel) (by decide +kernel)) (show makeM 4 [(0, 4), (0, 4)] = (0, 4) from by decide +kernel))
  have D := Lib.hid (fun (w w' : World) (o : Obj) (h : Below w.heap.size w w') => h.alloc h.size o)
  have C0 := Lib.hid c0
  have C1 := Lib.hid c1
  clear c0 c1
  go_enter Try.func10, Try.ntmps10
  go_wp2_with fail
  refine (C0.out _).mono ?_
  rintro x w' ⟨rfl, rfl⟩
  go_wp2_with fail
  refine (C1.out _).mono ?_
  rintro x w' ⟨rfl, rfl⟩
  go_wp2_with fail
  refine (C2.out w).mono ?_
  rintro e w' ⟨rfl, rfl⟩
  have D1 := Lib.hid (D.out w w (.cells #[.complex .f64 (fl 0) (fl 4)] 23) (Below.refl _ _))
  generalize w.alloc (.cells #[.complex .f64 (fl 0) (fl 4)] 23) = w1 at *
  go_wp2_with fail
  refine (C3.out w1).mono ?_
  rintro e w' ⟨rfl, rfl⟩
  have D2 := Lib.hid (D.out w w1 (.cells #[.complex .f64 (fl 0) (fl 4), .complex .f64 (fl 0) (fl 4)] 23) D1.out)
  clear D1
  generalize w1.alloc (.cells #[.complex .f64 (fl 0) (fl 4), .complex .f64 (fl 0) (fl 4)] 23) = w2 at *
  go_wp2_with fail
  refine (runs_any _).mono ?_
  rintro e w3 ⟨rfl, hb3⟩
  have D3 := Lib.hid (below_step D2.out hb3)
  clear hb3
  go_wp2_with fail
  go_ret
  exact ⟨rfl, D3.out⟩
set_option maxHeartbeats 800000 in
theorem one_4_3 (g i : Int) (w : World) (c0 : ∀ w, Calls Try.prog 13 #[.int .i64 g, .int .i64 0, .int .i64 5] w fun e w' => e = .returned (.int .i64 4) ∧ w = w')
    (c1 : ∀ w, Calls Try.prog 21 #[.int .i64 i] w fun e w' => e = .returned (.complex .f64 (fl 2) (fl 0)) ∧ w = w') :
    Calls Try.prog 10 #[.int .i64 g, .int .i64 i] w fun z w' => z = .returned (.bool true) ∧ Below w.heap.size w w' := by
  have C2 := Lib.hid (fun w => all_at (x := 5) 4 (by decide +kernel) (lit1 w 2 0) (six1 (by decide +kernel)) (show makeM 4 [(2, 0)] = (0, 4) from by decide +kernel))
  have C3 := Lib.hid (fun w => all_at (x := 5) 4 (by decide +kernel) (lit2 w 2 0 2 0) (six2 (by decide +kernel) (by decide +kernel)) (show makeM 4 [(2, 0), (2, 0)] = (0, 4) from by decide +kernel))
  have D := Lib.hid (fun (w w' : World) (o : Obj) (h : Below w.heap.size w w') => h.alloc h.size o)
  have C0 := Lib.hid c0
  have C1 := Lib.hid c1
  clear c0 c1
  go_enter Try.func10, Try.ntmps10
  go_wp2_with fail
  refine (C0.out _).mono ?_
  rintro x w' ⟨rfl, rfl⟩
  go_wp2_with fail
  refine (C1.out _).mono ?_
  rintro x w' ⟨rfl, rfl⟩
  go_wp2_with fail
  refine (C2.out w).mono ?_
  rintro e w' ⟨rfl, rfl⟩
  have D1 := Lib.hid (D.out w w (.cells #[.complex .f64 (fl 2) (fl 0)] 23) (Below.refl _ _))
  generalize w.alloc (.cells #[.complex .f64 (fl 2) (fl 0)] 23) = w1 at *
  go_wp2_with fail
  refine (C3.out w1).mono ?_
  rintro e w' ⟨rfl, rfl⟩
  have D2 := Lib.hid (D.out w w1 (.cells #[.complex .f64 (fl 2) (fl 0), .complex .f64 (fl 2) (fl 0)] 23) D1.out)
  clear D1
  generalize w1.alloc (.cells #[.complex .f64 (fl 2) (fl 0), .complex .f64 (fl 2) (fl 0)] 23) = w2 at *
  go_wp2_with fail
  refine (runs_any _).mono ?_
  rintro e w3 ⟨rfl, hb3⟩
  have D3 := Lib.hid (below_step D2.out hb3)
  clear hb3
  go_wp2_with fail
  go_ret
  exact ⟨rfl, D3.out⟩
set_option maxHeartbeats 800000 in
theorem one_4_4 (g i : Int) (w : World) (c0 : ∀ w, Calls Try.prog 13 #[.int .i64 g, .int .i64 0, .int .i64 5] w fun e w' => e = .returned (.int .i64 4) ∧ w = w')
    (c1 : ∀ w, Calls Try.prog 21 #[.int .i64 i] w fun e w' => e = .returned (.complex .f64 (fl 0) (fl 2)) ∧ w = w') :
    Calls Try.prog 10 #[.int .i64 g, .int .i64 i] w fun z w' => z = .returned (.bool true) ∧ Below w.heap.size w w' := by
  have C2 := Lib.hid (fun w => all_at (x := 5) 4 (by decide +kernel) (lit1 w 0 2) (six1 (by decide +kernel)) (show makeM 4 [(0, 2)] = (0, 4) from by decide +kernel))
  have C3 := Lib.hid (fun w => all_at (x := 5) 4 (by decide +kernel) (lit2 w 0 2 0 2) (six2 (by decide +kernel) (by decide +kernel)) (show makeM 4 [(0, 2), (0, 2)] = (0, 4) from by decide +kernel))
  have D := Lib.hid (fun (w w' : World) (o : Obj) (h : Below w.heap.size w w') => h.alloc h.size o)
  have C0 := Lib.hid c0
  have C1 := Lib.hid c1
  clear c0 c1
  go_enter Try.func10, Try.ntmps10
  go_wp2_with fail
  refine (C0.out _).mono ?_
  rintro x w' ⟨rfl, rfl⟩
  go_wp2_with fail
  refine (C1.out _).mono ?_
  rintro x w' ⟨rfl, rfl⟩
  go_wp2_with fail
  refine (C2.out w).mono ?_
  rintro e w' ⟨rfl, rfl⟩
  have D1 := Lib.hid (D.out w w (.cells #[.complex .f64 (fl 0) (fl 2)] 23) (Below.refl _ _))
  generalize w.alloc (.cells #[.complex .f64 (fl 0) (fl 2)] 23) = w1 at *
  go_wp2_with fail
  refine (C3.out w1).mono ?_
  rintro e w' ⟨rfl, rfl⟩
  have D2 := Lib.hid (D.out w w1 (.cells #[.complex .f64 (fl 0) (fl 2), .complex .f64 (fl 0) (fl 2)] 23) D1.out)
  clear D1
  generalize w1.alloc (.cells #[.complex .f64 (fl 0) (fl 2), .complex .f64 (fl 0) (fl 2)] 23) = w2 at *
  go_wp2_with fail
  refine (runs_any _).mono ?_
  rintro e w3 ⟨rfl, hb3⟩
  have D3 := Lib.hid (below_step D2.out hb3)
  clear hb3
  go_wp2_with fail
  go_ret
  exact ⟨rfl, D3.out⟩
set_option maxHeartbeats 800000 in
theorem one_4_5 (g i : Int) (w : World) (c0 : ∀ w, Calls Try.prog 13 #[.int .i64 g, .int .i64 0, .int .i64 5] w fun e w' => e = .returned (.int .i64 4) ∧ w = w')
    (c1 : ∀ w, Calls Try.prog 21 #[.int .i64 i] w fun e w' => e = .returned (.complex .f64 (fl 2) (fl 2)) ∧ w = w') :
    Calls Try.prog 10 #[.int .i64 g, .int .i64 i] w fun z w' => z = .returned (.bool true) ∧ Below w.heap.size w w' := by
  have C2 := Lib.hid (fun w => all_at (x := 5) 4 (by decide +kernel) (lit1 w 2 2) (six1 (by decide +kernel)) (show makeM 4 [(2, 2)] = (0, 4) from by decide +kernel))
  have C3 := Lib.hid (fun w => all_at (x := 5) 4 (by decide +kernel) (lit2 w 2 2 2 2) (six2 (by decide +kernel) (by decide +kernel)) (show makeM 4 [(2, 2), (2, 2)] = (0, 4) from by decide +kernel))
  have D := Lib.hid (fun (w w' : World) (o : Obj) (h : Below w.heap.size w w') => h.alloc h.size o)
  have C0 := Lib.hid c0
  have C1 := Lib.hid c1
  clear c0 c1
  go_enter Try.func10, Try.ntmps10
  go_wp2_with fail
  refine (C0.out _).mono ?_
  rintro x w' ⟨rfl, rfl⟩
  go_wp2_with fail
  refine (C1.out _).mono ?_
  rintro x w' ⟨rfl, rfl⟩
  go_wp2_with fail
  refine (C2.out w).mono ?_
  rintro e w' ⟨rfl, rfl⟩
  have D1 := Lib.hid (D.out w w (.cells #[.complex .f64 (fl 2) (fl 2)] 23) (Below.refl _ _))
  generalize w.alloc (.cells #[.complex .f64 (fl 2) (fl 2)] 23) = w1 at *
  go_wp2_with fail
  refine (C3.out w1).mono ?_
  rintro e w' ⟨rfl, rfl⟩
  have D2 := Lib.hid (D.out w w1 (.cells #[.complex .f64 (fl 2) (fl 2), .complex .f64 (fl 2) (fl 2)] 23) D1.out)
  clear D1
  generalize w1.alloc (.cells #[.complex .f64 (fl 2) (fl 2), .complex .f64 (fl 2) (fl 2)] 23) = w2 at *
  go_wp2_with fail
  refine (runs_any _).mono ?_
  rintro e w3 ⟨rfl, hb3⟩
  have D3 := Lib.hid (below_step D2.out hb3)
  clear hb3
  go_wp2_with fail
  go_ret
  exact ⟨rfl, D3.out⟩
set_option maxHeartbeats 800000 in
theorem one_5_0 (g i : Int) (w : World) (c0 : ∀ w, Calls Try.prog 13 #[.int .i64 g, .int .i64 0, .int .i64 5] w fun e w' => e = .returned (.int .i64 5) ∧ w = w')
    (c1 : ∀ w, Calls Try.prog 21 #[.int .i64 i] w fun e w' => e = .returned (.complex .f64 (fl 0) (fl 0)) ∧ w = w') :
    Calls Try.prog 10 #[.int .i64 g, .int .i64 i] w fun z w' => z = .returned (.bool true) ∧ Below w.heap.size w w' := by
  have C2 := Lib.hid (fun w => all_at (x := 6) 5 (by decide +kernel) (lit1 w 0 0) (six1 (by decide +kernel)) (show makeM 5 [(0, 0)] = (4, 0) from by decide +kernel))
  have C3 := Lib.hid (fun w => all_at (x := 6) 5 (by decide +kernel) (lit2 w 0 0 0 0) (six2 (by decide +kernel) (by decide +kernel)) (show makeM 5 [(0, 0), (0, 0)] = (4, 0) from by decide +kernel))
  have D := Lib.hid (fun (w w' : World) (o : Obj) (h : Below w.heap.size w w') => h.alloc h.size o)
  have C0 := Lib.hid c0
  have C1 := Lib.hid c1
  clear c0 c1
  go_enter Try.func10, Try.ntmps10
  go_wp2_with fail
  refine (C0.out _).mono ?_
  rintro x w' ⟨rfl, rfl⟩
  go_wp2_with fail
  refine (C1.out _).mono ?_
  rintro x w' ⟨rfl, rfl⟩
  go_wp2_with fail
  refine (C2.out w).mono ?_
  rintro e w' ⟨rfl, rfl⟩
  have D1 := Lib.hid (D.out w w (.cells #[.complex .f64 (fl 0) (fl 0)] 23) (Below.refl _ _))
  generalize w.alloc (.cells #[.complex .f64 (fl 0) (fl 0)] 23) = w1 at *
  go_wp2_with fail
  refine (C3.out w1).mono ?_
  rintro e w' ⟨rfl, rfl⟩
  have D2 := Lib.hid (D.out w w1 (.cells #[.complex .f64 (fl 0) (fl 0), .complex .f64 (fl 0) (fl 0)] 23) D1.out)
  clear D1
  generalize w1.alloc (.cells #[.complex .f64 (fl 0) (fl 0), .complex .f64 (fl 0) (fl 0)] 23) = w2 at *
  go_wp2_with fail
  refine (runs_any _).mono ?_
  rintro e w3 ⟨rfl, hb3⟩
  have D3 := Lib.hid (below_step D2.out hb3)
  clear hb3
  go_wp2_with fail
  go_ret
  exact ⟨rfl, D3.out⟩
set_option maxHeartbeats 800000 in
theorem one_5_1 (g i : Int) (w : World) (c0 : ∀ w, Calls Try.prog 13 #[.int .i64 g, .int .i64 0, .int .i64 5] w fun e w' => e = .returned (.int .i64 5) ∧ w = w')
    (c1 : ∀ w, Calls Try.prog 21 #[.int .i64 i] w fun e w' => e = .returned (.complex .f64 (fl 4) (fl 0)) ∧ w = w') :
    Calls Try.prog 10 #[.int .i64 g, .int .i64 i] w fun z w' => z = .returned (.bool true) ∧ Below w.heap.size w w' := by
  have C2 := Lib.hid (fun w => all_at (x := 6) 5 (by decide +kernel) (lit1 w 4 0) (six1 (by decide +kernel)) (show makeM 5 [(4, 0)] = (4, 0) from by decide +kernel))
  have C3 := Lib.hid (fun w => all_at (x := 6) 5 (by decide +kernel) (lit2 w 4 0 4 0) (six2 (by decide +kernel) (by decide +kernel)) (show makeM 5 [(4, 0), (4, 0)] = (4, 0) from by decide +kernel))
  have D := Lib.hid (fun (w w' : World) (o : Obj) (h : Below w.heap.size w w') => h.alloc h.size o)
  have C0 := Lib.hid c0
  have C1 := Lib.hid c1
  clear c0 c1
  go_enter Try.func10, Try.ntmps10
  go_wp2_with fail
  refine (C0.out _).mono ?_
  rintro x w' ⟨rfl, rfl⟩
  go_wp2_with fail
  refine (C1.out _).mono ?_
  rintro x w' ⟨rfl, rfl⟩
  go_wp2_with fail
  refine (C2.out w).mono ?_
  rintro e w' ⟨rfl, rfl⟩
  have D1 := Lib.hid (D.out w w (.cells #[.complex .f64 (fl 4) (fl 0)] 23) (Below.refl _ _))
  generalize w.alloc (.cells #[.complex .f64 (fl 4) (fl 0)] 23) = w1 at *
  go_wp2_with fail
  refine (C3.out w1).mono ?_
  rintro e w' ⟨rfl, rfl⟩
  have D2 := Lib.hid (D.out w w1 (.cells #[.complex .f64 (fl 4) (fl 0), .complex .f64 (fl 4) (fl 0)] 23) D1.out)
  clear D1
  generalize w1.alloc (.cells #[.complex .f64 (fl 4) (fl 0), .complex .f64 (fl 4) (fl 0)] 23) = w2 at *
  go_wp2_with fail
  refine (runs_any _).mono ?_
  rintro e w3 ⟨rfl, hb3⟩
  have D3 := Lib.hid (below_step D2.out hb3)
  clear hb3
  go_wp2_with fail
  go_ret
  exact ⟨rfl, D3.out⟩
set_option maxHeartbeats 800000 in
theorem one_5_2 (g i : Int) (w : World) (c0 : ∀ w, Calls Try.prog 13 #[.int .i64 g, .int .i64 0, .int .i64 5] w fun e w' => e = .returned (.int .i64 5) ∧ w = w')
    (c1 : ∀ w, Calls Try.prog 21 #[.int .i64 i] w fun e w' => e = .returned (.complex .f64 (fl 0) (fl 4)) ∧ w = w') :
    Calls Try.prog 10 #[.int .i64 g, .int .i64 i] w fun z w' => z = .returned (.bool true) ∧ Below w.heap.size w w' := by
  have C2 := Lib.hid (fun w => all_at (x := 6) 5 (by decide +kernel) (lit1 w 0 4) (six1 (by decide +kernel)) (show makeM 5 [(0, 4)] = (0, 4) from by decide +kernel))
  have C3 := Lib.hid (fun w => all_at (x := 6) 5 (by decide +kernel) (lit2 w 0 4 0 4) (six2 (by decide +kernel) (by decide +kernel)) (show makeM 5 [(0, 4), (0, 4)] = (0, 4) from by decide +kernel))
  have D := Lib.hid (fun (w w' : World) (o : Obj) (h : Below w.heap.size w w') => h.alloc h.size o)
  have C0 := Lib.hid c0
  have C1 := Lib.hid c1
  clear c0 c1
  go_enter Try.func10, Try.ntmps10
  go_wp2_with fail
  refine (C0.out _).mono ?_
  rintro x w' ⟨rfl, rfl⟩
  go_wp2_with fail
  refine (C1.out _).mono ?_
  rintro x w' ⟨rfl, rfl⟩
  go_wp2_with fail
  refine (C2.out w).mono ?_
  rintro e w' ⟨rfl, rfl⟩
  have D1 := Lib.hid (D.out w w (.cells #[.complex .f64 (fl 0) (fl 4)] 23) (Below.refl _ _))
  generalize w.alloc (.cells #[.complex .f64 (fl 0) (fl 4)] 23) = w1 at *
  go_wp2_with fail
  refine (C3.out w1).mono ?_
  rintro e w' ⟨rfl, rfl⟩
  have D2 := Lib.hid (D.out w w1 (.cells #[.complex .f64 (fl 0) (fl 4), .complex .f64 (fl 0) (fl 4)] 23) D1.out)
  clear D1
  generalize w1.alloc (.cells #[.complex .f64 (fl 0) (fl 4), .complex .f64 (fl 0) (fl 4)] 23) = w2 at *
  go_wp2_with fail
  refine (runs_any _).mono ?_
  rintro e w3 ⟨rfl, hb3⟩
  have D3 := Lib.hid (below_step D2.out hb3)
  clear hb3
  go_wp2_with fail
  go_ret
  exact ⟨rfl, D3.out⟩
set_option maxHeartbeats 800000 in
theorem one_5_3 (g i : Int) (w : World) (c0 : ∀ w, Calls Try.prog 13 #[.int .i64 g, .int .i64 0, .int .i64 5] w fun e w' => e = .returned (.int .i64 5) ∧ w = w')
    (c1 : ∀ w, Calls Try.prog 21 #[.int .i64 i] w fun e w' => e = .returned (.complex .f64 (fl 2) (fl 0)) ∧ w = w') :
    Calls Try.prog 10 #[.int .i64 g, .int .i64 i] w fun z w' => z = .returned (.bool true) ∧ Below w.heap.size w w' := by
  have C2 := Lib.hid (fun w => all_at (x := 6) 5 (by decide +kernel) (lit1 w 2 0) (six1 (by decide +kernel)) (show makeM 5 [(2, 0)] = (4, 0) from by decide +kernel))
  have C3 := Lib.hid (fun w => all_at (x := 6) 5 (by decide +kernel) (lit2 w 2 0 2 0) (six2 (by decide +kernel) (by decide +kernel)) (show makeM 5 [(2, 0), (2, 0)] = (4, 0) from by decide +kernel))
  have D := Lib.hid (fun (w w' : World) (o : Obj) (h : Below w.heap.size w w') => h.alloc h.size o)
  have C0 := Lib.hid c0
  have C1 := Lib.hid c1
  clear c0 c1
  go_enter Try.func10, Try.ntmps10
  go_wp2_with fail
  refine (C0.out _).mono ?_
  rintro x w' ⟨rfl, rfl⟩
  go_wp2_with fail
  refine (C1.out _).mono ?_
  rintro x w' ⟨rfl, rfl⟩
  go_wp2_with fail
  refine (C2.out w).mono ?_
  rintro e w' ⟨rfl, rfl⟩
  have D1 := Lib.hid (D.out w w (.cells #[.complex .f64 (fl 2) (fl 0)] 23) (Below.refl _ _))
  generalize w.alloc (.cells #[.complex .f64 (fl 2) (fl 0)] 23) = w1 at *
  go_wp2_with fail
  refine (C3.out w1).mono ?_
  rintro e w' ⟨rfl, rfl⟩
  have D2 := Lib.hid (D.out w w1 (.cells #[.complex .f64 (fl 2) (fl 0), .complex .f64 (fl 2) (fl 0)] 23) D1.out)
  clear D1
  generalize w1.alloc (.cells #[.complex .f64 (fl 2) (fl 0), .complex .f64 (fl 2) (fl 0)] 23) = w2 at *
  go_wp2_with fail
  refine (runs_any _).mono ?_
  rintro e w3 ⟨rfl, hb3⟩
  have D3 := Lib.hid (below_step D2.out hb3)
  clear hb3
  go_wp2_with fail
  go_ret
  exact ⟨rfl, D3.out⟩
set_option maxHeartbeats 800000 in
theorem one_5_4 (g i : Int) (w : World) (c0 : ∀ w, Calls Try.prog 13 #[.int .i64 g, .int .i64 0, .int .i64 5] w fun e w' => e = .returned (.int .i64 5) ∧ w = w')
    (c1 : ∀ w, Calls Try.prog 21 #[.int .i64 i] w fun e w' => e = .returned (.complex .f64 (fl 0) (fl 2)) ∧ w = w') :
    Calls Try.prog 10 #[.int .i64 g, .int .i64 i] w fun z w' => z = .returned (.bool true) ∧ Below w.heap.size w w' := by
  have C2 := Lib.hid (fun w => all_at (x := 6) 5 (by decide +kernel) (lit1 w 0 2) (six1 (by decide +kernel)) (show makeM 5 [(0, 2)] = (4, 0) from by decide +kernel))
  have C3 := Lib.hid (fun w => all_at (x := 6) 5 (by decide +kernel) (lit2 w 0 2 0 2) (six2 (by decide +kernel) (by decide +kernel)) (show makeM 5 [(0, 2), (0, 2)] = (4, 0) from by decide +kernel))
  have D := Lib.hid (fun (w w' : World) (o : Obj) (h : Below w.heap.size w w') => h.alloc h.size o)
  have C0 := Lib.hid c0
  have C1 := Lib.hid c1
  clear c0 c1
  go_enter Try.func10, Try.ntmps10
  go_wp2_with fail
  refine (C0.out _).mono ?_
  rintro x w' ⟨rfl, rfl⟩
  go_wp2_with fail
  refine (C1.out _).mono ?_
  rintro x w' ⟨rfl, rfl⟩
  go_wp2_with fail
  refine (C2.out w).mono ?_
  rintro e w' ⟨rfl, rfl⟩
  have D1 := Lib.hid (D.out w w (.cells #[.complex .f64 (fl 0) (fl 2)] 23) (Below.refl _ _))
  generalize w.alloc (.cells #[.complex .f64 (fl 0) (fl 2)] 23) = w1 at *
  go_wp2_with fail
  refine (C3.out w1).mono ?_
  rintro e w' ⟨rfl, rfl⟩
  have D2 := Lib.hid (D.out w w1 (.cells #[.complex .f64 (fl 0) (fl 2), .complex .f64 (fl 0) (fl 2)] 23) D1.out)
  clear D1
  generalize w1.alloc (.cells #[.complex .f64 (fl 0) (fl 2), .complex .f64 (fl 0) (fl 2)] 23) = w2 at *
  go_wp2_with fail
  refine (runs_any _).mono ?_
  rintro e w3 ⟨rfl, hb3⟩
  have D3 := Lib.hid (below_step D2.out hb3)
  clear hb3
  go_wp2_with fail
  go_ret
  exact ⟨rfl, D3.out⟩
set_option maxHeartbeats 800000 in
theorem one_5_5 (g i : Int) (w : World) (c0 : ∀ w, Calls Try.prog 13 #[.int .i64 g, .int .i64 0, .int .i64 5] w fun e w' => e = .returned (.int .i64 5) ∧ w = w')
    (c1 : ∀ w, Calls Try.prog 21 #[.int .i64 i] w fun e w' => e = .returned (.complex .f64 (fl 2) (fl 2)) ∧ w = w') :
    Calls Try.prog 10 #[.int .i64 g, .int .i64 i] w fun z w' => z = .returned (.bool true) ∧ Below w.heap.size w w' := by
  have C2 := Lib.hid (fun w => all_at (x := 6) 5 (by decide +kernel) (lit1 w 2 2) (six1 (by decide +kernel)) (show makeM 5 [(2, 2)] = (4, 0) from by decide +kernel))
  have C3 := Lib.hid (fun w => all_at (x := 6) 5 (by decide +kernel) (lit2 w 2 2 2 2) (six2 (by decide +kernel) (by decide +kernel)) (show makeM 5 [(2, 2), (2, 2)] = (4, 0) from by decide +kernel))
  have D := Lib.hid (fun (w w' : World) (o : Obj) (h : Below w.heap.size w w') => h.alloc h.size o)
  have C0 := Lib.hid c0
  have C1 := Lib.hid c1
  clear c0 c1
  go_enter Try.func10, Try.ntmps10
  go_wp2_with fail
  refine (C0.out _).mono ?_
  rintro x w' ⟨rfl, rfl⟩
  go_wp2_with fail
  refine (C1.out _).mono ?_
  rintro x w' ⟨rfl, rfl⟩
  go_wp2_with fail
  refine (C2.out w).mono ?_
  rintro e w' ⟨rfl, rfl⟩
  have D1 := Lib.hid (D.out w w (.cells #[.complex .f64 (fl 2) (fl 2)] 23) (Below.refl _ _))
  generalize w.alloc (.cells #[.complex .f64 (fl 2) (fl 2)] 23) = w1 at *
  go_wp2_with fail
  refine (C3.out w1).mono ?_
  rintro e w' ⟨rfl, rfl⟩
  have D2 := Lib.hid (D.out w w1 (.cells #[.complex .f64 (fl 2) (fl 2), .complex .f64 (fl 2) (fl 2)] 23) D1.out)
  clear D1
  generalize w1.alloc (.cells #[.complex .f64 (fl 2) (fl 2), .complex .f64 (fl 2) (fl 2)] 23) = w2 at *
  go_wp2_with fail
  refine (runs_any _).mono ?_
  rintro e w3 ⟨rfl, hb3⟩
  have D3 := Lib.hid (below_step D2.out hb3)
  clear hb3
  go_wp2_with fail
  go_ret
  exact ⟨rfl, D3.out⟩
theorem combineOne_walk (g : Int) (hg : (Lit.int .i64 g).wf = true) (i : Int) (hi : (Lit.int .i64 i).wf = true) (w : World) :
    Calls Try.prog 10 #[.int .i64 g, .int .i64 i] w fun z w' => z = .returned (.bool true) ∧ Below w.heap.size w w' := by
  obtain ⟨a, v, x, c0, hx, hv⟩ := alg_cases g
  obtain ⟨p, d, c1, hr⟩ := six_cases i
  have h6 := six_of p d hr
  obtain ⟨rfl, rfl, rfl⟩ | ⟨rfl, rfl, rfl⟩ | ⟨rfl, rfl, rfl⟩ | ⟨rfl, rfl, rfl⟩ | ⟨rfl, rfl, rfl⟩ | ⟨rfl, rfl, rfl⟩ := hv
  · obtain ⟨rfl, rfl⟩ | ⟨rfl, rfl⟩ | ⟨rfl, rfl⟩ | ⟨rfl, rfl⟩ | ⟨rfl, rfl⟩ | ⟨rfl, rfl⟩ := h6
    · exact one_0_0 g i w c0 c1
    · exact one_0_1 g i w c0 c1
    · exact one_0_2 g i w c0 c1
    · exact one_0_3 g i w c0 c1
    · exact one_0_4 g i w c0 c1
    · exact one_0_5 g i w c0 c1
  · obtain ⟨rfl, rfl⟩ | ⟨rfl, rfl⟩ | ⟨rfl, rfl⟩ | ⟨rfl, rfl⟩ | ⟨rfl, rfl⟩ | ⟨rfl, rfl⟩ := h6
    · exact one_1_0 g i w c0 c1
    · exact one_1_1 g i w c0 c1
    · exact one_1_2 g i w c0 c1
    · exact one_1_3 g i w c0 c1
    · exact one_1_4 g i w c0 c1
    · exact one_1_5 g i w c0 c1
  · obtain ⟨rfl, rfl⟩ | ⟨rfl, rfl⟩ | ⟨rfl, rfl⟩ | ⟨rfl, rfl⟩ | ⟨rfl, rfl⟩ | ⟨rfl, rfl⟩ := h6
    · exact one_2_0 g i w c0 c1
    · exact one_2_1 g i w c0 c1
    · exact one_2_2 g i w c0 c1
    · exact one_2_3 g i w c0 c1
    · exact one_2_4 g i w c0 c1
    · exact one_2_5 g i w c0 c1
  · obtain ⟨rfl, rfl⟩ | ⟨rfl, rfl⟩ | ⟨rfl, rfl⟩ | ⟨rfl, rfl⟩ | ⟨rfl, rfl⟩ | ⟨rfl, rfl⟩ := h6
    · exact one_3_0 g i w c0 c1
    · exact one_3_1 g i w c0 c1
    · exact one_3_2 g i w c0 c1
    · exact one_3_3 g i w c0 c1
    · exact one_3_4 g i w c0 c1
    · exact one_3_5 g i w c0 c1
  · obtain ⟨rfl, rfl⟩ | ⟨rfl, rfl⟩ | ⟨rfl, rfl⟩ | ⟨rfl, rfl⟩ | ⟨rfl, rfl⟩ | ⟨rfl, rfl⟩ := h6
    · exact one_4_0 g i w c0 c1
    · exact one_4_1 g i w c0 c1
    · exact one_4_2 g i w c0 c1
    · exact one_4_3 g i w c0 c1
    · exact one_4_4 g i w c0 c1
    · exact one_4_5 g i w c0 c1
  · obtain ⟨rfl, rfl⟩ | ⟨rfl, rfl⟩ | ⟨rfl, rfl⟩ | ⟨rfl, rfl⟩ | ⟨rfl, rfl⟩ | ⟨rfl, rfl⟩ := h6
    · exact one_5_0 g i w c0 c1
    · exact one_5_1 g i w c0 c1
    · exact one_5_2 g i w c0 c1
    · exact one_5_3 g i w c0 c1
    · exact one_5_4 g i w c0 c1
    · exact one_5_5 g i w c0 c1
end Go.Proofs.Ytjkigjgpdbedmaa
