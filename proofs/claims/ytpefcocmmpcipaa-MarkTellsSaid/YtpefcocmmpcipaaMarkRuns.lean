/- MarkRuns: the walk; a mark of two numbers (some), one of the six (six). -/
import Derived.Test.YtpefcocmmpcipaaMarks
namespace Go.Proofs.Ytpefcocmmpcipaa
open Go.RowKit
attribute [local go_sem] eq0 eq2 eq4 gt0 gt2 ord_eq ord_gt ord_lt run_max_fl

theorem c00 : (FloatKind.f64.format.order 0 0 == some .eq) = true := by decide +kernel
theorem c22 : (FloatKind.f64.format.order 4602678819172646912 4602678819172646912 == some .eq) = true := by decide +kernel
theorem c44 : (FloatKind.f64.format.order 4607182418800017408 4607182418800017408 == some .eq) = true := by decide +kernel
attribute [local go_sem] c00 c22 c44

set_option maxHeartbeats 1600000 in
theorem runs_any (w : World) : Calls Try.prog 3 #[] w fun e w' => e = .returned (.bool true) ∧ w = w' := by
  have j1 := fun w => join_any 4 0 0 2 w
  have j2 := fun w => join_any 4 0 2 0 w
  have o1 := fun w => over_any 4 2 w
  have o2 := fun w => over_any 4 0 w
  have t1 := fun w => turn_any 0 2 w
  have n1 := fun w => mname_any 2 2 w
  have k1 : hiF 4 0 = 4 := by decide
  have k2 : hiF 0 2 = 2 := by decide
  have k3 : hiF 4 2 = 4 := by decide
  have k4 : hiF 0 0 = 0 := by decide
  have k5 : overP 4 2 = 2 := by decide
  have k6 : overD 4 2 = 2 := by decide
  have k7 : overP 4 0 = 4 := by decide
  have k8 : overD 4 0 = 0 := by decide
  have k9 : nameM 2 2 = [73, 110, 100, 101, 116, 101, 114, 109, 105, 110, 97, 116, 101, 123, 68, 80, 125] := by decide
  rw [k1, k2] at j1
  rw [k3, k4] at j2
  rw [k5, k6] at o1
  rw [k7, k8] at o2
  rw [k9] at n1
  rw [fl0, fl2, fl4] at j1
  rw [fl0, fl2, fl4] at j2
  rw [fl2, fl4] at o1
  rw [fl0, fl4] at o2
  rw [fl0, fl2] at t1
  rw [fl2] at n1
  have J1 := Lib.hid j1
  have J2 := Lib.hid j2
  have O1 := Lib.hid o1
  have O2 := Lib.hid o2
  have T1 := Lib.hid t1
  have N1 := Lib.hid n1
  clear j1 j2 o1 o2 t1 n1 k1 k2 k3 k4 k5 k6 k7 k8 k9
  go_enter Try.func3, Try.ntmps3
  go_wp2_with fail
  refine (J1.out _).mono ?_
  rintro e w' ⟨rfl, rfl⟩
  go_wp2_with fail
  refine (O1.out _).mono ?_
  rintro e w' ⟨rfl, rfl⟩
  go_wp2_with fail
  refine (J2.out _).mono ?_
  rintro e w' ⟨rfl, rfl⟩
  go_wp2_with fail
  refine (O2.out _).mono ?_
  rintro e w' ⟨rfl, rfl⟩
  go_wp2_with fail
  refine (T1.out _).mono ?_
  rintro e w' ⟨rfl, rfl⟩
  go_wp2_with fail
  refine (N1.out _).mono ?_
  rintro e w' ⟨rfl, rfl⟩
  go_wp2_with fail
  go_ret
  exact ⟨rfl, rfl⟩
theorem markRuns_walk (w : World) : Calls Try.prog 3 #[] w fun e w' => e = .returned (.bool true) ∧ Below w.heap.size w w' :=
  (runs_any w).mono fun _ _ ⟨h, hw⟩ => ⟨h, hw ▸ Below.refl _ _⟩

/-- The quarters of a number; one of the six of a number. -/
def qt (n : Int) : Fin 5 := ⟨(withinOf n 0 4).toNat, by have := within_le (n := n) (lo := 0) (hi := 4) (by omega); omega⟩
theorem qt_eq (n : Int) : withinOf n 0 4 = ((qt n).val : Int) := by
  have := within_le (n := n) (lo := 0) (hi := 4) (by omega)
  simp only [qt]; omega
def sx (n : Int) : Fin 6 := ⟨(withinOf n 0 5).toNat, by have := within_le (n := n) (lo := 0) (hi := 5) (by omega); omega⟩
theorem sx_eq (n : Int) : withinOf n 0 5 = ((sx n).val : Int) := by
  have := within_le (n := n) (lo := 0) (hi := 5) (by omega)
  simp only [sx]; omega
def sixP (i : Fin 6) : Fin 5 := if i = 1 then 4 else if i = 3 ∨ i = 5 then 2 else 0
def sixD (i : Fin 6) : Fin 5 := if i = 2 then 4 else if i = 4 ∨ i = 5 then 2 else 0
theorem six6 : ∀ i : Fin 6, i = 0 ∨ i = 1 ∨ i = 2 ∨ i = 3 ∨ i = 4 ∨ i = 5 := by decide

set_option maxHeartbeats 800000 in
theorem part_any (n : Int) (w : World) : Calls Try.prog 22 #[.int .i64 n] w fun e w' => e = .returned (.float .f64 (fl (qt n))) ∧ w = w' := by
  have hq := fun w => run_float_arith (P := Try.prog) w .quo 34 .f64 _ _ _ (quarter (qt n))
  have HI := Lib.hid (qt_eq n)
  go_enter Try.func22, Try.ntmps22
  go_wp2_with fail
  refine (within_any (n := n) (lo := 0) (hi := 4) (by omega) (by omega) (by omega)).mono ?_
  rintro e w' ⟨rfl, rfl⟩
  rw [HI.out]
  go_wp2
  go_ret
  exact ⟨rfl, rfl⟩

set_option maxHeartbeats 800000 in
theorem some_any (p d : Int) (w : World) : Calls Try.prog 13 #[.int .i64 p, .int .i64 d] w fun e w' => e = .returned (.complex .f64 (fl (qt p)) (fl (qt d))) ∧ w = w' := by
  go_enter Try.func13, Try.ntmps13
  go_wp2_with fail
  refine (part_any p _).mono ?_
  rintro e w' ⟨rfl, rfl⟩
  go_wp2_with fail
  refine (part_any d _).mono ?_
  rintro e w' ⟨rfl, rfl⟩
  go_wp2
  go_ret
  exact ⟨rfl, rfl⟩
set_option maxHeartbeats 1600000 in
theorem six_any (n : Int) (w : World) : Calls Try.prog 21 #[.int .i64 n] w fun e w' => e = .returned (.complex .f64 (fl (sixP (sx n))) (fl (sixD (sx n)))) ∧ w = w' := by
  have h := sx_eq n
  generalize sx n = i at *
  have HI := Lib.hid h
  clear h
  obtain rfl | rfl | rfl | rfl | rfl | rfl := six6 i
  all_goals
    go_enter Try.func21, Try.ntmps21
    go_wp2_with fail
    refine (within_any (n := n) (lo := 0) (hi := 5) (by omega) (by omega) (by omega)).mono ?_
    rintro e w' ⟨rfl, rfl⟩
    rw [HI.out]
    go_wp2
    go_ret
    exact ⟨ret_c (by decide +kernel) (by decide +kernel), rfl⟩
end Go.Proofs.Ytpefcocmmpcipaa
