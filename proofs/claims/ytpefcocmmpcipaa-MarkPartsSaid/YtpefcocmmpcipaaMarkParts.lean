/- MarkParts: the walk. -/
import Derived.Test.YtpefcocmmpcipaaMarkRuns
namespace Go.Proofs.Ytpefcocmmpcipaa
open Go.RowKit
set_option linter.unusedVariables false
attribute [local go_sem] eq0 eq2 eq4 gt0 gt2 ord_eq ord_gt ord_lt run_max_fl

attribute [local go_sem] hiF overP overD indetP indetD rightM nameM sixP sixD

theorem ord_ne (i j : Fin 5) : (FloatKind.f64.format.order (fl i) (fl j) != some .eq) = !(i == j) := by simp only [bne, ord_eq]
attribute [local go_sem] ord_ne
theorem q0 : (FloatKind.f64.format.order 4611686018427387904 0 == some .eq) = false := by decide +kernel
theorem q2 : (FloatKind.f64.format.order 4611686018427387904 4602678819172646912 == some .eq) = false := by decide +kernel
theorem q4 : (FloatKind.f64.format.order 4611686018427387904 4607182418800017408 == some .eq) = false := by decide +kernel
attribute [local go_sem] q0 q2 q4
set_option maxHeartbeats 800000 in
theorem name2_any (w : World) : Calls Try.prog 12 #[.complex .f64 4611686018427387904 0] w fun z w' => z = .returned (.string ⟨#[]⟩) ∧ w = w' := by
  go_enter Try.func12, Try.ntmps12
  go_wp2
  go_ret
  exact ⟨rfl, rfl⟩
set_option maxHeartbeats 25600000 in
theorem markParts_walk (i : Int) (hi : (Lit.int .i64 i).wf = true) (k : Int) (hk : (Lit.int .i64 k).wf = true) (w : World) :
    Calls Try.prog 8 #[.int .i64 i, .int .i64 k] w fun z w' => z = .returned (.bool true) ∧ Below w.heap.size w w' := by
  clear hi hk
  have c0 := fun w => six_any i w
  have c1 := fun w => six_any k w
  generalize sx i = a at *
  generalize sx k = b at *
  obtain rfl | rfl | rfl | rfl | rfl | rfl := six6 a
  all_goals
    obtain rfl | rfl | rfl | rfl | rfl | rfl := six6 b
    all_goals
      simp only [sixP, sixD, Fin.reduceEq, if_true, if_false, or_false, false_or, or_self] at c0
      have C0 := Lib.hid c0
      simp only [sixP, sixD, Fin.reduceEq, if_true, if_false, or_false, false_or, or_self] at c1
      have C1 := Lib.hid c1
      clear c0 c1
      go_enter Try.func8, Try.ntmps8
      go_wp2_with fail
      refine (C0.out _).mono ?_
      rintro z w' ⟨rfl, rfl⟩
      go_wp2_with fail
      refine (C1.out _).mono ?_
      rintro z w' ⟨rfl, rfl⟩
      go_wp2_with fail
      refine (join_any _ _ _ _ _).mono ?_
      rintro z w' ⟨rfl, rfl⟩
      go_wp2_with fail
      refine (turn_any _ _ _).mono ?_
      rintro z w' ⟨rfl, rfl⟩
      go_wp2_with fail
      refine (over_any _ _ _).mono ?_
      rintro z w' ⟨rfl, rfl⟩
      go_wp2_with fail
      refine (turn_any _ _ _).mono ?_
      rintro z w' ⟨rfl, rfl⟩
      go_wp2_with fail
      refine (over_any _ _ _).mono ?_
      rintro z w' ⟨rfl, rfl⟩
      go_wp2_with fail
      refine (mname_any _ _ _).mono ?_
      rintro z w' ⟨rfl, rfl⟩
      go_wp2_with fail
      refine (mname_any _ _ _).mono ?_
      rintro z w' ⟨rfl, rfl⟩
      go_wp2_with fail
      refine (name2_any _).mono ?_
      rintro z w' ⟨rfl, rfl⟩
      go_wp2_with fail
      refine (runs_any _).mono ?_
      rintro z w' ⟨rfl, rfl⟩
      go_wp2_with fail
      go_ret
      exact ⟨rfl, Below.refl _ _⟩
end Go.Proofs.Ytpefcocmmpcipaa
