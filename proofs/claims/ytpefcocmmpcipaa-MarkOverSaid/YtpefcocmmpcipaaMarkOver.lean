/- MarkOver: the walk. -/
import Derived.Test.YtpefcocmmpcipaaMarkRuns
namespace Go.Proofs.Ytpefcocmmpcipaa
open Go.RowKit
set_option linter.unusedVariables false
attribute [local go_sem] eq0 eq2 eq4 gt0 gt2 ord_eq ord_gt ord_lt run_max_fl

attribute [local go_sem] hiF overP overD indetP indetD rightM nameM sixP sixD

set_option maxHeartbeats 25600000 in
theorem markOver_walk (i : Int) (hi : (Lit.int .i64 i).wf = true) (k : Int) (hk : (Lit.int .i64 k).wf = true) (w : World) :
    Calls Try.prog 6 #[.int .i64 i, .int .i64 k] w fun z w' => z = .returned (.bool true) ∧ Below w.heap.size w w' := by
  clear hi hk
  have c0 := fun w => six_any i w
  have c1 := fun w => six_any k w
  generalize sx i = a at *
  generalize sx k = b at *
  obtain rfl | rfl | rfl | rfl | rfl | rfl := six6 a
  all_goals
    obtain rfl | rfl | rfl | rfl | rfl | rfl := six6 b
    all_goals
      simp only [sixP, sixD, Fin.reduceEq, if_true, if_false, or_false, false_or, or_self] at c0
      have C0 := Lib.hid c0
      simp only [sixP, sixD, Fin.reduceEq, if_true, if_false, or_false, false_or, or_self] at c1
      have C1 := Lib.hid c1
      clear c0 c1
      go_enter Try.func6, Try.ntmps6
      go_wp2_with fail
      refine (C0.out _).mono ?_
      rintro z w' ⟨rfl, rfl⟩
      go_wp2_with fail
      refine (C1.out _).mono ?_
      rintro z w' ⟨rfl, rfl⟩
      go_wp2_with fail
      refine (join_any _ _ _ _ _).mono ?_
      rintro z w' ⟨rfl, rfl⟩
      go_wp2_with fail
      refine (over_any _ _ _).mono ?_
      rintro z w' ⟨rfl, rfl⟩
      go_wp2_with fail
      refine (over_any _ _ _).mono ?_
      rintro z w' ⟨rfl, rfl⟩
      go_wp2_with fail
      refine (mright_any _ _ _).mono ?_
      rintro z w' ⟨rfl, rfl⟩
      go_wp2_with fail
      refine (join_any _ _ _ _ _).mono ?_
      rintro z w' ⟨rfl, rfl⟩
      go_wp2_with fail
      refine (over_any _ _ _).mono ?_
      rintro z w' ⟨rfl, rfl⟩
      go_wp2_with fail
      refine (runs_any _).mono ?_
      rintro z w' ⟨rfl, rfl⟩
      go_wp2_with fail
      go_ret
      exact ⟨rfl, Below.refl _ _⟩
end Go.Proofs.Ytpefcocmmpcipaa
