/- MarkLaws: the walk. -/
import Derived.Test.YtpefcocmmpcipaaMarkRuns
namespace Go.Proofs.Ytpefcocmmpcipaa
open Go.RowKit
set_option linter.unusedVariables false
attribute [local go_sem] eq0 eq2 eq4 gt0 gt2 ord_eq ord_gt ord_lt run_max_fl

theorem join_comm (p q : Fin 5) : hiF p q = hiF q p := by revert p q; decide
theorem join_assoc (p q r : Fin 5) : hiF p (hiF q r) = hiF (hiF p q) r := by revert p q r; decide
theorem join_self (p : Fin 5) : hiF p p = p := by revert p; decide
theorem join_zero (p : Fin 5) : hiF p 0 = p := by revert p; decide
theorem right_turn (i : Fin 6) : rightM (sixD i) (sixP i) = true := by revert i; decide
set_option maxHeartbeats 6400000 in
theorem markLaws_walk (i : Int) (hi : (Lit.int .i64 i).wf = true) (k : Int) (hk : (Lit.int .i64 k).wf = true) (n : Int) (hn : (Lit.int .i64 n).wf = true) (w : World) :
    Calls Try.prog 5 #[.int .i64 i, .int .i64 k, .int .i64 n] w fun z w' => z = .returned (.bool true) ∧ Below w.heap.size w w' := by
  clear hi hk hn
  have c0 := fun w => six_any i w
  have c1 := fun w => six_any k w
  have c2 := fun w => six_any n w
  generalize sx i = a at *
  generalize sx k = b at *
  generalize sx n = c at *
  have C0 := Lib.hid c0
  have C1 := Lib.hid c1
  have C2 := Lib.hid c2
  clear c0 c1 c2
  have HR := Lib.hid (right_turn a)
  have hj := fun w => join_any (sixP a) (sixD a) 0 0 w
  rw [join_zero, join_zero, fl0] at hj
  have HJ := Lib.hid hj
  clear hj
  go_enter Try.func5, Try.ntmps5
  go_wp2_with fail
  refine (C0.out _).mono ?_
  rintro z w' ⟨rfl, rfl⟩
  go_wp2_with fail
  refine (C1.out _).mono ?_
  rintro z w' ⟨rfl, rfl⟩
  go_wp2_with fail
  refine (C2.out _).mono ?_
  rintro z w' ⟨rfl, rfl⟩
  go_wp2_with fail
  refine (join_any _ _ _ _ _).mono ?_
  rintro z w' ⟨rfl, rfl⟩
  go_wp2_with fail
  refine (join_any _ _ _ _ _).mono ?_
  rintro z w' ⟨rfl, rfl⟩
  rw [join_comm (sixP b) (sixP a), join_comm (sixD b) (sixD a)]
  go_wp2_with fail
  refine (join_any _ _ _ _ _).mono ?_
  rintro z w' ⟨rfl, rfl⟩
  go_wp2_with fail
  refine (join_any _ _ _ _ _).mono ?_
  rintro z w' ⟨rfl, rfl⟩
  go_wp2_with fail
  refine (join_any _ _ _ _ _).mono ?_
  rintro z w' ⟨rfl, rfl⟩
  go_wp2_with fail
  refine (join_any _ _ _ _ _).mono ?_
  rintro z w' ⟨rfl, rfl⟩
  rw [← join_assoc, ← join_assoc]
  go_wp2_with fail
  refine (join_any _ _ _ _ _).mono ?_
  rintro z w' ⟨rfl, rfl⟩
  rw [join_self, join_self]
  go_wp2_with fail
  refine (HJ.out _).mono ?_
  rintro z w' ⟨rfl, rfl⟩
  go_wp2_with fail
  refine (turn_any _ _ _).mono ?_
  rintro z w' ⟨rfl, rfl⟩
  go_wp2_with fail
  refine (turn_any _ _ _).mono ?_
  rintro z w' ⟨rfl, rfl⟩
  go_wp2_with fail
  refine (join_any _ _ _ _ _).mono ?_
  rintro z w' ⟨rfl, rfl⟩
  go_wp2_with fail
  refine (turn_any _ _ _).mono ?_
  rintro z w' ⟨rfl, rfl⟩
  go_wp2_with fail
  refine (turn_any _ _ _).mono ?_
  rintro z w' ⟨rfl, rfl⟩
  go_wp2_with fail
  refine (turn_any _ _ _).mono ?_
  rintro z w' ⟨rfl, rfl⟩
  go_wp2_with fail
  refine (join_any _ _ _ _ _).mono ?_
  rintro z w' ⟨rfl, rfl⟩
  go_wp2_with fail
  refine (turn_any _ _ _).mono ?_
  rintro z w' ⟨rfl, rfl⟩
  go_wp2_with fail
  refine (mright_any _ _ _).mono ?_
  rintro z w' ⟨rfl, rfl⟩
  rw [HR.out]
  go_wp2_with fail
  refine (runs_any _).mono ?_
  rintro z w' ⟨rfl, rfl⟩
  go_wp2_with fail
  go_ret
  exact ⟨rfl, Below.refl _ _⟩
end Go.Proofs.Ytpefcocmmpcipaa
