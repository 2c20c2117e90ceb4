/- MarkTells: the walk. -/
import Derived.Test.YtpefcocmmpcipaaMarkRuns
namespace Go.Proofs.Ytpefcocmmpcipaa
open Go.RowKit
set_option linter.unusedVariables false
attribute [local go_sem] eq0 eq2 eq4 gt0 gt2 ord_eq ord_gt ord_lt run_max_fl

theorem seven : ∀ p d : Fin 5, p = 0 ∧ d = 0 ∨ p = 4 ∧ d = 0 ∨ p = 0 ∧ d = 4 ∨ p = 2 ∧ d = 0 ∨ p = 0 ∧ d = 2 ∨ p = 2 ∧ d = 2 ∨
    nameM p d = [] ∧ (p == 0 && d == 0) = false ∧ (p == 4 && d == 0) = false ∧ (p == 0 && d == 4) = false ∧ (p == 2 && d == 0) = false ∧ (p == 0 && d == 2) = false ∧ (p == 2 && d == 2) = false := by decide +kernel
set_option maxHeartbeats 6400000 in
theorem markTells_walk (p : Int) (hp : (Lit.int .i64 p).wf = true) (d : Int) (hd : (Lit.int .i64 d).wf = true) (q : Int) (hq : (Lit.int .i64 q).wf = true) (e : Int) (he : (Lit.int .i64 e).wf = true) (w : World) :
    Calls Try.prog 4 #[.int .i64 p, .int .i64 d, .int .i64 q, .int .i64 e] w fun z w' => z = .returned (.bool true) ∧ Below w.heap.size w w' := by
  clear hp hd hq he
  have c1 := fun w => some_any p d w
  have c2 := fun w => some_any q e w
  generalize qt p = a at *
  generalize qt d = b at *
  generalize qt q = f at *
  generalize qt e = g at *
  have C1 := Lib.hid c1
  have C2 := Lib.hid c2
  clear c1 c2
  obtain ⟨rfl, rfl⟩ | ⟨rfl, rfl⟩ | ⟨rfl, rfl⟩ | ⟨rfl, rfl⟩ | ⟨rfl, rfl⟩ | ⟨rfl, rfl⟩ | ⟨hn, h1, h2, h3, h4, h5, h6⟩ := seven a b
  all_goals
    go_enter Try.func4, Try.ntmps4
    go_wp2_with fail
    refine (C1.out _).mono ?_
    rintro z w' ⟨rfl, rfl⟩
    go_wp2_with fail
    refine (C2.out _).mono ?_
    rintro z w' ⟨rfl, rfl⟩
    go_wp2_with fail
    refine (mright_any _ _ _).mono ?_
    rintro z w' ⟨rfl, rfl⟩
    go_wp2_with fail
    refine (refmark_any _ _ _).mono ?_
    rintro z w' ⟨rfl, rfl⟩
    go_wp2_with fail
    refine (mname_any _ _ _).mono ?_
    rintro z w' ⟨rfl, rfl⟩
    go_wp2_with fail
    refine (indet_any _ _ _).mono ?_
    rintro z w' ⟨rfl, rfl⟩
    go_wp2_with fail
    refine (refindet_any _ _ _).mono ?_
    rintro z w' ⟨rfl, rfl⟩
    go_wp2_with fail
    refine (turn_any _ _ _).mono ?_
    rintro z w' ⟨rfl, rfl⟩
    go_wp2_with fail
    refine (refturn_any _ _ _).mono ?_
    rintro z w' ⟨rfl, rfl⟩
    go_wp2_with fail
    refine (join_any _ _ _ _ _).mono ?_
    rintro z w' ⟨rfl, rfl⟩
    go_wp2_with fail
    refine (refjoin_any _ _ _ _ _).mono ?_
    rintro z w' ⟨rfl, rfl⟩
    go_wp2_with fail
    refine (over_any _ _ _).mono ?_
    rintro z w' ⟨rfl, rfl⟩
    go_wp2_with fail
    refine (refover_any _ _ _).mono ?_
    rintro z w' ⟨rfl, rfl⟩
    go_wp2_with fail
    refine (runs_any _).mono ?_
    rintro z w' ⟨rfl, rfl⟩
    go_wp2_with fail
    go_ret
    exact ⟨rfl, Below.refl _ _⟩
end Go.Proofs.Ytpefcocmmpcipaa
