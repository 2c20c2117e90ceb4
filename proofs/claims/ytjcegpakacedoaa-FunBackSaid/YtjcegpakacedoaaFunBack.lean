/- FunBack: the walk. -/
import Derived.Test.YtjcegpakacedoaaFunRuns
namespace Go.Proofs.Ytjcegpakacedoaa
set_option linter.unusedVariables false
open Go.RowKit Go.Sort

set_option maxHeartbeats 6400000 in
theorem funBack_walk (a : Int) (ha : (Lit.int .i64 a).wf = true) (b : Int) (hb : (Lit.int .i64 b).wf = true) (w : World) :
    Calls Try.prog 5 #[.int .i64 a, .int .i64 b] w fun e w' => e = .returned (.bool true) ∧ Below w.heap.size w w' := by
  have ia : In64 a := wf_bounds ha
  have ib : In64 b := wf_bounds hb
  clear ha hb
  have O1 := Lib.hid (fun w => fits_is (x := a) (e := 0) (by rw [Int.mul_one]; exact fits_in ia) (mul_any a 1 ia (by decide +kernel) w))
  have O2 := Lib.hid (fun w => fits_is (x := 0) (e := 0) (by rw [Int.sub_self]; decide +kernel) (sub_any a a ia ia w))
  by_cases hp : In64 (a + b)
  · have S1 := Lib.hid (fun w => fits_is (fits_in hp) (add_any a b ia ib w))
    have S2 := Lib.hid (fun w => fits_is (x := a + b) (e := 0) (by rw [Int.add_comm b a]; exact fits_in hp) (add_any b a ib ia w))
    have B1 := Lib.hid (fun w => fits_is (x := a) (e := 0) (by rw [show a + b - b = a by omega]; exact fits_in ia) (sub_any (a + b) b hp ib w))
    generalize a + b = p at *
    clear hp
    by_cases hq : In64 (a * b)
    · have P1 := Lib.hid (fun w => fits_is (fits_in hq) (mul_any a b ia ib w))
      have P2 := Lib.hid (fun w => fits_is (x := a * b) (e := 0) (by rw [Int.mul_comm b a]; exact fits_in hq) (mul_any b a ib ia w))
      by_cases h0 : b = 0
      · have hb0 : (b != 0) = false := by rw [h0]; rfl
        generalize a * b = q at *
        clear hq ia ib h0
        go_enter Try.func5, Try.ntmps5
        go_wp2_with fail
        refine (S1.out _).mono ?_
        rintro e w' ⟨rfl, rfl⟩
        go_wp2_with fail
        refine (S2.out _).mono ?_
        rintro e w' ⟨rfl, rfl⟩
        go_wp2_with fail
        refine (P1.out _).mono ?_
        rintro e w' ⟨rfl, rfl⟩
        go_wp2_with fail
        refine (P2.out _).mono ?_
        rintro e w' ⟨rfl, rfl⟩
        go_wp2_with fail
        refine (B1.out _).mono ?_
        rintro e w' ⟨rfl, rfl⟩
        go_wp2_with fail
        refine (O1.out _).mono ?_
        rintro e w' ⟨rfl, rfl⟩
        go_wp2_with fail
        refine (O2.out _).mono ?_
        rintro e w' ⟨rfl, rfl⟩
        go_wp2_with fail
        refine (fruns_any _).mono ?_
        rintro e w1 ⟨rfl, hb⟩
        have D1 := Lib.hid hb
        clear hb
        go_wp2_with fail
        go_ret
        exact ⟨rfl, D1.out⟩
      · have hb0 : (b != 0) = true := by rw [bne_iff_ne]; exact h0
        have hz : (b == 0) = false := by rw [beq_eq_false_iff_ne]; exact h0
        have hmod : Int.tmod (a * b) b = 0 := Int.mul_tmod_left a b
        have hdiv : Int.tdiv (a * b) b = a := Int.mul_tdiv_cancel a h0
        have hwa : wrap64 a = a := IntWalk.wrap64_in a ia
        generalize a * b = q at *
        clear hq ia ib
        go_enter Try.func5, Try.ntmps5
        go_wp2_with fail
        refine (S1.out _).mono ?_
        rintro e w' ⟨rfl, rfl⟩
        go_wp2_with fail
        refine (S2.out _).mono ?_
        rintro e w' ⟨rfl, rfl⟩
        go_wp2_with fail
        refine (P1.out _).mono ?_
        rintro e w' ⟨rfl, rfl⟩
        go_wp2_with fail
        refine (P2.out _).mono ?_
        rintro e w' ⟨rfl, rfl⟩
        go_wp2_with fail
        refine (B1.out _).mono ?_
        rintro e w' ⟨rfl, rfl⟩
        go_wp2_with fail
        refine (O1.out _).mono ?_
        rintro e w' ⟨rfl, rfl⟩
        go_wp2_with fail
        refine (O2.out _).mono ?_
        rintro e w' ⟨rfl, rfl⟩
        go_wp2_with fail
        refine (fruns_any _).mono ?_
        rintro e w1 ⟨rfl, hb⟩
        have D1 := Lib.hid hb
        clear hb
        go_wp2_with fail
        go_ret
        exact ⟨rfl, D1.out⟩
    · have P1 := Lib.hid (fun w => fits_is (fits_out hq) (mul_any a b ia ib w))
      have P2 := Lib.hid (fun w => fits_is (x := 0) (e := 3) (by rw [Int.mul_comm b a]; exact fits_out hq) (mul_any b a ib ia w))
      clear hq ia ib
      go_enter Try.func5, Try.ntmps5
      go_wp2_with fail
      refine (S1.out _).mono ?_
      rintro e w' ⟨rfl, rfl⟩
      go_wp2_with fail
      refine (S2.out _).mono ?_
      rintro e w' ⟨rfl, rfl⟩
      go_wp2_with fail
      refine (P1.out _).mono ?_
      rintro e w' ⟨rfl, rfl⟩
      go_wp2_with fail
      refine (P2.out _).mono ?_
      rintro e w' ⟨rfl, rfl⟩
      go_wp2_with fail
      refine (B1.out _).mono ?_
      rintro e w' ⟨rfl, rfl⟩
      go_wp2_with fail
      refine (O1.out _).mono ?_
      rintro e w' ⟨rfl, rfl⟩
      go_wp2_with fail
      refine (O2.out _).mono ?_
      rintro e w' ⟨rfl, rfl⟩
      go_wp2_with fail
      refine (fruns_any _).mono ?_
      rintro e w1 ⟨rfl, hb⟩
      have D1 := Lib.hid hb
      clear hb
      go_wp2_with fail
      go_ret
      exact ⟨rfl, D1.out⟩
  · have S1 := Lib.hid (fun w => fits_is (fits_out hp) (add_any a b ia ib w))
    have S2 := Lib.hid (fun w => fits_is (x := 0) (e := 3) (by rw [Int.add_comm b a]; exact fits_out hp) (add_any b a ib ia w))
    clear hp
    by_cases hq : In64 (a * b)
    · have P1 := Lib.hid (fun w => fits_is (fits_in hq) (mul_any a b ia ib w))
      have P2 := Lib.hid (fun w => fits_is (x := a * b) (e := 0) (by rw [Int.mul_comm b a]; exact fits_in hq) (mul_any b a ib ia w))
      by_cases h0 : b = 0
      · have hb0 : (b != 0) = false := by rw [h0]; rfl
        generalize a * b = q at *
        clear hq ia ib h0
        go_enter Try.func5, Try.ntmps5
        go_wp2_with fail
        refine (S1.out _).mono ?_
        rintro e w' ⟨rfl, rfl⟩
        go_wp2_with fail
        refine (S2.out _).mono ?_
        rintro e w' ⟨rfl, rfl⟩
        go_wp2_with fail
        refine (P1.out _).mono ?_
        rintro e w' ⟨rfl, rfl⟩
        go_wp2_with fail
        refine (P2.out _).mono ?_
        rintro e w' ⟨rfl, rfl⟩
        go_wp2_with fail
        refine (O1.out _).mono ?_
        rintro e w' ⟨rfl, rfl⟩
        go_wp2_with fail
        refine (O2.out _).mono ?_
        rintro e w' ⟨rfl, rfl⟩
        go_wp2_with fail
        refine (fruns_any _).mono ?_
        rintro e w1 ⟨rfl, hb⟩
        have D1 := Lib.hid hb
        clear hb
        go_wp2_with fail
        go_ret
        exact ⟨rfl, D1.out⟩
      · have hb0 : (b != 0) = true := by rw [bne_iff_ne]; exact h0
        have hz : (b == 0) = false := by rw [beq_eq_false_iff_ne]; exact h0
        have hmod : Int.tmod (a * b) b = 0 := Int.mul_tmod_left a b
        have hdiv : Int.tdiv (a * b) b = a := Int.mul_tdiv_cancel a h0
        have hwa : wrap64 a = a := IntWalk.wrap64_in a ia
        generalize a * b = q at *
        clear hq ia ib
        go_enter Try.func5, Try.ntmps5
        go_wp2_with fail
        refine (S1.out _).mono ?_
        rintro e w' ⟨rfl, rfl⟩
        go_wp2_with fail
        refine (S2.out _).mono ?_
        rintro e w' ⟨rfl, rfl⟩
        go_wp2_with fail
        refine (P1.out _).mono ?_
        rintro e w' ⟨rfl, rfl⟩
        go_wp2_with fail
        refine (P2.out _).mono ?_
        rintro e w' ⟨rfl, rfl⟩
        go_wp2_with fail
        refine (O1.out _).mono ?_
        rintro e w' ⟨rfl, rfl⟩
        go_wp2_with fail
        refine (O2.out _).mono ?_
        rintro e w' ⟨rfl, rfl⟩
        go_wp2_with fail
        refine (fruns_any _).mono ?_
        rintro e w1 ⟨rfl, hb⟩
        have D1 := Lib.hid hb
        clear hb
        go_wp2_with fail
        go_ret
        exact ⟨rfl, D1.out⟩
    · have P1 := Lib.hid (fun w => fits_is (fits_out hq) (mul_any a b ia ib w))
      have P2 := Lib.hid (fun w => fits_is (x := 0) (e := 3) (by rw [Int.mul_comm b a]; exact fits_out hq) (mul_any b a ib ia w))
      clear hq ia ib
      go_enter Try.func5, Try.ntmps5
      go_wp2_with fail
      refine (S1.out _).mono ?_
      rintro e w' ⟨rfl, rfl⟩
      go_wp2_with fail
      refine (S2.out _).mono ?_
      rintro e w' ⟨rfl, rfl⟩
      go_wp2_with fail
      refine (P1.out _).mono ?_
      rintro e w' ⟨rfl, rfl⟩
      go_wp2_with fail
      refine (P2.out _).mono ?_
      rintro e w' ⟨rfl, rfl⟩
      go_wp2_with fail
      refine (O1.out _).mono ?_
      rintro e w' ⟨rfl, rfl⟩
      go_wp2_with fail
      refine (O2.out _).mono ?_
      rintro e w' ⟨rfl, rfl⟩
      go_wp2_with fail
      refine (fruns_any _).mono ?_
      rintro e w1 ⟨rfl, hb⟩
      have D1 := Lib.hid hb
      clear hb
      go_wp2_with fail
      go_ret
      exact ⟨rfl, D1.out⟩

end Go.Proofs.Ytjcegpakacedoaa
