/- Add, Sub, Mul: the project's and the reference's. -/
import Derived.Test.YtjcegpakacedoaaFunMath
namespace Go.Proofs.Ytjcegpakacedoaa
set_option linter.unusedVariables false
open Go.RowKit

theorem ret_fits {a x : Int} {p : Int × Int} (h : p = (a, x)) : Ending.returned (.tuple #[.int .i64 a, .int .i64 x]) = .returned (.tuple #[.int .i64 p.1, .int .i64 p.2]) := by rw [h]

theorem add_any (a b : Int) (ha : In64 a) (hb : In64 b) (w : World) :
    Calls Try.prog 9 #[.int .i64 a, .int .i64 b] w fun e w' => e = .returned (.tuple #[.int .i64 (fits (a + b)).1, .int .i64 (fits (a + b)).2]) ∧ w = w' := by
  obtain ⟨c, hc⟩ : ∃ c, IntKind.i64.wrap (a + b) = c := ⟨_, rfl⟩
  have HC := Lib.hid hc
  go_enter Try.func9, Try.ntmps9
  go_wp2_with fail
  all_goals
    rename_i h
    have H := Lib.hid h
    clear h
    go_ret2
  · exact ⟨ret_fits (sum_no ha hb HC.out (bne_iff_yes H.out)), rfl⟩
  · exact ⟨ret_fits (sum_yes ha hb HC.out (bne_iff_no H.out)), rfl⟩
theorem sub_any (a b : Int) (ha : In64 a) (hb : In64 b) (w : World) :
    Calls Try.prog 14 #[.int .i64 a, .int .i64 b] w fun e w' => e = .returned (.tuple #[.int .i64 (fits (a - b)).1, .int .i64 (fits (a - b)).2]) ∧ w = w' := by
  obtain ⟨c, hc⟩ : ∃ c, IntKind.i64.wrap (a - b) = c := ⟨_, rfl⟩
  have HC := Lib.hid hc
  go_enter Try.func14, Try.ntmps14
  go_wp2_with fail
  all_goals
    rename_i h
    have H := Lib.hid h
    clear h
    go_ret2
  · exact ⟨ret_fits (rest_no ha hb HC.out (bne_iff_yes H.out)), rfl⟩
  · exact ⟨ret_fits (rest_yes ha hb HC.out (bne_iff_no H.out)), rfl⟩
theorem mul_any (a b : Int) (ha : In64 a) (hb : In64 b) (w : World) :
    Calls Try.prog 10 #[.int .i64 a, .int .i64 b] w fun e w' => e = .returned (.tuple #[.int .i64 (fits (a * b)).1, .int .i64 (fits (a * b)).2]) ∧ w = w' := by
  by_cases h0 : a = 0
  · subst h0
    go_enter Try.func10, Try.ntmps10
    go_wp2_with fail
    go_ret2
    exact ⟨ret_fits (by rw [Int.zero_mul]; rfl), rfl⟩
  · by_cases h1 : a = -1
    · subst h1
      have C := Lib.hid (sub_any 0 b (by decide) hb)
      go_enter Try.func10, Try.ntmps10
      go_wp2_with fail
      refine (C.out _).mono ?_
      rintro e w' ⟨rfl, rfl⟩
      go_wp2_with fail
      go_ret2
      exact ⟨ret_fits (a := (fits (-b)).1) (x := (fits (-b)).2) (by rw [← neg_one, Int.zero_sub]), rfl⟩
    · have H0 := Lib.hid h0
      have H1 := Lib.hid h1
      have b0 : (a == 0) = false := by rw [beq_eq_false_iff_ne]; exact h0
      have b1 : (a == -1) = false := by rw [beq_eq_false_iff_ne]; exact h1
      obtain ⟨c, hc⟩ : ∃ c, IntKind.i64.wrap (a * b) = c := ⟨_, rfl⟩
      have HC := Lib.hid hc
      go_enter Try.func10, Try.ntmps10
      go_wp2_with fail
      all_goals
        rename_i h
        have H := Lib.hid h
        clear h
        go_ret2
      · exact ⟨ret_fits (prod_no ha hb H0.out H1.out HC.out (ne_yes H.out)), rfl⟩
      · exact ⟨ret_fits (prod_yes ha H0.out H1.out HC.out (ne_no H.out)), rfl⟩

theorem refadd_any (a b : Int) (ha : In64 a) (hb : In64 b) (w : World) :
    Calls Try.prog 15 #[.int .i64 a, .int .i64 b] w fun e w' => e = .returned (.tuple #[.int .i64 (fits (a + b)).1, .int .i64 (fits (a + b)).2]) ∧ w = w' := by
  by_cases h0 : b = 0
  · subst h0
    have hw := wrap_in ha
    have HA := Lib.hid ha
    have hx : IntKind.i64.wrap (a + 0) = a := by rw [Int.add_zero]; exact hw
    go_enter Try.func15, Try.ntmps15
    go_wp2_with fail
    go_ret2
    exact ⟨ret_fits (by rw [Int.add_zero]; exact fits_in HA.out), rfl⟩
  · obtain ⟨c, hc⟩ : ∃ c, IntKind.i64.wrap (a + b) = c := ⟨_, rfl⟩
    have HC := Lib.hid hc
    have H0 := Lib.hid h0
    have hb0 : (b != 0) = true := by rw [bne_iff_ne]; exact h0
    by_cases h1 : a < c <;> by_cases h2 : 0 < b
    all_goals
      have HA := Lib.hid h1
      have HB := Lib.hid h2
      go_enter Try.func15, Try.ntmps15
      go_wp2_with fail
      go_ret2
      first
        | exact ⟨ret_fits (rsum_no ha hb H0.out HC.out (by have := HA.out; have := HB.out; omega)), rfl⟩
        | exact ⟨ret_fits (rsum_yes ha hb H0.out HC.out (by have := HA.out; have := HB.out; omega)), rfl⟩
theorem refsub_any (a b : Int) (ha : In64 a) (hb : In64 b) (w : World) :
    Calls Try.prog 16 #[.int .i64 a, .int .i64 b] w fun e w' => e = .returned (.tuple #[.int .i64 (fits (a - b)).1, .int .i64 (fits (a - b)).2]) ∧ w = w' := by
  by_cases h0 : b = 0
  · subst h0
    have hw := wrap_in ha
    have HA := Lib.hid ha
    have hx : IntKind.i64.wrap (a - 0) = a := by rw [Int.sub_zero]; exact hw
    go_enter Try.func16, Try.ntmps16
    go_wp2_with fail
    go_ret2
    exact ⟨ret_fits (by rw [Int.sub_zero]; exact fits_in HA.out), rfl⟩
  · obtain ⟨c, hc⟩ : ∃ c, IntKind.i64.wrap (a - b) = c := ⟨_, rfl⟩
    have HC := Lib.hid hc
    have H0 := Lib.hid h0
    have hb0 : (b != 0) = true := by rw [bne_iff_ne]; exact h0
    by_cases h1 : c < a <;> by_cases h2 : 0 < b
    all_goals
      have HA := Lib.hid h1
      have HB := Lib.hid h2
      go_enter Try.func16, Try.ntmps16
      go_wp2_with fail
      go_ret2
      first
        | exact ⟨ret_fits (rrest_no ha hb H0.out HC.out (by have := HA.out; have := HB.out; omega)), rfl⟩
        | exact ⟨ret_fits (rrest_yes ha hb H0.out HC.out (by have := HA.out; have := HB.out; omega)), rfl⟩
set_option maxHeartbeats 800000 in
theorem refmul_any (a b : Int) (ha : In64 a) (hb : In64 b) (w : World) :
    Calls Try.prog 17 #[.int .i64 a, .int .i64 b] w fun e w' => e = .returned (.tuple #[.int .i64 (fits (a * b)).1, .int .i64 (fits (a * b)).2]) ∧ w = w' := by
  by_cases h0 : a = 0
  · subst h0
    go_enter Try.func17, Try.ntmps17
    go_wp2_with fail
    go_ret2
    exact ⟨ret_fits (by rw [Int.zero_mul]; rfl), rfl⟩
  · have a0 : (a == 0) = false := by rw [beq_eq_false_iff_ne]; exact h0
    by_cases h1 : b = 0
    · subst h1
      go_enter Try.func17, Try.ntmps17
      go_wp2_with fail
      go_ret2
      exact ⟨ret_fits (by rw [Int.mul_zero]; rfl), rfl⟩
    · have b0 : (b == 0) = false := by rw [beq_eq_false_iff_ne]; exact h1
      obtain ⟨c, hc⟩ : ∃ c, IntKind.i64.wrap (a * b) = c := ⟨_, rfl⟩
      have HC := Lib.hid hc
      have H0 := Lib.hid h0
      have H1 := Lib.hid h1
      by_cases hq : wrap64 (Int.tdiv c b) = a
      · have HQ := Lib.hid hq
        have hq' : (wrap64 (Int.tdiv c b) != a) = false := by rw [hq]; simp
        clear hq
        by_cases x1 : a = -1
        · by_cases x2 : b = -9223372036854775808
          · exact (rprod_never x1 x2 HC.out HQ.out).elim
          · have X2 : Hid (b = -1 → a ≠ -9223372036854775808) := fun _ => by omega
            have y1 : (a == -1) = true := by rw [beq_iff_eq]; exact x1
            have y2 : (b == -9223372036854775808) = false := by rw [beq_eq_false_iff_ne]; exact x2
            have y4 : (a == -9223372036854775808) = false := by rw [beq_eq_false_iff_ne]; omega
            clear x1 x2
            go_enter Try.func17, Try.ntmps17
            go_wp2_with fail
            all_goals
              go_ret2
              exact ⟨ret_fits (rprod_yes ha hb H1.out HC.out HQ.out X2.out), rfl⟩
        · have y1 : (a == -1) = false := by rw [beq_eq_false_iff_ne]; exact x1
          by_cases x3 : b = -1
          · have y3 : (b == -1) = true := by rw [beq_iff_eq]; exact x3
            by_cases x4 : a = -9223372036854775808
            · have y4 : (a == -9223372036854775808) = true := by rw [beq_iff_eq]; exact x4
              have X : Hid (fits (a * b) = (0, 3)) := by show _ = _; rw [x3, x4]; decide +kernel
              clear x1 x3 x4
              go_enter Try.func17, Try.ntmps17
              go_wp2_with fail
              all_goals
                go_ret2
                exact ⟨ret_fits X.out, rfl⟩
            · have y4 : (a == -9223372036854775808) = false := by rw [beq_eq_false_iff_ne]; exact x4
              have X4 : Hid (b = -1 → a ≠ -9223372036854775808) := fun _ => x4
              clear x1 x3 x4
              go_enter Try.func17, Try.ntmps17
              go_wp2_with fail
              all_goals
                go_ret2
                exact ⟨ret_fits (rprod_yes ha hb H1.out HC.out HQ.out X4.out), rfl⟩
          · have y3 : (b == -1) = false := by rw [beq_eq_false_iff_ne]; exact x3
            have X3 : Hid (b = -1 → a ≠ -9223372036854775808) := fun h => absurd h x3
            clear x1 x3
            go_enter Try.func17, Try.ntmps17
            go_wp2_with fail
            all_goals
              go_ret2
              exact ⟨ret_fits (rprod_yes ha hb H1.out HC.out HQ.out X3.out), rfl⟩
      · have HQ := Lib.hid hq
        have hq' : (wrap64 (Int.tdiv c b) != a) = true := by rw [bne_iff_ne]; exact hq
        clear hq
        go_enter Try.func17, Try.ntmps17
        go_wp2_with fail
        all_goals
          go_ret2
          exact ⟨ret_fits (rprod_no ha H1.out HC.out HQ.out), rfl⟩
end Go.Proofs.Ytjcegpakacedoaa
