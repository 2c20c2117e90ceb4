/- Which values are right, the project's test and the reference's; the laws' helpers. -/
import Derived.Test.YtjcegpakacedoaaVName
namespace Go.Proofs.Ytjcegpakacedoaa
set_option linter.unusedVariables false
open Go.RowKit

theorem rv1 {n : Int} {l : List UInt8} : RightV 1 n l ↔ l = [] ∧ (n = 0 ∨ n = 1) := by unfold RightV; simp
theorem rv2 {n : Int} {l : List UInt8} : RightV 2 n l ↔ l = [] := by unfold RightV; simp
theorem rv3 {n : Int} {l : List UInt8} : RightV 3 n l ↔ n = 0 ∧ l.length ≤ 64 := by unfold RightV; simp
theorem rv4 {n : Int} {l : List UInt8} : RightV 4 n l ↔ l = [] ∧ 0 ≤ n ∧ n ≤ 1099511627776 := by unfold RightV; simp
theorem rv5 {n : Int} {l : List UInt8} : RightV 5 n l ↔ n = 0 ∧ Named l := by unfold RightV; simp
theorem rv_none {k n : Int} {l : List UInt8} (h : k ≠ 1 ∧ k ≠ 2 ∧ k ≠ 3 ∧ k ≠ 4 ∧ k ≠ 5) : ¬ RightV k n l := by
  obtain ⟨h1, h2, h3, h4, h5⟩ := h
  unfold RightV; simp [h1, h2, h3, h4, h5]
theorem kind_cases (k : Int) : k = 1 ∨ k = 2 ∨ k = 3 ∨ k = 4 ∨ k = 5 ∨ (k ≠ 1 ∧ k ≠ 2 ∧ k ≠ 3 ∧ k ≠ 4 ∧ k ≠ 5) := by omega

theorem inT_any (k : Int) (w : World) : Calls Try.prog 36 #[.int .i64 k] w fun e w' => e = .returned (.bool (inT k)) ∧ w = w' := by
  by_cases h3 : k = 3
  · subst h3
    go_enter Try.func36, Try.ntmps36
    go_wp2_with fail
    go_ret
    exact ⟨rfl, rfl⟩
  · have H3 := Lib.hid h3
    have h3' : (k == 3) = false := by rw [beq_eq_false_iff_ne]; exact h3
    by_cases h5 : k = 5
    · subst h5
      go_enter Try.func36, Try.ntmps36
      go_wp2_with fail
      go_ret
      exact ⟨rfl, rfl⟩
    · have H5 := Lib.hid h5
      have h5' : (k == 5) = false := by rw [beq_eq_false_iff_ne]; exact h5
      clear h3 h5
      go_enter Try.func36, Try.ntmps36
      go_wp2_with fail
      go_ret
      exact ⟨ret_bool (by unfold inT; rw [decide_eq_false H3.out, decide_eq_false H5.out]; rfl), rfl⟩

set_option maxHeartbeats 3200000 in
theorem right_any (k n : Int) (s : ByteArray) (hs : s.size ≤ maxLen) (w : World) :
    Calls Try.prog 30 #[.agg #[.int .i64 k, .int .i64 n, .string s]] w fun e w' => e = .returned (.bool (decide (RightV k n s.data.toList))) ∧ Below w.heap.size w w' := by
  have hln := data_len s
  have hlt : s.toList = s.data.toList := ByteArray.toList_eq s
  have hname := name_any s hs
  generalize hL : s.data.toList = l at *
  have HN := Lib.hid hname
  have HL := Lib.hid hln
  clear hL hname hln
  unfold maxLen at hs
  rcases kind_cases k with rfl | rfl | rfl | rfl | rfl | hk
  · go_enter Try.func30, Try.ntmps30
    go_wp2_with fail
    all_goals
      go_ret
      refine ⟨ret_bool ?_, (Below.refl _ _).alloc (Nat.le_refl _) _⟩
      rw [Bool.eq_iff_iff]
      simp [rv1, *]
  · go_enter Try.func30, Try.ntmps30
    go_wp2_with fail
    all_goals
      go_ret
      refine ⟨ret_bool ?_, (Below.refl _ _).alloc (Nat.le_refl _) _⟩
      rw [Bool.eq_iff_iff]
      simp [rv2, *]
  · go_enter Try.func30, Try.ntmps30
    go_wp2_with fail
    all_goals
      go_ret
      refine ⟨ret_bool ?_, (Below.refl _ _).alloc (Nat.le_refl _) _⟩
      rw [Bool.eq_iff_iff]
      simp [rv3, HL.out, *] <;> omega
  · go_enter Try.func30, Try.ntmps30
    go_wp2_with fail
    all_goals
      go_ret
      refine ⟨ret_bool ?_, (Below.refl _ _).alloc (Nat.le_refl _) _⟩
      rw [Bool.eq_iff_iff]
      simp [rv4, *] <;> omega
  · go_enter Try.func30, Try.ntmps30
    go_wp2_with (go_at_call 35; refine (HN.out _).mono ?_; rintro e w1 ⟨rfl, rfl⟩)
    all_goals
      go_ret
      refine ⟨ret_bool ?_, (Below.refl _ _).alloc (Nat.le_refl _) _⟩
      rw [Bool.eq_iff_iff]
      simp [rv5, *]
  · have HK := Lib.hid hk
    go_enter Try.func30, Try.ntmps30
    go_wp2_with fail
    all_goals
      go_ret
      refine ⟨ret_bool ?_, (Below.refl _ _).alloc (Nat.le_refl _) _⟩
      exact (decide_eq_false (rv_none HK.out)).symm

set_option maxHeartbeats 3200000 in
theorem refright_any (k n : Int) (s : ByteArray) (hs : s.size ≤ maxLen) (w : World) :
    Calls Try.prog 27 #[.agg #[.int .i64 k, .int .i64 n, .string s]] w fun e w' => e = .returned (.bool (decide (RightV k n s.data.toList))) ∧ Below w.heap.size w w' := by
  have hln := data_len s
  have hlt : s.toList = s.data.toList := ByteArray.toList_eq s
  have hname := refname_any s hs
  generalize hL : s.data.toList = l at *
  have HN := Lib.hid hname
  have HL := Lib.hid hln
  clear hL hname hln
  unfold maxLen at hs
  rcases kind_cases k with rfl | rfl | rfl | rfl | rfl | hk
  · go_enter Try.func27, Try.ntmps27
    go_wp2_with fail
    all_goals
      go_ret
      refine ⟨ret_bool ?_, (Below.refl _ _).alloc (Nat.le_refl _) _⟩
      rw [Bool.eq_iff_iff]
      simp [rv1, *]
  · go_enter Try.func27, Try.ntmps27
    go_wp2_with fail
    all_goals
      go_ret
      refine ⟨ret_bool ?_, (Below.refl _ _).alloc (Nat.le_refl _) _⟩
      rw [Bool.eq_iff_iff]
      simp [rv2, *]
  · go_enter Try.func27, Try.ntmps27
    go_wp2_with fail
    all_goals
      go_ret
      refine ⟨ret_bool ?_, (Below.refl _ _).alloc (Nat.le_refl _) _⟩
      rw [Bool.eq_iff_iff]
      simp [rv3, HL.out, *] <;> omega
  · go_enter Try.func27, Try.ntmps27
    go_wp2_with fail
    all_goals
      go_ret
      refine ⟨ret_bool ?_, (Below.refl _ _).alloc (Nat.le_refl _) _⟩
      rw [Bool.eq_iff_iff]
      simp [rv4, *] <;> omega
  · go_enter Try.func27, Try.ntmps27
    go_wp2_with (go_at_call 34; refine (HN.out _).mono ?_; rintro e w1 ⟨rfl, rfl⟩)
    all_goals
      go_ret
      refine ⟨ret_bool ?_, (Below.refl _ _).alloc (Nat.le_refl _) _⟩
      rw [Bool.eq_iff_iff]
      simp [rv5, *]
  · have HK := Lib.hid hk
    go_enter Try.func27, Try.ntmps27
    go_wp2_with fail
    all_goals
      go_ret
      refine ⟨ret_bool ?_, (Below.refl _ _).alloc (Nat.le_refl _) _⟩
      exact (decide_eq_false (rv_none HK.out)).symm
end Go.Proofs.Ytjcegpakacedoaa
