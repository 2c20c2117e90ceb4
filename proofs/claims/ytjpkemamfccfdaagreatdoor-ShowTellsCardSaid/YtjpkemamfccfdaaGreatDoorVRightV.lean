/- Which values are right, the project's test and the reference's; the laws' helpers. -/
import Derived.Test.YtjpkemamfccfdaaGreatDoorVNameV
namespace Go.Proofs.YtjpkemamfccfdaaGreatDoor
set_option linter.unusedVariables false
open Go.RowKit

theorem rv1 {n : Int} {l : List UInt8} : RightV 1 n l ↔ l = [] ∧ (n = 0 ∨ n = 1) := by unfold RightV; simp
theorem rv2 {n : Int} {l : List UInt8} : RightV 2 n l ↔ l = [] := by unfold RightV; simp
theorem rv3 {n : Int} {l : List UInt8} : RightV 3 n l ↔ n = 0 ∧ l.length ≤ 64 := by unfold RightV; simp
theorem rv4 {n : Int} {l : List UInt8} : RightV 4 n l ↔ l = [] ∧ 0 ≤ n ∧ n ≤ 1099511627776 := by unfold RightV; simp
theorem rv5 {n : Int} {l : List UInt8} : RightV 5 n l ↔ n = 0 ∧ Named l := by unfold RightV; simp
theorem rv_none {k n : Int} {l : List UInt8} (h : k ≠ 1 ∧ k ≠ 2 ∧ k ≠ 3 ∧ k ≠ 4 ∧ k ≠ 5) : ¬ RightV k n l := by
  obtain ⟨h1, h2, h3, h4, h5⟩ := h
  unfold RightV; simp [h1, h2, h3, h4, h5]
theorem kind_cases (k : Int) : k = 1 ∨ k = 2 ∨ k = 3 ∨ k = 4 ∨ k = 5 ∨ (k ≠ 1 ∧ k ≠ 2 ∧ k ≠ 3 ∧ k ≠ 4 ∧ k ≠ 5) := by omega

set_option maxHeartbeats 3200000 in
theorem right_any (k n : Int) (s : ByteArray) (hs : s.size ≤ maxLen) (w : World) :
    Calls Tryz.prog 71 #[.agg #[.int .i64 k, .int .i64 n, .string s]] w fun e w' => e = .returned (.bool (decide (RightV k n s.data.toList))) ∧ Below w.heap.size w w' := by
  have hln := data_len s
  have hlt : s.toList = s.data.toList := ByteArray.toList_eq s
  have hname := name_any s hs
  generalize hL : s.data.toList = l at *
  have HN := Lib.hid hname
  have HL := Lib.hid hln
  clear hL hname hln
  unfold maxLen at hs
  rcases kind_cases k with rfl | rfl | rfl | rfl | rfl | hk
  · go_enter Tryz.func71, Tryz.ntmps71
    go_wp2_with fail
    all_goals
      go_ret
      refine ⟨ret_bool ?_, (Below.refl _ _).alloc (Nat.le_refl _) _⟩
      rw [Bool.eq_iff_iff]
      simp [rv1, *]
  · go_enter Tryz.func71, Tryz.ntmps71
    go_wp2_with fail
    all_goals
      go_ret
      refine ⟨ret_bool ?_, (Below.refl _ _).alloc (Nat.le_refl _) _⟩
      rw [Bool.eq_iff_iff]
      simp [rv2, *]
  · go_enter Tryz.func71, Tryz.ntmps71
    go_wp2_with fail
    all_goals
      go_ret
      refine ⟨ret_bool ?_, (Below.refl _ _).alloc (Nat.le_refl _) _⟩
      rw [Bool.eq_iff_iff]
      simp [rv3, HL.out, *] <;> omega
  · go_enter Tryz.func71, Tryz.ntmps71
    go_wp2_with fail
    all_goals
      go_ret
      refine ⟨ret_bool ?_, (Below.refl _ _).alloc (Nat.le_refl _) _⟩
      rw [Bool.eq_iff_iff]
      simp [rv4, *] <;> omega
  · go_enter Tryz.func71, Tryz.ntmps71
    go_wp2_with (go_at_call 57; refine (HN.out _).mono ?_; rintro e w1 ⟨rfl, rfl⟩)
    all_goals
      go_ret
      refine ⟨ret_bool ?_, (Below.refl _ _).alloc (Nat.le_refl _) _⟩
      rw [Bool.eq_iff_iff]
      simp [rv5, *]
  · have HK := Lib.hid hk
    go_enter Tryz.func71, Tryz.ntmps71
    go_wp2_with fail
    all_goals
      go_ret
      refine ⟨ret_bool ?_, (Below.refl _ _).alloc (Nat.le_refl _) _⟩
      exact (decide_eq_false (rv_none HK.out)).symm

end Go.Proofs.YtjpkemamfccfdaaGreatDoor
