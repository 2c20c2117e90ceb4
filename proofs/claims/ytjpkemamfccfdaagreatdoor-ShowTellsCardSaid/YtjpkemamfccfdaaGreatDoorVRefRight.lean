/- Which values are right: the reference's test. -/
import Derived.Test.YtjpkemamfccfdaaGreatDoorVRightV
import Derived.Test.YtjpkemamfccfdaaGreatDoorVRefName
namespace Go.Proofs.YtjpkemamfccfdaaGreatDoor
set_option linter.unusedVariables false
open Go.RowKit

set_option maxHeartbeats 3200000 in
theorem refright_any (k n : Int) (s : ByteArray) (hs : s.size ≤ maxLen) (w : World) :
    Calls Tryz.prog 17 #[.agg #[.int .i64 k, .int .i64 n, .string s]] w fun e w' => e = .returned (.bool (decide (RightV k n s.data.toList))) ∧ Below w.heap.size w w' := by
  have hln := data_len s
  have hlt : s.toList = s.data.toList := ByteArray.toList_eq s
  have hname := refname_any s hs
  generalize hL : s.data.toList = l at *
  have HN := Lib.hid hname
  have HL := Lib.hid hln
  clear hL hname hln
  unfold maxLen at hs
  rcases kind_cases k with rfl | rfl | rfl | rfl | rfl | hk
  · go_enter Tryz.func17, Tryz.ntmps17
    go_wp2_with fail
    all_goals
      go_ret
      refine ⟨ret_bool ?_, (Below.refl _ _).alloc (Nat.le_refl _) _⟩
      rw [Bool.eq_iff_iff]
      simp [rv1, *]
  · go_enter Tryz.func17, Tryz.ntmps17
    go_wp2_with fail
    all_goals
      go_ret
      refine ⟨ret_bool ?_, (Below.refl _ _).alloc (Nat.le_refl _) _⟩
      rw [Bool.eq_iff_iff]
      simp [rv2, *]
  · go_enter Tryz.func17, Tryz.ntmps17
    go_wp2_with fail
    all_goals
      go_ret
      refine ⟨ret_bool ?_, (Below.refl _ _).alloc (Nat.le_refl _) _⟩
      rw [Bool.eq_iff_iff]
      simp [rv3, HL.out, *] <;> omega
  · go_enter Tryz.func17, Tryz.ntmps17
    go_wp2_with fail
    all_goals
      go_ret
      refine ⟨ret_bool ?_, (Below.refl _ _).alloc (Nat.le_refl _) _⟩
      rw [Bool.eq_iff_iff]
      simp [rv4, *] <;> omega
  · go_enter Tryz.func17, Tryz.ntmps17
    go_wp2_with (go_at_call 20; refine (HN.out _).mono ?_; rintro e w1 ⟨rfl, rfl⟩)
    all_goals
      go_ret
      refine ⟨ret_bool ?_, (Below.refl _ _).alloc (Nat.le_refl _) _⟩
      rw [Bool.eq_iff_iff]
      simp [rv5, *]
  · have HK := Lib.hid hk
    go_enter Tryz.func17, Tryz.ntmps17
    go_wp2_with fail
    all_goals
      go_ret
      refine ⟨ret_bool ?_, (Below.refl _ _).alloc (Nat.le_refl _) _⟩
      exact (decide_eq_false (rv_none HK.out)).symm
end Go.Proofs.YtjpkemamfccfdaaGreatDoor
