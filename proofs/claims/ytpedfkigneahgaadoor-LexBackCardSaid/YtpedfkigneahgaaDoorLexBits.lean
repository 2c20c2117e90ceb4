/- The small functions of bytes of package lex. -/
import Derived.Test.YtpedfkigneahgaaDoorLexMath
namespace Go.Proofs.YtpedfkigneahgaaDoor
set_option linter.unusedVariables false
open Go.RowKit

theorem lett_t {c : UInt8} (h : 97 ≤ (c.toNat : Int) ∧ (c.toNat : Int) ≤ 122) : lett c = true := by unfold lett; simp; omega
theorem lett_f {c : UInt8} (h : (c.toNat : Int) < 97 ∨ 122 < (c.toNat : Int)) : lett c = false := by unfold lett; simp; omega
theorem dgt_t {c : UInt8} (h : 48 ≤ (c.toNat : Int) ∧ (c.toNat : Int) ≤ 57) : dgt c = true := by unfold dgt; simp; omega
theorem dgt_f {c : UInt8} (h : (c.toNat : Int) < 48 ∨ 57 < (c.toNat : Int)) : dgt c = false := by unfold dgt; simp; omega
theorem inm_eq (c : UInt8) : inm c = (lett c || dgt c || decide (c.toNat = 95)) := by unfold inm later dgt; rw [Bool.or_assoc]

set_option maxHeartbeats 800000 in
theorem blank_any (c : UInt8) (w : World) : Calls Tryd.prog 12 #[.int .u8 (c.toNat : Int)] w fun e w' => e = .returned (.bool (blk c)) ∧ w' = w := by
  have hb : blk c = (((c.toNat : Int) == 32) || ((c.toNat : Int) == 10)) := by unfold blk; rw [Bool.eq_iff_iff]; simp; omega
  have HB := Lib.hid hb
  clear hb
  by_cases h1 : (c.toNat : Int) = 32
  · have e1 : ((c.toNat : Int) == 32) = true := by rw [h1]; rfl
    have H1 := Lib.hid h1
    clear h1
    go_enter Tryd.func12, Tryd.ntmps12
    go_wp2_with fail
    go_ret
    exact ⟨ret_bool (by rw [HB.out, H1.out]; rfl), rfl⟩
  · have e1 : ((c.toNat : Int) == 32) = false := by rw [beq_eq_false_iff_ne]; exact h1
    have H1 := Lib.hid e1
    clear h1
    go_enter Tryd.func12, Tryd.ntmps12
    go_wp2_with fail
    go_ret
    exact ⟨ret_bool (by rw [HB.out, H1.out]; rfl), rfl⟩

set_option maxHeartbeats 800000 in
theorem letter_any (c : UInt8) (w : World) : Calls Tryd.prog 13 #[.int .u8 (c.toNat : Int)] w fun e w' => e = .returned (.bool (lett c)) ∧ w' = w := by
  have three : (c.toNat : Int) < 97 ∨ (97 ≤ (c.toNat : Int) ∧ (c.toNat : Int) ≤ 122) ∨ (97 ≤ (c.toNat : Int) ∧ 122 < (c.toNat : Int)) := by omega
  rcases three with h | h | h
  all_goals
    go_enter Tryd.func13, Tryd.ntmps13
    go_wp2_with fail
    go_ret
  · exact ⟨ret_bool (lett_f (by omega)).symm, rfl⟩
  · exact ⟨ret_bool (lett_t h).symm, rfl⟩
  · exact ⟨ret_bool (by rw [decide_eq_false (by omega), lett_f (by omega)]), rfl⟩

set_option maxHeartbeats 800000 in
theorem digit_any (c : UInt8) (w : World) : Calls Tryd.prog 14 #[.int .u8 (c.toNat : Int)] w fun e w' => e = .returned (.bool (dgt c)) ∧ w' = w := by
  have three : (c.toNat : Int) < 48 ∨ (48 ≤ (c.toNat : Int) ∧ (c.toNat : Int) ≤ 57) ∨ (48 ≤ (c.toNat : Int) ∧ 57 < (c.toNat : Int)) := by omega
  rcases three with h | h | h
  all_goals
    go_enter Tryd.func14, Tryd.ntmps14
    go_wp2_with fail
    go_ret
  · exact ⟨ret_bool (dgt_f (by omega)).symm, rfl⟩
  · exact ⟨ret_bool (dgt_t h).symm, rfl⟩
  · exact ⟨ret_bool (by rw [decide_eq_false (by omega), dgt_f (by omega)]), rfl⟩

set_option maxHeartbeats 800000 in
theorem inName_any (c : UInt8) (w : World) : Calls Tryd.prog 15 #[.int .u8 (c.toNat : Int)] w fun e w' => e = .returned (.bool (inm c)) ∧ w' = w := by
  have hi := inm_eq c
  have hl := letter_any c w
  have hd := digit_any c w
  have h95 : decide (c.toNat = 95) = ((c.toNat : Int) == 95) := by rw [Bool.eq_iff_iff]; simp; omega
  rw [h95] at hi
  have HI := Lib.hid hi
  have HL := Lib.hid hl
  have HD := Lib.hid hd
  clear hi hl hd h95
  cases h1 : lett c with
  | true =>
    rw [h1] at HI HL
    clear h1
    go_enter Tryd.func15, Tryd.ntmps15
    go_wp2_with (go_at_call 13; refine HL.out.mono ?_; rintro e w' ⟨rfl, rfl⟩)
    go_ret
    exact ⟨ret_bool (by rw [HI.out]; rfl), rfl⟩
  | false =>
    rw [h1] at HI HL
    clear h1
    cases h2 : dgt c with
    | true =>
      rw [h2] at HI HD
      clear h2
      go_enter Tryd.func15, Tryd.ntmps15
      go_wp2_with (first | (go_at_call 13; refine HL.out.mono ?_; rintro e w' ⟨rfl, rfl⟩) | (go_at_call 14; refine HD.out.mono ?_; rintro e w' ⟨rfl, rfl⟩))
      go_ret
      exact ⟨ret_bool (by rw [HI.out]; rfl), rfl⟩
    | false =>
      rw [h2] at HI HD
      clear h2
      go_enter Tryd.func15, Tryd.ntmps15
      go_wp2_with (first | (go_at_call 13; refine HL.out.mono ?_; rintro e w' ⟨rfl, rfl⟩) | (go_at_call 14; refine HD.out.mono ?_; rintro e w' ⟨rfl, rfl⟩))
      go_ret
      exact ⟨ret_bool (by rw [HI.out]; rfl), rfl⟩
end Go.Proofs.YtpedfkigneahgaaDoor
