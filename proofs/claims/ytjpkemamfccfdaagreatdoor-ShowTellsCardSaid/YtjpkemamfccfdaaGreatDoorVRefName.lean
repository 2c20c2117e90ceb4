/- Names: the reference's test. -/
import Derived.Test.YtjpkemamfccfdaaGreatDoorVNameV
namespace Go.Proofs.YtjpkemamfccfdaaGreatDoor
set_option linter.unusedVariables false
open Go.RowKit

set_option maxHeartbeats 1600000 in
theorem refname_any (s : ByteArray) (hs : s.size ≤ maxLen) (w : World) :
    Calls Tryz.prog 20 #[.string s] w fun e w' => e = .returned (.bool (decide (Named s.data.toList))) ∧ w' = w := by
  have hl := data_len s
  generalize hL : s.data.toList = l at *
  have HD : Hid (∀ k (h : k < s.size), l[k]? = some s[k]) := by
    show ∀ k (h : k < s.size), l[k]? = some s[k]
    subst hL; exact fun k h => data_at h
  have HL := Lib.hid hl
  unfold maxLen at hs
  clear hl hL
  go_enter Tryz.func20, Tryz.ntmps20
  go_wp2_with fail
  go_loop [3] (fun i => ∃ k : Nat, k ≤ s.size ∧ i = .int .i64 k ∧ NameTo l k) (fun i => s.size - (intOf i).toNat)
  case atStart => exact ⟨0, Nat.zero_le _, rfl, fun j c h hj => by omega⟩
  case round =>
    obtain ⟨k, hk, rfl, ht⟩ := hrel
    have HT := Lib.hid ht
    clear ht
    by_cases hlt : k < s.size
    · have two : ∀ c : UInt8, ((c.toNat : Int) < 97 ∧ (c.toNat : Int) < 48 ∧ ((c.toNat : Int) == 95) = false) ∨ ((c.toNat : Int) < 97 ∧ (48 ≤ (c.toNat : Int) ∧ (c.toNat : Int) ≤ 57) ∧ ((c.toNat : Int) == 95) = false) ∨ ((c.toNat : Int) < 97 ∧ (48 ≤ (c.toNat : Int) ∧ 57 < (c.toNat : Int)) ∧ ((c.toNat : Int) == 95) = false) ∨
          ((c.toNat : Int) < 97 ∧ (48 ≤ (c.toNat : Int) ∧ 57 < (c.toNat : Int)) ∧ ((c.toNat : Int) == 95) = true) ∨ (122 < (c.toNat : Int) ∧ (48 ≤ (c.toNat : Int) ∧ 57 < (c.toNat : Int) ∧ 97 ≤ (c.toNat : Int)) ∧ ((c.toNat : Int) == 95) = false) ∨ ((97 ≤ (c.toNat : Int) ∧ (c.toNat : Int) ≤ 122) ∧ (48 ≤ (c.toNat : Int) ∧ 57 < (c.toNat : Int)) ∧ ((c.toNat : Int) == 95) = false) := fun c => by
        simp only [beq_iff_eq, beq_eq_false_iff_ne]; omega
      have hi : 0 ≤ (k : Int) ∧ (k : Int) < s.size := by omega
      have hc := HD.out k hlt
      rcases Nat.eq_zero_or_pos k with rfl | hpos
      · have two := two s[0]
        generalize hcc : s[0] = c at *
        have HC := Lib.hid hc
        clear hc
        rcases two with ⟨a, b, e⟩ | ⟨a, b, e⟩ | ⟨a, b, e⟩ | ⟨a, b, e⟩ | ⟨a, b, e⟩ | ⟨a, b, e⟩
        all_goals
          go_wp2_with fail
          all_goals simp only [beq_iff_eq, beq_eq_false_iff_ne] at e
          all_goals first
            | (exfalso; rename_i hh; revert hh; simp; omega)
            | (go_ret; exact ⟨ret_bool (name_bad HC.out (okAt_not (by omega))).symm, rfl⟩)
            | (go_round
               case rel => exact ⟨0 + 1, by omega, by go_num, HT.out.step HC.out (okAt_of (by omega))⟩
               case measure => simp [intOf]; omega)
      · have two := two s[k]
        generalize hcc : s[k] = c at *
        have HC := Lib.hid hc
        clear hc
        have hkn : ¬ k = 0 := by omega
        have hkz : ((k : Int) == 0) = false := by rw [beq_eq_false_iff_ne]; omega
        rcases two with ⟨a, b, e⟩ | ⟨a, b, e⟩ | ⟨a, b, e⟩ | ⟨a, b, e⟩ | ⟨a, b, e⟩ | ⟨a, b, e⟩
        all_goals
          go_wp2_with fail
          all_goals simp only [beq_iff_eq, beq_eq_false_iff_ne] at e
          all_goals first
            | (exfalso; rename_i hh; revert hh; simp; omega)
            | (go_ret; exact ⟨ret_bool (name_bad HC.out (okAt_not (by omega))).symm, rfl⟩)
            | (go_round
               case rel => exact ⟨k + 1, by omega, by go_num, HT.out.step HC.out (okAt_of (by omega))⟩
               case measure => simp [intOf]; omega)
    · obtain rfl : k = s.size := by omega
      have ha := HT.out.all HL.out
      have HA := Lib.hid ha
      clear ha
      by_cases h1 : 1 ≤ s.size
      · go_wp2_with fail
        go_ret
        exact ⟨ret_bool (HA.out.trans (decide_eq_decide.2 (by omega))).symm, rfl⟩
      · go_wp2_with fail
        go_ret
        exact ⟨ret_bool (HA.out.trans (decide_eq_false (by omega))).symm, rfl⟩
end Go.Proofs.YtjpkemamfccfdaaGreatDoor
