/- The reference's small functions of bytes: letter, digit, unhex, word, number. -/
import Derived.Test.YtpedfkigneahgaaLexPast
import Derived.Test.YtpedfkigneahgaaLexOne
import Derived.Test.YtpedfkigneahgaaLexNumS
namespace Go.Proofs.Ytpedfkigneahgaa
set_option linter.unusedVariables false
open Go.RowKit

set_option maxHeartbeats 800000 in
theorem rletter_any (c : UInt8) (w : World) : Calls Try.prog 22 #[.int .u8 (c.toNat : Int)] w fun e w' => e = .returned (.bool (lett c)) ∧ w' = w := by
  have three : (c.toNat : Int) < 97 ∨ (97 ≤ (c.toNat : Int) ∧ (c.toNat : Int) ≤ 122) ∨ (97 ≤ (c.toNat : Int) ∧ 122 < (c.toNat : Int)) := by omega
  rcases three with h | h | h
  all_goals
    go_enter Try.func22, Try.ntmps22
    go_wp2_with fail
    go_ret
  · exact ⟨ret_bool (by first | exact (lett_f (by omega)).symm | rw [decide_eq_false (by omega), lett_f (by omega)]), rfl⟩
  · exact ⟨ret_bool (by first | exact (lett_t h).symm | rw [decide_eq_true (by omega), lett_t h]), rfl⟩
  · exact ⟨ret_bool (by first | exact (lett_f (by omega)).symm | rw [decide_eq_false (by omega), lett_f (by omega)]), rfl⟩

set_option maxHeartbeats 800000 in
theorem rdigit_any (c : UInt8) (w : World) : Calls Try.prog 24 #[.int .u8 (c.toNat : Int)] w fun e w' => e = .returned (.bool (dgt c)) ∧ w' = w := by
  have three : (c.toNat : Int) < 48 ∨ (48 ≤ (c.toNat : Int) ∧ (c.toNat : Int) ≤ 57) ∨ (48 ≤ (c.toNat : Int) ∧ 57 < (c.toNat : Int)) := by omega
  rcases three with h | h | h
  all_goals
    go_enter Try.func24, Try.ntmps24
    go_wp2_with fail
    go_ret
  · exact ⟨ret_bool (by first | exact (dgt_f (by omega)).symm | rw [decide_eq_false (by omega), dgt_f (by omega)]), rfl⟩
  · exact ⟨ret_bool (by first | exact (dgt_t h).symm | rw [decide_eq_true (by omega), dgt_t h]), rfl⟩
  · exact ⟨ret_bool (by first | exact (dgt_f (by omega)).symm | rw [decide_eq_false (by omega), dgt_f (by omega)]), rfl⟩

set_option maxHeartbeats 800000 in
theorem unhex_any (c : UInt8) (w : World) : Calls Try.prog 32 #[.int .u8 (c.toNat : Int)] w fun e w' => e = .returned (.tuple #[.int .u8 (((hexv c).getD 0 : Nat) : Int), .bool (hexv c).isSome]) ∧ w' = w := by
  have hd := rdigit_any c w
  have HD := Lib.hid hd
  have hlt := c.toNat_lt
  clear hd
  cases h : dgt c with
  | true =>
    rw [h] at HD
    have HX := Lib.hid (hexv_dgt h)
    have hb : 48 ≤ (c.toNat : Int) ∧ (c.toNat : Int) ≤ 57 := by unfold dgt at h; simp at h; omega
    clear h
    go_enter Try.func32, Try.ntmps32
    go_wp2_with (go_at_call 24; refine HD.out.mono ?_; rintro e w' ⟨rfl, rfl⟩)
    go_ret2
    exact ⟨ret_pair (int_eq (by rw [HX.out]; show (c.toNat : Int) - 48 = ((c.toNat - 48 : Nat) : Int); omega)) (by rw [HX.out]; rfl), rfl⟩
  | false =>
    rw [h] at HD
    have three : (c.toNat : Int) < 97 ∨ (97 ≤ (c.toNat : Int) ∧ (c.toNat : Int) ≤ 102) ∨ (97 ≤ (c.toNat : Int) ∧ 102 < (c.toNat : Int)) := by omega
    rcases three with a | a | a
    case inr.inl =>
      have HX := Lib.hid (hexv_let h (by omega))
      clear h
      go_enter Try.func32, Try.ntmps32
      go_wp2_with (go_at_call 24; refine HD.out.mono ?_; rintro e w' ⟨rfl, rfl⟩)
      go_ret2
      exact ⟨ret_pair (int_eq (by rw [HX.out]; show (c.toNat : Int) - 97 + 10 = ((c.toNat - 87 : Nat) : Int); omega)) (by rw [HX.out]; rfl), rfl⟩
    all_goals
      have HX := Lib.hid (hexv_none h (by omega))
      clear h
      go_enter Try.func32, Try.ntmps32
      go_wp2_with (go_at_call 24; refine HD.out.mono ?_; rintro e w' ⟨rfl, rfl⟩)
      go_ret2
      exact ⟨by rw [HX.out]; rfl, rfl⟩


/-- Where a name that begins at a ends. -/
def wordE (l : List UInt8) (a : Nat) : Nat := if ((l[a]?).map lett).getD false = true then a + ((l.drop a).takeWhile inm).length else a
set_option maxHeartbeats 1600000 in
theorem word_any (s : ByteArray) (hs : s.size ≤ maxLen) (a : Nat) (ha : a ≤ s.size) (w : World) :
    Calls Try.prog 23 #[.string s, .int .i64 (a : Int)] w fun e w' => e = .returned (.int .i64 ((wordE s.data.toList a : Nat) : Int)) ∧ w' = w := by
  have hl := data_len s
  generalize hL : s.data.toList = l at *
  have HD : Hid (∀ k (h : k < s.size), l[k]? = some s[k]) := by
    show ∀ k (h : k < s.size), l[k]? = some s[k]
    subst hL; exact fun k h => data_at h
  have HL := Lib.hid hl
  unfold maxLen at hs
  clear hl hL
  by_cases hend : a < s.size
  · have hi : 0 ≤ (a : Int) ∧ (a : Int) < s.size := by omega
    have hge : decide (s.size ≤ a) = false := decide_eq_false (by omega)
    have hge2 : ¬ s.size ≤ a := by omega
    have hc := HD.out a hend
    generalize hcc : s[a] = c at *
    have HC := Lib.hid hc
    clear hc
    have hf := rletter_any c w
    cases hp : lett c with
    | false =>
      have HP := Lib.hid hp
      have HE : Hid (wordE l a = a) := by show _ = _; unfold wordE; rw [HC.out]; simp [hp]
      rw [hp] at hf
      have HFC := Lib.hid hf
      clear hp hf
      go_enter Try.func23, Try.ntmps23
      go_wp2_with (go_at_call 22; refine HFC.out.mono ?_; rintro e w' ⟨rfl, rfl⟩)
      go_ret
      exact ⟨by rw [HE.out]; rfl, rfl⟩
    | true =>
      have HP := Lib.hid hp
      have HE : Hid (wordE l a = a + ((l.drop a).takeWhile inm).length) := by show _ = _; unfold wordE; rw [HC.out]; simp [hp]
      rw [hp] at hf
      have HFC := Lib.hid hf
      clear hp hf
      go_enter Try.func23, Try.ntmps23
      go_wp2_with (go_at_call 22; refine HFC.out.mono ?_; rintro e w' ⟨rfl, rfl⟩)
      clear hcc
      go_loop [1] (fun i => ∃ k : Nat, k ≤ s.size ∧ i = .int .i64 k ∧ PastTo l inm a k) (fun i => s.size - (intOf i).toNat)
      case atStart => exact ⟨a, ha, rfl, rfl⟩
      case round =>
        obtain ⟨k, hk, rfl, ht⟩ := hrel
        have HT := Lib.hid ht
        clear ht
        by_cases hlt : k < s.size
        · have hi : 0 ≤ (k : Int) ∧ (k : Int) < s.size := by omega
          have hc := HD.out k hlt
          generalize hcc : s[k] = c at *
          have HC := Lib.hid hc
          clear hc
          have hf1 := rletter_any c
          have hf2 := rdigit_any c
          have H1 := Lib.hid hf1
          have H2 := Lib.hid hf2
          have hi2 := inm_eq c
          clear hf1 hf2
          by_cases h1 : lett c = true
          · rw [h1] at H1 hi2
            have HI := Lib.hid hi2
            clear hi2 h1
            go_wp2_with (first | (go_at_call 22; refine (H1.out _).mono ?_; rintro e w' ⟨rfl, rfl⟩) | (go_at_call 24; refine (H2.out _).mono ?_; rintro e w' ⟨rfl, rfl⟩))
            go_round
            case rel => exact ⟨k + 1, by omega, by go_num, HT.out.step HC.out HI.out⟩
            case measure => simp [intOf]; omega
          · have h1 : lett c = false := by simpa using h1
            rw [h1] at H1 hi2
            by_cases h2 : dgt c = true
            · rw [h2] at H2 hi2
              have HI := Lib.hid hi2
              clear hi2 h1 h2
              go_wp2_with (first | (go_at_call 22; refine (H1.out _).mono ?_; rintro e w' ⟨rfl, rfl⟩) | (go_at_call 24; refine (H2.out _).mono ?_; rintro e w' ⟨rfl, rfl⟩))
              go_round
              case rel => exact ⟨k + 1, by omega, by go_num, HT.out.step HC.out HI.out⟩
              case measure => simp [intOf]; omega
            · have h2 : dgt c = false := by simpa using h2
              rw [h2] at H2 hi2
              by_cases h3 : c.toNat = 95
              · have h95 : ((c.toNat : Int) == 95) = true := by rw [beq_iff_eq]; omega
                rw [decide_eq_true h3] at hi2
                have HI := Lib.hid hi2
                clear hi2 h1 h2 h3
                go_wp2_with (first | (go_at_call 22; refine (H1.out _).mono ?_; rintro e w' ⟨rfl, rfl⟩) | (go_at_call 24; refine (H2.out _).mono ?_; rintro e w' ⟨rfl, rfl⟩))
                go_round
                case rel => exact ⟨k + 1, by omega, by go_num, HT.out.step HC.out HI.out⟩
                case measure => simp [intOf]; omega
              · have h95 : ((c.toNat : Int) == 95) = false := by rw [beq_eq_false_iff_ne]; omega
                rw [decide_eq_false h3] at hi2
                have HI := Lib.hid hi2
                clear hi2 h1 h2 h3
                go_wp2_with (first | (go_at_call 22; refine (H1.out _).mono ?_; rintro e w' ⟨rfl, rfl⟩) | (go_at_call 24; refine (H2.out _).mono ?_; rintro e w' ⟨rfl, rfl⟩))
                go_ret
                exact ⟨ret_int (by have := HT.out.stop HC.out HI.out; rw [HE.out]; omega), rfl⟩
        · obtain rfl : k = s.size := by omega
          go_wp2_with fail
          go_ret
          exact ⟨ret_int (by have := HT.out.end (by rw [HL.out]; exact Nat.le_refl _); rw [HE.out]; omega), rfl⟩
  · obtain rfl : a = s.size := by omega
    have HE : Hid (wordE l s.size = s.size) := by show _ = _; unfold wordE; rw [List.getElem?_eq_none (by rw [HL.out]; exact Nat.le_refl _)]; rfl
    go_enter Try.func23, Try.ntmps23
    go_wp2_with fail
    go_ret
    exact ⟨by rw [HE.out]; rfl, rfl⟩
end Go.Proofs.Ytpedfkigneahgaa
