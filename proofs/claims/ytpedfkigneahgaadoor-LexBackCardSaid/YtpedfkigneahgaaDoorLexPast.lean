/- past: on, as long as there are such bytes. -/
import Derived.Test.YtpedfkigneahgaaDoorLexBits
import Derived.Test.YtpedfkigneahgaaDoorVNameV
namespace Go.Proofs.YtpedfkigneahgaaDoor
set_option linter.unusedVariables false
open Go.RowKit

/-- Behind k the run of such bytes ends where it ends behind a. -/
def PastTo (l : List UInt8) (p : UInt8 → Bool) (a k : Nat) : Prop := k + ((l.drop k).takeWhile p).length = a + ((l.drop a).takeWhile p).length
theorem PastTo.step {l : List UInt8} {p : UInt8 → Bool} {a k : Nat} {c : UInt8} (h : PastTo l p a k) (hc : l[k]? = some c) (hp : p c = true) : PastTo l p a (k + 1) := by
  obtain ⟨hk, e⟩ := List.getElem?_eq_some_iff.1 hc
  unfold PastTo at h ⊢
  rw [← h, List.drop_eq_getElem_cons hk, e, List.takeWhile_cons, if_pos hp, List.length_cons]
  omega
theorem PastTo.stop {l : List UInt8} {p : UInt8 → Bool} {a k : Nat} {c : UInt8} (h : PastTo l p a k) (hc : l[k]? = some c) (hp : p c = false) : k = a + ((l.drop a).takeWhile p).length := by
  obtain ⟨hk, e⟩ := List.getElem?_eq_some_iff.1 hc
  unfold PastTo at h
  rw [← h, List.drop_eq_getElem_cons hk, e, List.takeWhile_cons, if_neg (by rw [hp]; simp)]
  simp
theorem PastTo.end {l : List UInt8} {p : UInt8 → Bool} {a k : Nat} (h : PastTo l p a k) (hk : l.length ≤ k) : k = a + ((l.drop a).takeWhile p).length := by
  unfold PastTo at h
  rw [← h, List.drop_of_length_le hk]
  simp

set_option maxHeartbeats 1600000 in
theorem past_blank (s : ByteArray) (hs : s.size ≤ maxLen) (a : Nat) (ha : a ≤ s.size) (w : World) :
    Calls Tryd.prog 11 #[.string s, .int .i64 (a : Int), .func (.func 12) #[] #[]] w fun e w' => e = .returned (.int .i64 ((a + ((s.data.toList.drop a).takeWhile blk).length : Nat) : Int)) ∧ w' = w := by
  have hl := data_len s
  generalize hL : s.data.toList = l at *
  have HD : Hid (∀ k (h : k < s.size), l[k]? = some s[k]) := by
    show ∀ k (h : k < s.size), l[k]? = some s[k]
    subst hL; exact fun k h => data_at h
  have HL := Lib.hid hl
  unfold maxLen at hs
  clear hl hL
  go_enter Tryd.func11, Tryd.ntmps11
  go_wp2_with fail
  go_loop [1] (fun i => ∃ k : Nat, k ≤ s.size ∧ i = .int .i64 k ∧ PastTo l blk a k) (fun i => s.size - (intOf i).toNat)
  case atStart => exact ⟨a, ha, rfl, rfl⟩
  case round =>
    obtain ⟨k, hk, rfl, ht⟩ := hrel
    have HT := Lib.hid ht
    clear ht
    by_cases hlt : k < s.size
    · have hi : 0 ≤ (k : Int) ∧ (k : Int) < s.size := by omega
      have hc := HD.out k hlt
      generalize hcc : s[k] = c at *
      have HC := Lib.hid hc
      clear hc
      have hf := blank_any c w
      cases hp : blk c with
      | true =>
        have HP := Lib.hid hp
        rw [hp] at hf
        have HFC := Lib.hid hf
        clear hp hf
        go_wp2_with (go_at_call 12; refine HFC.out.mono ?_; rintro e w' ⟨rfl, rfl⟩)
        go_round
        case rel => exact ⟨k + 1, by omega, by go_num, HT.out.step HC.out HP.out⟩
        case measure => simp [intOf]; omega
      | false =>
        have HP := Lib.hid hp
        rw [hp] at hf
        have HFC := Lib.hid hf
        clear hp hf
        go_wp2_with (go_at_call 12; refine HFC.out.mono ?_; rintro e w' ⟨rfl, rfl⟩)
        go_ret
        exact ⟨ret_int (by have := HT.out.stop HC.out HP.out; omega), rfl⟩
    · obtain rfl : k = s.size := by omega
      go_wp2_with fail
      go_ret
      exact ⟨ret_int (by have := HT.out.end (by rw [HL.out]; exact Nat.le_refl _); omega), rfl⟩

set_option maxHeartbeats 1600000 in
theorem past_digit (s : ByteArray) (hs : s.size ≤ maxLen) (a : Nat) (ha : a ≤ s.size) (w : World) :
    Calls Tryd.prog 11 #[.string s, .int .i64 (a : Int), .func (.func 14) #[] #[]] w fun e w' => e = .returned (.int .i64 ((a + ((s.data.toList.drop a).takeWhile dgt).length : Nat) : Int)) ∧ w' = w := by
  have hl := data_len s
  generalize hL : s.data.toList = l at *
  have HD : Hid (∀ k (h : k < s.size), l[k]? = some s[k]) := by
    show ∀ k (h : k < s.size), l[k]? = some s[k]
    subst hL; exact fun k h => data_at h
  have HL := Lib.hid hl
  unfold maxLen at hs
  clear hl hL
  go_enter Tryd.func11, Tryd.ntmps11
  go_wp2_with fail
  go_loop [1] (fun i => ∃ k : Nat, k ≤ s.size ∧ i = .int .i64 k ∧ PastTo l dgt a k) (fun i => s.size - (intOf i).toNat)
  case atStart => exact ⟨a, ha, rfl, rfl⟩
  case round =>
    obtain ⟨k, hk, rfl, ht⟩ := hrel
    have HT := Lib.hid ht
    clear ht
    by_cases hlt : k < s.size
    · have hi : 0 ≤ (k : Int) ∧ (k : Int) < s.size := by omega
      have hc := HD.out k hlt
      generalize hcc : s[k] = c at *
      have HC := Lib.hid hc
      clear hc
      have hf := digit_any c w
      cases hp : dgt c with
      | true =>
        have HP := Lib.hid hp
        rw [hp] at hf
        have HFC := Lib.hid hf
        clear hp hf
        go_wp2_with (go_at_call 14; refine HFC.out.mono ?_; rintro e w' ⟨rfl, rfl⟩)
        go_round
        case rel => exact ⟨k + 1, by omega, by go_num, HT.out.step HC.out HP.out⟩
        case measure => simp [intOf]; omega
      | false =>
        have HP := Lib.hid hp
        rw [hp] at hf
        have HFC := Lib.hid hf
        clear hp hf
        go_wp2_with (go_at_call 14; refine HFC.out.mono ?_; rintro e w' ⟨rfl, rfl⟩)
        go_ret
        exact ⟨ret_int (by have := HT.out.stop HC.out HP.out; omega), rfl⟩
    · obtain rfl : k = s.size := by omega
      go_wp2_with fail
      go_ret
      exact ⟨ret_int (by have := HT.out.end (by rw [HL.out]; exact Nat.le_refl _); omega), rfl⟩

set_option maxHeartbeats 1600000 in
theorem past_inName (s : ByteArray) (hs : s.size ≤ maxLen) (a : Nat) (ha : a ≤ s.size) (w : World) :
    Calls Tryd.prog 11 #[.string s, .int .i64 (a : Int), .func (.func 15) #[] #[]] w fun e w' => e = .returned (.int .i64 ((a + ((s.data.toList.drop a).takeWhile inm).length : Nat) : Int)) ∧ w' = w := by
  have hl := data_len s
  generalize hL : s.data.toList = l at *
  have HD : Hid (∀ k (h : k < s.size), l[k]? = some s[k]) := by
    show ∀ k (h : k < s.size), l[k]? = some s[k]
    subst hL; exact fun k h => data_at h
  have HL := Lib.hid hl
  unfold maxLen at hs
  clear hl hL
  go_enter Tryd.func11, Tryd.ntmps11
  go_wp2_with fail
  go_loop [1] (fun i => ∃ k : Nat, k ≤ s.size ∧ i = .int .i64 k ∧ PastTo l inm a k) (fun i => s.size - (intOf i).toNat)
  case atStart => exact ⟨a, ha, rfl, rfl⟩
  case round =>
    obtain ⟨k, hk, rfl, ht⟩ := hrel
    have HT := Lib.hid ht
    clear ht
    by_cases hlt : k < s.size
    · have hi : 0 ≤ (k : Int) ∧ (k : Int) < s.size := by omega
      have hc := HD.out k hlt
      generalize hcc : s[k] = c at *
      have HC := Lib.hid hc
      clear hc
      have hf := inName_any c w
      cases hp : inm c with
      | true =>
        have HP := Lib.hid hp
        rw [hp] at hf
        have HFC := Lib.hid hf
        clear hp hf
        go_wp2_with (go_at_call 15; refine HFC.out.mono ?_; rintro e w' ⟨rfl, rfl⟩)
        go_round
        case rel => exact ⟨k + 1, by omega, by go_num, HT.out.step HC.out HP.out⟩
        case measure => simp [intOf]; omega
      | false =>
        have HP := Lib.hid hp
        rw [hp] at hf
        have HFC := Lib.hid hf
        clear hp hf
        go_wp2_with (go_at_call 15; refine HFC.out.mono ?_; rintro e w' ⟨rfl, rfl⟩)
        go_ret
        exact ⟨ret_int (by have := HT.out.stop HC.out HP.out; omega), rfl⟩
    · obtain rfl : k = s.size := by omega
      go_wp2_with fail
      go_ret
      exact ⟨ret_int (by have := HT.out.end (by rw [HL.out]; exact Nat.le_refl _); omega), rfl⟩
end Go.Proofs.YtpedfkigneahgaaDoor
