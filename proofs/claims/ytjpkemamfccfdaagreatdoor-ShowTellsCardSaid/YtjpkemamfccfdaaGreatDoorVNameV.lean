/- Names: the project's test. -/
import Derived.Test.YtjpkemamfccfdaaGreatDoorVMath
namespace Go.Proofs.YtjpkemamfccfdaaGreatDoor
set_option linter.unusedVariables false
open Go.RowKit

theorem data_at {s : ByteArray} {k : Nat} (h : k < s.size) : s.data.toList[k]? = some s[k] := by
  have hs : k < s.data.size := h
  rw [Array.getElem?_toList, Array.getElem?_eq_getElem hs]
  rfl
theorem data_len (s : ByteArray) : s.data.toList.length = s.size := by rw [Array.length_toList]; rfl

theorem okAt_of {k : Nat} {c : UInt8} (h : 97 ≤ c.toNat ∧ c.toNat ≤ 122 ∨ 0 < k ∧ (48 ≤ c.toNat ∧ c.toNat ≤ 57 ∨ c.toNat = 95)) : okAt k c = true := by
  simpa [okAt, lett, later] using h
theorem okAt_not {k : Nat} {c : UInt8} (h : ¬ (97 ≤ c.toNat ∧ c.toNat ≤ 122 ∨ 0 < k ∧ (48 ≤ c.toNat ∧ c.toNat ≤ 57 ∨ c.toNat = 95))) : okAt k c = false := by
  rw [← Bool.not_eq_true]
  intro h'
  exact h (by simpa [okAt, lett, later] using h')

/-- The places below k are those of a name. -/
def NameTo (l : List UInt8) (k : Nat) : Prop := ∀ j c, l[j]? = some c → j < k → okAt j c = true
theorem NameTo.step {l : List UInt8} {k : Nat} {c : UInt8} (h : NameTo l k) (hk : l[k]? = some c) (hb : okAt k c = true) : NameTo l (k + 1) := fun j d hj hjk => by
  by_cases e : j = k
  · subst e
    obtain rfl := Option.some.inj (hk.symm.trans hj)
    exact hb
  · exact h j d hj (by omega)
theorem NameTo.all {l : List UInt8} {n : Nat} (h : NameTo l n) (hn : l.length = n) : decide (Named l) = decide (1 ≤ n ∧ n ≤ 16) := by
  rw [decide_eq_decide]
  subst hn
  exact ⟨fun h => h.1, fun h1 => ⟨h1, fun j hj => h j _ (List.getElem?_eq_getElem hj) hj⟩⟩
theorem name_bad {l : List UInt8} {j : Nat} {c : UInt8} (h : l[j]? = some c) (hb : okAt j c = false) : decide (Named l) = false := by
  rw [decide_eq_false_iff_not]
  rintro ⟨_, ha⟩
  obtain ⟨hj, e⟩ := List.getElem?_eq_some_iff.1 h
  have := ha j hj
  rw [e, hb] at this
  cases this
theorem name_len {l : List UInt8} (h : l.length < 1 ∨ 16 < l.length) : decide (Named l) = false := by
  rw [decide_eq_false_iff_not]
  rintro ⟨h, _⟩
  omega

set_option maxHeartbeats 1600000 in
theorem name_any (s : ByteArray) (hs : s.size ≤ maxLen) (w : World) :
    Calls Tryz.prog 57 #[.string s] w fun e w' => e = .returned (.bool (decide (Named s.data.toList))) ∧ w' = w := by
  have hl := data_len s
  generalize hL : s.data.toList = l at *
  have HD : Hid (∀ k (h : k < s.size), l[k]? = some s[k]) := by
    show ∀ k (h : k < s.size), l[k]? = some s[k]
    subst hL; exact fun k h => data_at h
  have HL := Lib.hid hl
  unfold maxLen at hs
  clear hl hL
  by_cases h1 : s.size < 1
  · go_enter Tryz.func57, Tryz.ntmps57
    go_wp2_with fail
    go_ret
    exact ⟨ret_bool (name_len (by have := HL.out; omega)).symm, rfl⟩
  by_cases h2 : 16 < s.size
  · go_enter Tryz.func57, Tryz.ntmps57
    go_wp2_with fail
    go_ret
    exact ⟨ret_bool (name_len (by have := HL.out; omega)).symm, rfl⟩
  go_enter Tryz.func57, Tryz.ntmps57
  go_wp2_with fail
  go_loop [17] (fun i => ∃ k : Nat, k ≤ s.size ∧ i = .int .i64 k ∧ NameTo l k) (fun i => s.size - (intOf i).toNat)
  case atStart => exact ⟨0, Nat.zero_le _, rfl, fun j c h hj => by omega⟩
  case round =>
    obtain ⟨k, hk, rfl, ht⟩ := hrel
    have HT := Lib.hid ht
    clear ht
    by_cases hlt : k < s.size
    · have two : ∀ c : UInt8, ((c.toNat : Int) < 97 ∧ (c.toNat : Int) < 48 ∧ ((c.toNat : Int) == 95) = false) ∨ ((c.toNat : Int) < 97 ∧ (48 ≤ (c.toNat : Int) ∧ (c.toNat : Int) ≤ 57) ∧ ((c.toNat : Int) == 95) = false) ∨ ((c.toNat : Int) < 97 ∧ (48 ≤ (c.toNat : Int) ∧ 57 < (c.toNat : Int)) ∧ ((c.toNat : Int) == 95) = false) ∨
          ((c.toNat : Int) < 97 ∧ (48 ≤ (c.toNat : Int) ∧ 57 < (c.toNat : Int)) ∧ ((c.toNat : Int) == 95) = true) ∨ (122 < (c.toNat : Int) ∧ (48 ≤ (c.toNat : Int) ∧ 57 < (c.toNat : Int) ∧ 97 ≤ (c.toNat : Int)) ∧ ((c.toNat : Int) == 95) = false) ∨ ((97 ≤ (c.toNat : Int) ∧ (c.toNat : Int) ≤ 122) ∧ (48 ≤ (c.toNat : Int) ∧ 57 < (c.toNat : Int)) ∧ ((c.toNat : Int) == 95) = false) := fun c => by
        simp only [beq_iff_eq, beq_eq_false_iff_ne]; omega
      have hi : 0 ≤ (k : Int) ∧ (k : Int) < s.size := by omega
      have hc := HD.out k hlt
      rcases Nat.eq_zero_or_pos k with rfl | hpos
      · have two := two s[0]
        generalize hcc : s[0] = c at *
        have HC := Lib.hid hc
        clear hc
        rcases two with ⟨a, b, e⟩ | ⟨a, b, e⟩ | ⟨a, b, e⟩ | ⟨a, b, e⟩ | ⟨a, b, e⟩ | ⟨a, b, e⟩
        all_goals
          go_wp2_with fail
          all_goals simp only [beq_iff_eq, beq_eq_false_iff_ne] at e
          all_goals first
            | (exfalso; rename_i hh; revert hh; simp; omega)
            | (go_ret; exact ⟨ret_bool (name_bad HC.out (okAt_not (by omega))).symm, rfl⟩)
            | (go_round
               case rel => exact ⟨0 + 1, by omega, by go_num, HT.out.step HC.out (okAt_of (by omega))⟩
               case measure => simp [intOf]; omega)
      · have two := two s[k]
        generalize hcc : s[k] = c at *
        have HC := Lib.hid hc
        clear hc
        have hkn : ¬ k = 0 := by omega
        have hkz : ((k : Int) == 0) = false := by rw [beq_eq_false_iff_ne]; omega
        rcases two with ⟨a, b, e⟩ | ⟨a, b, e⟩ | ⟨a, b, e⟩ | ⟨a, b, e⟩ | ⟨a, b, e⟩ | ⟨a, b, e⟩
        all_goals
          go_wp2_with fail
          all_goals simp only [beq_iff_eq, beq_eq_false_iff_ne] at e
          all_goals first
            | (exfalso; rename_i hh; revert hh; simp; omega)
            | (go_ret; exact ⟨ret_bool (name_bad HC.out (okAt_not (by omega))).symm, rfl⟩)
            | (go_round
               case rel => exact ⟨k + 1, by omega, by go_num, HT.out.step HC.out (okAt_of (by omega))⟩
               case measure => simp [intOf]; omega)
    · obtain rfl : k = s.size := by omega
      go_wp2_with fail
      go_ret
      exact ⟨ret_bool ((HT.out.all HL.out).trans (decide_eq_true (by omega))).symm, rfl⟩

end Go.Proofs.YtjpkemamfccfdaaGreatDoor
