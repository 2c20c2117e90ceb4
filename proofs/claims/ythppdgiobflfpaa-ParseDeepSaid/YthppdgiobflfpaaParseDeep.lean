/- ParseDeep: the walk. -/
import Derived.Test.YthppdgiobflfpaaNineI
import Derived.Test.YthppdgiobflfpaaParDeepM
import Derived.Test.YthppdgiobflfpaaWithin
import Derived.Test.YthppdgiobflfpaaNineF
namespace Go.Proofs.Ythppdgiobflfpaa
set_option linter.unusedVariables false
open Go.RowKit

theorem conv9 {w : World} {g : Nat} (c : UInt8) (h : Ob w g 5 #[.int .u8 (c.toNat : Int)]) : (convert 47 9 (.slice (some ⟨g, 0, none⟩) 1 1)).run Try.prog w = .ok (.string ⟨#[c]⟩) w :=
  conv_text Try.underlying47 Try.underlying5 Try.underlying9 (Ob.sl (xs := bv [c]) h rfl (by simp [maxLen]))
theorem size_l (s : ByteArray) : s.size = s.data.toList.length := rfl
theorem deepA_read {k : Nat} (hk : k ≤ 60) {s : ByteArray} (h : s.data.toList = deepA k) : (parseR s).2.1 = if k < 32 then 0 else 6 := by
  rw [parseF_eq, h]
  exact deepA_all k (List.mem_range.2 (by omega))
theorem deepS_read {k : Nat} (hk : k ≤ 7) {s : ByteArray} (h : s.data.toList = deepS k) : (parseR s).2.1 = (if k < 4 then 0 else 6) ∧ (4 ≤ k → (parseR s).2.2 = 56) := by
  rw [parseF_eq, h]
  exact deepS_all k (List.mem_range.2 (by omega))
theorem within_60 (n : Int) : ∃ k : Nat, k ≤ 60 ∧ withinOf n 0 60 = (k : Int) := ⟨(withinOf n 0 60).toNat, by unfold withinOf; omega, by unfold withinOf; omega⟩
theorem within_7 (n : Int) : ∃ k : Nat, k ≤ 7 ∧ withinOf n 0 7 = (k : Int) := ⟨(withinOf n 0 7).toNat, by unfold withinOf; omega, by unfold withinOf; omega⟩
/-- A text that is read: what it answers, and the policy's cells. -/
theorem parse_e {w : World} {s : ByteArray} {e i : Int} (he : (parseR s).2.1 = e) (hi : (parseR s).2.2 = i) (hs : s.size ≤ maxLen) : Calls Try.prog 10 #[.string s] w fun x w' => ∃ (a : ByteArray) (b : Bool) (c : Int) (A1 : Option Addr) (n1 c1 : Nat) (A2 : Option Addr) (n2 c2 : Nat) (A3 : Option Addr) (n3 c3 : Nat) (A4 : Option Addr) (n4 c4 : Nat),
    x = .returned (.tuple #[.agg #[.string a, .bool b, .int .i64 c, .slice A1 n1 c1, .slice A2 n2 c2, .slice A3 n3 c3, .slice A4 n4 c4], .int .i64 e, .int .i64 i]) ∧ Below w.heap.size w w' := by
  refine (parse_any (w := w) s hs).mono ?_
  rintro x w1 ⟨y, rfl, hb, A1, n1, c1, A2, n2, c2, A3, n3, c3, A4, n4, c4, rfl, hp⟩
  exact ⟨_, _, _, _, _, _, _, _, _, _, _, _, _, _, _, by rw [he, hi], hb⟩
theorem deepA_small {k : Nat} (hk : k ≤ 60) {s : ByteArray} (h : s.data.toList = deepA k) : s.size ≤ maxLen := by
  have e : s.size = (deepA k).length := by rw [← h]; rfl
  have e2 : (deepA k).length = 29 + (deepX k).length + 3 := by simp [deepA]; omega
  have := deepX_len k
  unfold maxLen
  omega
theorem deepS_small {k : Nat} (hk : k ≤ 7) {s : ByteArray} (h : s.data.toList = deepS k) : s.size ≤ maxLen := by
  have e : s.size = (deepS k).length := by rw [← h]; rfl
  have := deepS_len k
  unfold maxLen
  omega
set_option maxRecDepth 100000 in
set_option maxHeartbeats 3200000 in
theorem parseDeep_walk (n : Int) (hn : (Lit.int .i64 n).wf = true) (m : Int) (hm : (Lit.int .i64 m).wf = true) (w : World) : Calls Try.prog 6 #[.int .i64 n, .int .i64 m] w fun e w' => e = .returned (.bool true) ∧ Below w.heap.size w w' := by
  have HR := Lib.hid (fun w => runs9_any w)
  obtain ⟨k, hk, ek⟩ := within_60 n
  obtain ⟨d, hd, ed⟩ := within_7 m
  have HK := Lib.hid hk
  have HD := Lib.hid hd
  have EK := Lib.hid ek
  have ED := Lib.hid ed
  clear ek ed
  have h32 : (k < 32 ∧ (if k < 32 then (0 : Int) else 6) = 0) ∨ (¬ k < 32 ∧ (if k < 32 then (0 : Int) else 6) = 6) := by
    by_cases h : k < 32
    · exact .inl ⟨h, if_pos h⟩
    · exact .inr ⟨h, if_neg h⟩
  have h4 : (d < 4 ∧ (if d < 4 then (0 : Int) else 6) = 0) ∨ (¬ d < 4 ∧ (if d < 4 then (0 : Int) else 6) = 6) := by
    by_cases h : d < 4
    · exact .inl ⟨h, if_pos h⟩
    · exact .inr ⟨h, if_neg h⟩
  have HE1 : Hid (∀ {s : ByteArray}, s.data.toList = deepA k → (parseR s).2.1 = if k < 32 then 0 else 6) := fun h => deepA_read hk h
  have HE2 : Hid (∀ {s : ByteArray}, s.data.toList = deepS d → (parseR s).2.1 = (if d < 4 then 0 else 6) ∧ (4 ≤ d → (parseR s).2.2 = 56)) := fun h => deepS_read hd h
  have HE3 : Hid (∀ (w : World) (s : ByteArray), s.data.toList = deepA k → Calls Try.prog 10 #[.string s] w fun x w' => ∃ (a : ByteArray) (b : Bool) (c : Int) (A1 : Option Addr) (n1 c1 : Nat) (A2 : Option Addr) (n2 c2 : Nat) (A3 : Option Addr) (n3 c3 : Nat) (A4 : Option Addr) (n4 c4 : Nat) (i : Int),
    x = .returned (.tuple #[.agg #[.string a, .bool b, .int .i64 c, .slice A1 n1 c1, .slice A2 n2 c2, .slice A3 n3 c3, .slice A4 n4 c4], .int .i64 (if k < 32 then 0 else 6), .int .i64 i]) ∧ Below w.heap.size w w') := fun w s h => (parse_e (HE1.out h) rfl (deepA_small hk h)).mono fun _ _ ⟨a, b, c, A1, n1, c1, A2, n2, c2, A3, n3, c3, A4, n4, c4, h⟩ => ⟨a, b, c, A1, n1, c1, A2, n2, c2, A3, n3, c3, A4, n4, c4, _, h⟩
  have HE4 : Hid (∀ (w : World) (s : ByteArray), s.data.toList = deepS d → Calls Try.prog 10 #[.string s] w fun x w' => ∃ (a : ByteArray) (b : Bool) (c : Int) (A1 : Option Addr) (n1 c1 : Nat) (A2 : Option Addr) (n2 c2 : Nat) (A3 : Option Addr) (n3 c3 : Nat) (A4 : Option Addr) (n4 c4 : Nat) (i : Int),
    x = .returned (.tuple #[.agg #[.string a, .bool b, .int .i64 c, .slice A1 n1 c1, .slice A2 n2 c2, .slice A3 n3 c3, .slice A4 n4 c4], .int .i64 (if d < 4 then 0 else 6), .int .i64 i]) ∧ (4 ≤ d → i = 56) ∧ Below w.heap.size w w') := fun w s h => (parse_e (HE2.out h).1 rfl (deepS_small hd h)).mono fun _ _ ⟨a, b, c, A1, n1, c1, A2, n2, c2, A3, n3, c3, A4, n4, c4, h1, h2⟩ => ⟨a, b, c, A1, n1, c1, A2, n2, c2, A3, n3, c3, A4, n4, c4, _, h1, (HE2.out h).2, h2⟩
  clear HE1 HE2
  generalize (if k < 32 then (0 : Int) else 6) = e1 at *
  generalize (if d < 4 then (0 : Int) else 6) = e2 at *
  go_enter Try.func6, Try.ntmps6
  go_wp2_with fail
  go_at_call 13
  refine (within_any (by omega) (by omega) (by omega)).mono ?_
  rintro x w1 ⟨rfl, rfl⟩
  rw [EK.out]
  go_wp2_with fail
  go_loop [6, 7] (fun x i => ∃ (j : Nat) (t : ByteArray), j ≤ k ∧ i = .int .i64 (j : Int) ∧ x = .string t ∧ t.data.toList = deepX j) (fun x i => k - (intOf i).toNat)
  case atStart => exact ⟨0, _, Nat.zero_le _, rfl, rfl, rfl⟩
  case round =>
    obtain ⟨j, t, hj, rfl, rfl, ht⟩ := hrel
    have hl := deepX_len j
    rw [← ht, ← size_l] at hl
    have HT := Lib.hid ht
    clear ht
    by_cases hlt : j < k
    · have hx1 : (9223372036854775807 < 5 + t.size) = False := eq_false (by omega)
      have hx2 : (9223372036854775807 < 5 + t.size + 1) = False := eq_false (by omega)
      go_wp2_with fail
      go_round
      case rel => exact ⟨j + 1, _, by omega, by go_num, rfl, by simp [deepX, ← HT.out]⟩
      case measure => simp [intOf]; omega
    · obtain rfl : j = k := by omega
      have hx1 : (9223372036854775807 < 29 + t.size) = False := eq_false (by omega)
      have hx2 : (9223372036854775807 < 29 + t.size + 3) = False := eq_false (by omega)
      go_wp2_with fail
      go_at_call 10
      refine (HE3.out _ _ (by simp [deepA, ← HT.out])).mono ?_
      rintro x w1 ⟨a1, a2, a3, A1, n1, c1, A2, n2, c2, A3, n3, c3, A4, n4, c4, i1, rfl, hb⟩
      have B1 := Lib.hid hb
      have B2 := Lib.hid (hb.alloc hb.size (.cells #[.string a1, .bool a2, .int .i64 a3, .slice A1 n1 c1, .slice A2 n2 c2, .slice A3 n3 c3, .slice A4 n4 c4] 28))
      clear hb
      go_wp2_with fail
      go_at_call 13
      refine (within_any (by omega) (by omega) (by omega)).mono ?_
      rintro x w2 ⟨rfl, rfl⟩
      rw [ED.out]
      go_wp2_with fail
      generalize w1.alloc (.cells #[.string a1, .bool a2, .int .i64 a3, .slice A1 n1 c1, .slice A2 n2 c2, .slice A3 n3 c3, .slice A4 n4 c4] 28) = w2 at *
      go_loopw [12, 13] (fun x i wr => ∃ (j : Nat) (t : ByteArray), j ≤ d ∧ i = .int .i64 (j : Int) ∧ x = .string t ∧ t.data.toList = deepS j ∧ Below w2.heap.size w2 wr) (fun x i _ => d - (intOf i).toNat)
      case atStart => exact ⟨0, _, Nat.zero_le _, rfl, rfl, rfl, Below.refl _ _⟩
      case round =>
        obtain ⟨q, u, hq, rfl, rfl, hu, hb⟩ := hrel
        have hul := deepS_len q
        rw [← hu, ← size_l] at hul
        have HU := Lib.hid hu
        have BR := Lib.hid hb
        clear hu hb
        have hd7 : d ≤ 7 := HD.out
        by_cases hlt : q < d
        · have hx1 : (9223372036854775807 < 4 + 1) = False := eq_false (by omega)
          have hx3 : (9223372036854775807 < 4 + 1 + 9 + u.size) = False := eq_false (by omega)
          have hx4 : (9223372036854775807 < 4 + 1 + 9 + u.size + 2) = False := eq_false (by omega)
          have hx5 : (9223372036854775807 < 14 + u.size) = False := eq_false (by omega)
          have hx6 : (9223372036854775807 < 14 + u.size + 2) = False := eq_false (by omega)
          have hcb : ((UInt8.ofNat (97 + q)).toNat : Int) = 97 + (q : Int) := by simp; omega
          have hcv := conv9 (UInt8.ofNat (97 + q)) (Ob.made wr 5 #[.int .u8 ((UInt8.ofNat (97 + q)).toNat : Int)])
          rw [hcb] at hcv
          go_wp2_with fail
          go_roundw
          case rel => exact ⟨q + 1, _, by omega, by go_num, rfl, by simp [deepS, ← HU.out], BR.out.alloc BR.out.size _⟩
          case measure => simp [intOf]; omega
        · obtain rfl : q = d := by omega
          rcases h32 with ⟨h32, rfl⟩ | ⟨h32, rfl⟩
          case' inl => have hk1 : decide ((j : Int) + 1 ≤ 32) = true := decide_eq_true (by omega)
          case' inr => have hk1 : decide ((j : Int) + 1 ≤ 32) = false := decide_eq_false (by omega)
          all_goals
            rcases h4 with ⟨h4, rfl⟩ | ⟨h4, rfl⟩
            case' inl => have hd1 : decide ((4 : Int) ≤ (q : Int)) = false := decide_eq_false (by omega)
            case' inr => have hd1 : decide ((4 : Int) ≤ (q : Int)) = true := decide_eq_true (by omega)
          all_goals
            go_wp2_with fail
            go_at_call 10
            refine (HE4.out _ _ HU.out).mono ?_
            rintro x w4 ⟨b1, b2, b3, B1_, m1, d1, B2_, m2, d2, B3_, m3, d3, B4_, m4, d4, i2, rfl, hi2, hb⟩
            have B3 := Lib.hid (hb.alloc hb.size (.cells #[.string b1, .bool b2, .int .i64 b3, .slice B1_ m1 d1, .slice B2_ m2 d2, .slice B3_ m3 d3, .slice B4_ m4 d4] 28))
            clear hb
          all_goals
            try (have hi3 := hi2 (by omega); subst hi3)
            clear hi2
            go_wp2_with fail
            go_at_call 3
            refine (HR.out _).mono ?_
            rintro x w5 ⟨rfl, hb⟩
            have B4 := Lib.hid hb
            clear hb
            go_wp2_with fail
            go_ret
            exact ⟨rfl, below_step B2.out (below_step BR.out (below_step B3.out B4.out))⟩
end Go.Proofs.Ythppdgiobflfpaa
