/- ParseCut: the walk. -/
import Derived.Test.YthppdgiobflfpaaParCutL
import Derived.Test.YthppdgiobflfpaaParMoreP
import Derived.Test.YthppdgiobflfpaaParseRight
import Derived.Test.YthppdgiobflfpaaWithin
namespace Go.Proofs.Ythppdgiobflfpaa
set_option linter.unusedVariables false
open Go.RowKit

theorem take_text {t : ByteArray} {k : Nat} (hk : k ≤ t.size) : t.data.toList = (t.extract 0 k).data.toList ++ t.data.toList.drop k := by
  have : (t.extract 0 k).data.toList = t.data.toList.take k := by simp
  rw [this, List.take_append_drop]
/-- None of the first bytes is a bracket. -/
def NoB (l : List UInt8) (k : Nat) : Prop := ∀ c ∈ l.take k, c ≠ 123
theorem NoB.step {l : List UInt8} {k : Nat} {c : UInt8} (h : NoB l k) (hc : l[k]? = some c) (hn : c ≠ 123) : NoB l (k + 1) := by
  intro d hd
  rw [List.take_add_one, hc] at hd
  rcases List.mem_append.1 hd with hd | hd
  · exact h d hd
  · simp at hd
    subst hd
    exact hn
theorem NoB.less {l : List UInt8} {k m : Nat} (h : NoB l m) (hk : k ≤ m) : NoB l k := fun c hc => h c (by
  have : l.take k = (l.take m).take k := by rw [List.take_take]; congr 1; omega
  rw [this] at hc
  exact List.mem_of_mem_take hc)
theorem within_n (x : Int) (n : Nat) : ∃ k : Nat, k ≤ n ∧ withinOf x 0 (n : Int) = (k : Int) := by
  have := within_le (n := x) (lo := 0) (hi := (n : Int)) (by omega)
  exact ⟨(withinOf x 0 (n : Int)).toNat, by omega, by omega⟩
set_option maxRecDepth 100000 in
set_option maxHeartbeats 3200000 in
theorem parseCut_walk (s : ByteArray) (hs : s.size ≤ maxLen) (cut : Int) (hcut : (Lit.int .i64 cut).wf = true) (w : World) : Calls Try.prog 5 #[.string s, .int .i64 cut] w fun e w' => e = .returned (.bool true) ∧ Below w.heap.size w w' := by
  have HR := Lib.hid (fun w => runs9_any w)
  obtain ⟨t, ht, hts⟩ : ∃ t : ByteArray, t = (if 800 < s.size then s.extract 0 800 else s) ∧ t.size ≤ 800 := by
    refine ⟨_, rfl, ?_⟩
    split
    · rw [ext_size _ (by omega)]; omega
    · omega
  have HC := Lib.hid (fun w => parse_any (w := w) t (by unfold maxLen; omega))
  unfold ParseP at HC
  obtain ⟨p, e, i, hr⟩ : ∃ p e i, parseR t = (p, e, i) := ⟨_, _, _, rfl⟩
  rw [hr] at HC
  have HE := Lib.hid hr
  have HT := Lib.hid ht
  have HTS := Lib.hid hts
  clear hr
  unfold maxLen at hs
  by_cases h8 : 800 < s.size
  case' pos =>
    have hb1 : (800 : Int) < (s.size : Int) := by omega
    rw [if_pos h8] at HT
  case' neg =>
    have hb1 : ¬ (800 : Int) < (s.size : Int) := by omega
    rw [if_neg h8] at HT
  all_goals
    clear ht hts h8
    go_enter Try.func5, Try.ntmps5
    go_wp2_with fail
    rw [← HT.out]
    go_at_call 10
    refine (HC.out _).mono ?_
    rintro x w1 ⟨y, rfl, hb, A10, n10, c10, A20, n20, c20, A30, n30, c30, A40, n40, c40, rfl, hp⟩
    have B2 := Lib.hid (hb.alloc hb.size (.cells #[.string p.id, .bool p.set, .int .i64 p.alg, .slice A10 n10 c10, .slice A20 n20 c20, .slice A30 n30 c30, .slice A40 n40 c40] 28))
    clear hb hp
    by_cases he : e = 0
    · subst he
      have HA : Hid (∀ (w : World) (u : ByteArray), u.data.toList = t.data.toList ++ [32, 125] → Calls Try.prog 10 #[.string u] w fun x w' => ∃ y, x = .returned (.tuple #[y, .int .i64 5, .int .i64 ((t.size : Int) + 1)]) ∧ Below w.heap.size w w' ∧ PolOf w w' 5 noPol y) := fun w u hu =>
        parse_is (behind_rb HTS.out HE.out hu) (by
          have e1 : u.size = u.data.toList.length := rfl
          have e2 : t.data.toList.length = t.size := rfl
          have := HTS.out
          rw [hu, List.length_append, e2] at e1
          simp only [List.length_cons, List.length_nil] at e1
          unfold maxLen
          omega)
      have HB : Hid (∀ (w : World) (u : ByteArray), u.data.toList = t.data.toList ++ [32, 112, 111, 108, 105, 99, 121] → Calls Try.prog 10 #[.string u] w fun x w' => ∃ y, x = .returned (.tuple #[y, .int .i64 5, .int .i64 ((t.size : Int) + 1)]) ∧ Below w.heap.size w w' ∧ PolOf w w' 5 noPol y) := fun w u hu =>
        parse_is (behind_policy HTS.out HE.out hu) (by
          have e1 : u.size = u.data.toList.length := rfl
          have e2 : t.data.toList.length = t.size := rfl
          have := HTS.out
          rw [hu, List.length_append, e2] at e1
          simp only [List.length_cons, List.length_nil] at e1
          unfold maxLen
          omega)
      have HD : Hid (∀ (w : World) (k : Nat), k ≤ t.size → NoB t.data.toList k → Calls Try.prog 10 #[.string (t.extract 0 k)] w fun x w' => ∃ y i, x = .returned (.tuple #[y, .int .i64 5, .int .i64 i]) ∧ Below w.heap.size w w' ∧ PolOf w w' 5 noPol y) := fun w k hk hn => by
        obtain ⟨j, hj⟩ := cut_read (by have := HTS.out; omega) HE.out (take_text hk) (by
          have : (t.extract 0 k).data.toList = t.data.toList.take k := by simp
          rw [this]
          exact hn)
        exact (parse_is hj (by have := HTS.out; rw [ext_size _ hk]; unfold maxLen; omega)).mono fun x w' ⟨y, h1, h2, h3⟩ => ⟨y, j, h1, h2, h3⟩
      have HL : Hid (∀ k (h : k < t.size), t.data.toList[k]? = some t[k]) := fun k h => by
        rw [List.getElem?_eq_getElem (by simpa using h)]
        rfl
      have ts8 : t.size ≤ 800 := HTS.out
      have x1 : (9223372036854775807 < t.size + 2) = False := eq_false (by omega)
      have x2 : (9223372036854775807 < t.size + 7) = False := eq_false (by omega)
      go_wp2_with fail
      go_at_call 10
      refine (HA.out _ _ (by simp)).mono ?_
      rintro x w2 ⟨y, rfl, hb, A1a, n1a, c1a, A2a, n2a, c2a, A3a, n3a, c3a, A4a, n4a, c4a, rfl, hp⟩
      have B3 := Lib.hid (below_step B2.out (hb.alloc hb.size (.cells #[.string noPol.id, .bool noPol.set, .int .i64 noPol.alg, .slice A1a n1a c1a, .slice A2a n2a c2a, .slice A3a n3a c3a, .slice A4a n4a c4a] 28)))
      clear hb hp
      go_wp2_with fail
      go_at_call 10
      refine (HB.out _ _ (by simp)).mono ?_
      rintro x w3 ⟨y, rfl, hb, A1b, n1b, c1b, A2b, n2b, c2b, A3b, n3b, c3b, A4b, n4b, c4b, rfl, hp⟩
      have B4 := Lib.hid (below_step B3.out (hb.alloc hb.size (.cells #[.string noPol.id, .bool noPol.set, .int .i64 noPol.alg, .slice A1b n1b c1b, .slice A2b n2b c2b, .slice A3b n3b c3b, .slice A4b n4b c4b] 28)))
      clear hb hp
      go_wp2_with fail
      go_loop [14] (fun i => ∃ j : Nat, j ≤ t.size ∧ i = .int .i64 (j : Int) ∧ NoB t.data.toList j) (fun i => t.size - (intOf i).toNat)
      case atStart => exact ⟨0, Nat.zero_le _, rfl, by intro c hc; simp at hc⟩
      case round =>
        obtain ⟨j, hj, rfl, hnb⟩ := hrel
        have HN := Lib.hid hnb
        clear hnb
        by_cases hlt : j < t.size
        · have hc := HL.out j hlt
          have hjd : decide ((j : Int) < (t.size : Int)) = true := decide_eq_true (by omega)
          have hi : 0 ≤ (j : Int) ∧ (j : Int) < t.size := by omega
          by_cases h123 : t[j] = 123
          · have hq : (((t[j]).toNat : Int) != 123) = false := by rw [h123]; rfl
            clear h123 hc
            go_wp2_with fail
            obtain ⟨k, hk, ek⟩ := within_n cut j
            go_at_call 13
            refine (within_any (by omega) (by omega) (by omega)).mono ?_
            rintro x w4 ⟨rfl, rfl⟩
            rw [ek]
            have hk1 : (k : Int) ≤ (t.size : Int) := by omega
            have hk2 : k ≤ t.size := by omega
            go_wp2_with fail
            go_at_call 10
            refine (HD.out _ k hk2 (HN.out.less hk)).mono ?_
            rintro x w5 ⟨y, z, rfl, hb, A1c, n1c, c1c, A2c, n2c, c2c, A3c, n3c, c3c, A4c, n4c, c4c, rfl, hp⟩
            have B5 := Lib.hid (below_step B4.out (hb.alloc hb.size (.cells #[.string noPol.id, .bool noPol.set, .int .i64 noPol.alg, .slice A1c n1c c1c, .slice A2c n2c c2c, .slice A3c n3c c3c, .slice A4c n4c c4c] 28)))
            clear hb hp
            go_wp2_with fail
            go_at_call 3
            refine (HR.out _).mono ?_
            rintro x w6 ⟨rfl, hb⟩
            have B6 := Lib.hid hb
            clear hb
            go_wp2_with fail
            go_ret
            exact ⟨rfl, below_step B5.out B6.out⟩
          · have hq : (((t[j]).toNat : Int) != 123) = true := by
              rw [bne_iff_ne]
              intro h
              apply h123
              apply UInt8.toNat.inj
              have : (t[j]).toNat = 123 := by omega
              rw [this]
              rfl
            have HST := Lib.hid (HN.out.step hc h123)
            clear hc h123
            go_wp2_with fail
            go_round
            case rel => exact ⟨j + 1, by omega, by go_num, HST.out⟩
            case measure => simp [intOf]; omega
        · have hjd : decide ((j : Int) < (t.size : Int)) = false := decide_eq_false (by omega)
          go_wp2_with fail
          obtain ⟨k, hk, ek⟩ := within_n cut j
          go_at_call 13
          refine (within_any (by omega) (by omega) (by omega)).mono ?_
          rintro x w4 ⟨rfl, rfl⟩
          rw [ek]
          have hk1 : (k : Int) ≤ (t.size : Int) := by omega
          have hk2 : k ≤ t.size := by omega
          go_wp2_with fail
          go_at_call 10
          refine (HD.out _ k hk2 (HN.out.less hk)).mono ?_
          rintro x w5 ⟨y, z, rfl, hb, A1c, n1c, c1c, A2c, n2c, c2c, A3c, n3c, c3c, A4c, n4c, c4c, rfl, hp⟩
          have B5 := Lib.hid (below_step B4.out (hb.alloc hb.size (.cells #[.string noPol.id, .bool noPol.set, .int .i64 noPol.alg, .slice A1c n1c c1c, .slice A2c n2c c2c, .slice A3c n3c c3c, .slice A4c n4c c4c] 28)))
          clear hb hp
          go_wp2_with fail
          go_at_call 3
          refine (HR.out _).mono ?_
          rintro x w6 ⟨rfl, hb⟩
          have B6 := Lib.hid hb
          clear hb
          go_wp2_with fail
          go_ret
          exact ⟨rfl, below_step B5.out B6.out⟩
    · have he2 : (e != 0) = true := by rw [bne_iff_ne]; exact he
      clear he
      go_wp2_with fail
      go_at_call 3
      refine (HR.out _).mono ?_
      rintro x w3 ⟨rfl, hb⟩
      have B4 := Lib.hid hb
      clear hb
      go_wp2_with fail
      go_ret
      exact ⟨rfl, below_step B2.out B4.out⟩
end Go.Proofs.Ythppdgiobflfpaa
