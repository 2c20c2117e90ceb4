/- ParseBlanks: the walk. -/
import Derived.Test.YthppdgiobflfpaaParBlanks
import Derived.Test.YthppdgiobflfpaaParseRight
import Derived.Test.YthppdgiobflfpaaWithin
namespace Go.Proofs.Ythppdgiobflfpaa
set_option linter.unusedVariables false
open Go.RowKit

/-- A policy's cells, twice in memory, are the same. -/
theorem two_same {w : World} {R R' : Nat → Prop} {d d' : Nat} {p : Pol} {A1 A2 A3 A4 A1q A2q A3q A4q : Option Addr} {n1 c1 n2 c2 n3 c3 n4 c4 n1q c1q n2q c2q n3q c3q n4q c4q : Nat} (hp : PolAt w R (d + 1) [.string p.id, .bool p.set, .int .i64 p.alg, .slice A1 n1 c1, .slice A2 n2 c2, .slice A3 n3 c3, .slice A4 n4 c4] p) (hq : PolAt w R' (d' + 1) [.string p.id, .bool p.set, .int .i64 p.alg, .slice A1q n1q c1q, .slice A2q n2q c2q, .slice A3q n3q c3q, .slice A4q n4q c4q] p) :
    Calls Try.prog 11 #[.agg #[.string p.id, .bool p.set, .int .i64 p.alg, .slice A1 n1 c1, .slice A2 n2 c2, .slice A3 n3 c3, .slice A4 n4 c4], .agg #[.string p.id, .bool p.set, .int .i64 p.alg, .slice A1q n1q c1q, .slice A2q n2q c2q, .slice A3q n3q c3q, .slice A4q n4q c4q]] w fun e w' => e = .returned (.bool true) ∧ Below w.heap.size w w' := by
  obtain ⟨⟨h0, h00⟩, h1, h2, ⟨m, h3⟩, h4⟩ := PolAt.in_ hp
  obtain ⟨_, k1, k2, ⟨m', k3⟩, k4⟩ := PolAt.in_ hq
  obtain rfl := Rw.same_len h1 k1
  obtain rfl := Rw.same_len h2 k2
  obtain rfl := Rw.same_len h3 k3
  obtain rfl := Rw.same_len h4 k4
  exact same_all m (m := m') h0 ⟨h1, h2, h3, h4⟩ ⟨k1, k2, k3, k4⟩
theorem within_3 (n : Int) : withinOf n 0 3 = 0 ∨ withinOf n 0 3 = 1 ∨ withinOf n 0 3 = 2 ∨ withinOf n 0 3 = 3 := by unfold withinOf; omega
set_option maxRecDepth 100000 in
set_option maxHeartbeats 3200000 in
theorem parseBlanks_walk (s : ByteArray) (hs : s.size ≤ maxLen) (n : Int) (hn : (Lit.int .i64 n).wf = true) (w : World) : Calls Try.prog 9 #[.string s, .int .i64 n] w fun e w' => e = .returned (.bool true) ∧ Below w.heap.size w w' := by
  have HR := Lib.hid (fun w => runs9_any w)
  obtain ⟨t, ht, hts⟩ : ∃ t : ByteArray, t = (if 600 < s.size then s.extract 0 600 else s) ∧ t.size ≤ 600 := by
    refine ⟨_, rfl, ?_⟩
    split
    · rw [ext_size _ (by omega)]; omega
    · omega
  have HC := Lib.hid (fun w => parse_any (w := w) t (by unfold maxLen; omega))
  unfold ParseP at HC
  obtain ⟨p, e, i, hr⟩ : ∃ p e i, parseR t = (p, e, i) := ⟨_, _, _, rfl⟩
  rw [hr] at HC
  have HE := Lib.hid hr
  have HT := Lib.hid ht
  have HTS := Lib.hid hts
  clear hr
  unfold maxLen at hs
  have hw := within_3 n
  by_cases h6 : 600 < s.size
  case' pos =>
    have hb1 : (600 : Int) < (s.size : Int) := by omega
    rw [if_pos h6] at HT
  case' neg =>
    have hb1 : ¬ (600 : Int) < (s.size : Int) := by omega
    rw [if_neg h6] at HT
  all_goals
    clear ht hts h6
    go_enter Try.func9, Try.ntmps9
    go_wp2_with fail
    rw [← HT.out]
    go_at_call 10
    refine (HC.out _).mono ?_
    rintro x w1 ⟨y, rfl, hb, A1, n1, c1, A2, n2, c2, A3, n3, c3, A4, n4, c4, rfl, hp⟩
    have B1 := Lib.hid hb
    have B2 := Lib.hid (hb.alloc hb.size (.cells #[.string p.id, .bool p.set, .int .i64 p.alg, .slice A1 n1 c1, .slice A2 n2 c2, .slice A3 n3 c3, .slice A4 n4 c4] 28))
    have HP := Lib.hid (PolAt.keep (Kept.all (al9 w1 (.cells #[.string p.id, .bool p.set, .int .i64 p.alg, .slice A1 n1 c1, .slice A2 n2 c2, .slice A3 n3 c3, .slice A4 n4 c4] 28)) _) (fun _ h _ => h) hp)
    have O2 := Lib.hid (Ob.made w1 28 #[.string p.id, .bool p.set, .int .i64 p.alg, .slice A1 n1 c1, .slice A2 n2 c2, .slice A3 n3 c3, .slice A4 n4 c4])
    clear hb hp
    by_cases he : e = 0
    · subst he
      have HQ : Hid (∀ (w : World) (t' : ByteArray) (g : List UInt8), (∀ c ∈ g, blk c = true) → g.length ≤ 10 → t'.data.toList = (10 :: g) ++ (t.data.toList ++ (10 :: g)) →
          Calls Try.prog 10 #[.string t'] w fun x w' => ∃ y, x = .returned (.tuple #[y, .int .i64 0, .int .i64 0]) ∧ Below w.heap.size w w' ∧ PolOf w w' 5 p y) := fun w t' g hg hgl ht' => parse_is (blanks_read HTS.out HE.out hg hgl ht') (by
            have e : t'.size = t'.data.toList.length := rfl
            have e2 : t.data.toList.length = t.size := rfl
            have := HTS.out
            rw [ht', List.length_append, List.length_append, e2] at e
            simp only [List.length_cons] at e
            unfold maxLen
            omega)
      go_wp2_with fail
      go_at_call 13
      refine (within_any (by omega) (by omega) (by omega)).mono ?_
      rintro x w2 ⟨rfl, rfl⟩
      rcases hw with hw | hw | hw | hw
      · have hx1 : (9223372036854775807 < 1 + t.size) = False := eq_false (by have := HTS.out; omega)
        have hx2 : (9223372036854775807 < 1 + t.size + 1) = False := eq_false (by have := HTS.out; omega)
        rw [hw]
        go_wp2_with fail
        go_at_call 10
        refine (HQ.out _ _ [] (by decide) (by decide) (by rw [show (⟨#[10, 32, 32, 32]⟩ : ByteArray).extract 0 1 = ⟨#[10]⟩ from by decide +kernel]; simp)).mono ?_
        rintro x w4 ⟨y, rfl, hb, A1q, n1q, c1q, A2q, n2q, c2q, A3q, n3q, c3q, A4q, n4q, c4q, rfl, hq⟩
        have B3 := Lib.hid (hb.alloc hb.size (.cells #[.string p.id, .bool p.set, .int .i64 p.alg, .slice A1q n1q c1q, .slice A2q n2q c2q, .slice A3q n3q c3q, .slice A4q n4q c4q] 28))
        have b3 := B3.out
        have HP2 := Lib.hid (PolAt.keep (Kept.all b3 _) (fun _ h _ => h) HP.out)
        have HQ2 := Lib.hid (PolAt.keep (Kept.all (al9 w4 (.cells #[.string p.id, .bool p.set, .int .i64 p.alg, .slice A1q n1q c1q, .slice A2q n2q c2q, .slice A3q n3q c3q, .slice A4q n4q c4q] 28)) _) (fun _ h _ => h) hq)
        have O3 := Lib.hid (O2.out.below b3 O2.out.lt)
        have O4 := Lib.hid (Ob.made w4 28 #[.string p.id, .bool p.set, .int .i64 p.alg, .slice A1q n1q c1q, .slice A2q n2q c2q, .slice A3q n3q c3q, .slice A4q n4q c4q])
        have pc0 := O3.out.cell 0
        have pd0 := O4.out.cell 0
        have pc1 := O3.out.cell 1
        have pd1 := O4.out.cell 1
        have pc2 := O3.out.cell 2
        have pd2 := O4.out.cell 2
        have pc3 := O3.out.cell 3
        have pd3 := O4.out.cell 3
        have pc4 := O3.out.cell 4
        have pd4 := O4.out.cell 4
        have pc5 := O3.out.cell 5
        have pd5 := O4.out.cell 5
        have pc6 := O3.out.cell 6
        have pd6 := O4.out.cell 6
        clear hb hq b3
        go_wp2_with fail
        go_at_call 11
        refine (two_same HP2.out HQ2.out).mono ?_
        rintro x w5 ⟨rfl, hb⟩
        have B4 := Lib.hid hb
        clear hb
        go_wp2_with fail
        go_at_call 3
        refine (HR.out _).mono ?_
        rintro x w6 ⟨rfl, hb⟩
        have B5 := Lib.hid hb
        clear hb
        go_wp2_with fail
        go_ret
        exact ⟨rfl, below_step B2.out (below_step B3.out (below_step B4.out B5.out))⟩
      · have hx1 : (9223372036854775807 < 2 + t.size) = False := eq_false (by have := HTS.out; omega)
        have hx2 : (9223372036854775807 < 2 + t.size + 2) = False := eq_false (by have := HTS.out; omega)
        rw [hw]
        go_wp2_with fail
        go_at_call 10
        refine (HQ.out _ _ [32] (by decide) (by decide) (by rw [show (⟨#[10, 32, 32, 32]⟩ : ByteArray).extract 0 2 = ⟨#[10, 32]⟩ from by decide +kernel]; simp)).mono ?_
        rintro x w4 ⟨y, rfl, hb, A1q, n1q, c1q, A2q, n2q, c2q, A3q, n3q, c3q, A4q, n4q, c4q, rfl, hq⟩
        have B3 := Lib.hid (hb.alloc hb.size (.cells #[.string p.id, .bool p.set, .int .i64 p.alg, .slice A1q n1q c1q, .slice A2q n2q c2q, .slice A3q n3q c3q, .slice A4q n4q c4q] 28))
        have b3 := B3.out
        have HP2 := Lib.hid (PolAt.keep (Kept.all b3 _) (fun _ h _ => h) HP.out)
        have HQ2 := Lib.hid (PolAt.keep (Kept.all (al9 w4 (.cells #[.string p.id, .bool p.set, .int .i64 p.alg, .slice A1q n1q c1q, .slice A2q n2q c2q, .slice A3q n3q c3q, .slice A4q n4q c4q] 28)) _) (fun _ h _ => h) hq)
        have O3 := Lib.hid (O2.out.below b3 O2.out.lt)
        have O4 := Lib.hid (Ob.made w4 28 #[.string p.id, .bool p.set, .int .i64 p.alg, .slice A1q n1q c1q, .slice A2q n2q c2q, .slice A3q n3q c3q, .slice A4q n4q c4q])
        have pc0 := O3.out.cell 0
        have pd0 := O4.out.cell 0
        have pc1 := O3.out.cell 1
        have pd1 := O4.out.cell 1
        have pc2 := O3.out.cell 2
        have pd2 := O4.out.cell 2
        have pc3 := O3.out.cell 3
        have pd3 := O4.out.cell 3
        have pc4 := O3.out.cell 4
        have pd4 := O4.out.cell 4
        have pc5 := O3.out.cell 5
        have pd5 := O4.out.cell 5
        have pc6 := O3.out.cell 6
        have pd6 := O4.out.cell 6
        clear hb hq b3
        go_wp2_with fail
        go_at_call 11
        refine (two_same HP2.out HQ2.out).mono ?_
        rintro x w5 ⟨rfl, hb⟩
        have B4 := Lib.hid hb
        clear hb
        go_wp2_with fail
        go_at_call 3
        refine (HR.out _).mono ?_
        rintro x w6 ⟨rfl, hb⟩
        have B5 := Lib.hid hb
        clear hb
        go_wp2_with fail
        go_ret
        exact ⟨rfl, below_step B2.out (below_step B3.out (below_step B4.out B5.out))⟩
      · have hx1 : (9223372036854775807 < 3 + t.size) = False := eq_false (by have := HTS.out; omega)
        have hx2 : (9223372036854775807 < 3 + t.size + 3) = False := eq_false (by have := HTS.out; omega)
        rw [hw]
        go_wp2_with fail
        go_at_call 10
        refine (HQ.out _ _ [32, 32] (by decide) (by decide) (by rw [show (⟨#[10, 32, 32, 32]⟩ : ByteArray).extract 0 3 = ⟨#[10, 32, 32]⟩ from by decide +kernel]; simp)).mono ?_
        rintro x w4 ⟨y, rfl, hb, A1q, n1q, c1q, A2q, n2q, c2q, A3q, n3q, c3q, A4q, n4q, c4q, rfl, hq⟩
        have B3 := Lib.hid (hb.alloc hb.size (.cells #[.string p.id, .bool p.set, .int .i64 p.alg, .slice A1q n1q c1q, .slice A2q n2q c2q, .slice A3q n3q c3q, .slice A4q n4q c4q] 28))
        have b3 := B3.out
        have HP2 := Lib.hid (PolAt.keep (Kept.all b3 _) (fun _ h _ => h) HP.out)
        have HQ2 := Lib.hid (PolAt.keep (Kept.all (al9 w4 (.cells #[.string p.id, .bool p.set, .int .i64 p.alg, .slice A1q n1q c1q, .slice A2q n2q c2q, .slice A3q n3q c3q, .slice A4q n4q c4q] 28)) _) (fun _ h _ => h) hq)
        have O3 := Lib.hid (O2.out.below b3 O2.out.lt)
        have O4 := Lib.hid (Ob.made w4 28 #[.string p.id, .bool p.set, .int .i64 p.alg, .slice A1q n1q c1q, .slice A2q n2q c2q, .slice A3q n3q c3q, .slice A4q n4q c4q])
        have pc0 := O3.out.cell 0
        have pd0 := O4.out.cell 0
        have pc1 := O3.out.cell 1
        have pd1 := O4.out.cell 1
        have pc2 := O3.out.cell 2
        have pd2 := O4.out.cell 2
        have pc3 := O3.out.cell 3
        have pd3 := O4.out.cell 3
        have pc4 := O3.out.cell 4
        have pd4 := O4.out.cell 4
        have pc5 := O3.out.cell 5
        have pd5 := O4.out.cell 5
        have pc6 := O3.out.cell 6
        have pd6 := O4.out.cell 6
        clear hb hq b3
        go_wp2_with fail
        go_at_call 11
        refine (two_same HP2.out HQ2.out).mono ?_
        rintro x w5 ⟨rfl, hb⟩
        have B4 := Lib.hid hb
        clear hb
        go_wp2_with fail
        go_at_call 3
        refine (HR.out _).mono ?_
        rintro x w6 ⟨rfl, hb⟩
        have B5 := Lib.hid hb
        clear hb
        go_wp2_with fail
        go_ret
        exact ⟨rfl, below_step B2.out (below_step B3.out (below_step B4.out B5.out))⟩
      · have hx1 : (9223372036854775807 < 4 + t.size) = False := eq_false (by have := HTS.out; omega)
        have hx2 : (9223372036854775807 < 4 + t.size + 4) = False := eq_false (by have := HTS.out; omega)
        rw [hw]
        go_wp2_with fail
        go_at_call 10
        refine (HQ.out _ _ [32, 32, 32] (by decide) (by decide) (by rw [show (⟨#[10, 32, 32, 32]⟩ : ByteArray).extract 0 4 = ⟨#[10, 32, 32, 32]⟩ from by decide +kernel]; simp)).mono ?_
        rintro x w4 ⟨y, rfl, hb, A1q, n1q, c1q, A2q, n2q, c2q, A3q, n3q, c3q, A4q, n4q, c4q, rfl, hq⟩
        have B3 := Lib.hid (hb.alloc hb.size (.cells #[.string p.id, .bool p.set, .int .i64 p.alg, .slice A1q n1q c1q, .slice A2q n2q c2q, .slice A3q n3q c3q, .slice A4q n4q c4q] 28))
        have b3 := B3.out
        have HP2 := Lib.hid (PolAt.keep (Kept.all b3 _) (fun _ h _ => h) HP.out)
        have HQ2 := Lib.hid (PolAt.keep (Kept.all (al9 w4 (.cells #[.string p.id, .bool p.set, .int .i64 p.alg, .slice A1q n1q c1q, .slice A2q n2q c2q, .slice A3q n3q c3q, .slice A4q n4q c4q] 28)) _) (fun _ h _ => h) hq)
        have O3 := Lib.hid (O2.out.below b3 O2.out.lt)
        have O4 := Lib.hid (Ob.made w4 28 #[.string p.id, .bool p.set, .int .i64 p.alg, .slice A1q n1q c1q, .slice A2q n2q c2q, .slice A3q n3q c3q, .slice A4q n4q c4q])
        have pc0 := O3.out.cell 0
        have pd0 := O4.out.cell 0
        have pc1 := O3.out.cell 1
        have pd1 := O4.out.cell 1
        have pc2 := O3.out.cell 2
        have pd2 := O4.out.cell 2
        have pc3 := O3.out.cell 3
        have pd3 := O4.out.cell 3
        have pc4 := O3.out.cell 4
        have pd4 := O4.out.cell 4
        have pc5 := O3.out.cell 5
        have pd5 := O4.out.cell 5
        have pc6 := O3.out.cell 6
        have pd6 := O4.out.cell 6
        clear hb hq b3
        go_wp2_with fail
        go_at_call 11
        refine (two_same HP2.out HQ2.out).mono ?_
        rintro x w5 ⟨rfl, hb⟩
        have B4 := Lib.hid hb
        clear hb
        go_wp2_with fail
        go_at_call 3
        refine (HR.out _).mono ?_
        rintro x w6 ⟨rfl, hb⟩
        have B5 := Lib.hid hb
        clear hb
        go_wp2_with fail
        go_ret
        exact ⟨rfl, below_step B2.out (below_step B3.out (below_step B4.out B5.out))⟩
    · have he2 : (e != 0) = true := by rw [bne_iff_ne]; exact he
      clear he
      go_wp2_with fail
      go_at_call 3
      refine (HR.out _).mono ?_
      rintro x w3 ⟨rfl, hb⟩
      have B4 := Lib.hid hb
      clear hb
      go_wp2_with fail
      go_ret
      exact ⟨rfl, below_step B2.out B4.out⟩
end Go.Proofs.Ythppdgiobflfpaa
