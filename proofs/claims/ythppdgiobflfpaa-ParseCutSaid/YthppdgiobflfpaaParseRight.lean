/- ParseRight: the walk. -/
import Derived.Test.YthppdgiobflfpaaNineI
namespace Go.Proofs.Ythppdgiobflfpaa
set_option linter.unusedVariables false
open Go.RowKit

theorem PolAt.in_ {w : World} {R : Nat → Prop} {d : Nat} {p : Pol} {A1 A2 A3 A4 : Option Addr} {n1 n2 n3 n4 c1 c2 c3 c4 : Nat} (h : PolAt w R (d + 1) [.string p.id, .bool p.set, .int .i64 p.alg, .slice A1 n1 c1, .slice A2 n2 c2, .slice A3 n3 c3, .slice A4 n4 c4] p) : PolIn w R p A1 n1 c1 A2 n2 c2 A3 n3 c3 A4 n4 c4 := by
  obtain ⟨B1, m1, d1, B2, m2, d2, B3, m3, d3, B4, m4, d4, e, h0, h00, h1, h2, h3, h4⟩ := h
  simp at e
  obtain ⟨⟨rfl, rfl, rfl⟩, ⟨rfl, rfl, rfl⟩, ⟨rfl, rfl, rfl⟩, ⟨rfl, rfl, rfl⟩⟩ := e
  exact ⟨⟨h0, h00⟩, h1, h2, ⟨d, h3⟩, h4⟩
/-- Nothing is the same as nothing. -/
theorem no_same {w : World} {R : Nat → Prop} {A1 A2 A3 A4 : Option Addr} {n1 n2 n3 n4 c1 c2 c3 c4 : Nat} (hp : PolIn w R noPol A1 n1 c1 A2 n2 c2 A3 n3 c3 A4 n4 c4) :
    Calls Try.prog 11 #[.agg #[.string noPol.id, .bool noPol.set, .int .i64 noPol.alg, .slice A1 n1 c1, .slice A2 n2 c2, .slice A3 n3 c3, .slice A4 n4 c4], .agg #[.string ⟨#[]⟩, .bool false, .int .i64 0, .slice none 0 0, .slice none 0 0, .slice none 0 0, .slice none 0 0]] w fun e w' => e = .returned (.bool true) ∧ Below w.heap.size w w' := by
  obtain ⟨⟨h0, h00⟩, h1, h2, ⟨d, h3⟩, h4⟩ := hp
  obtain rfl : n1 = 0 := (Rw.len h1).symm
  obtain rfl : n2 = 0 := (Rw.len h2).symm
  obtain rfl : n3 = 0 := (Rw.len h3).symm
  obtain rfl : n4 = 0 := (Rw.len h4).symm
  exact same_all d (R' := fun _ => True) (m := 0) (p := noPol) h0 ⟨h1, h2, h3, h4⟩ ⟨Rw.nil_ _ _ _ _, Rw.nil_ _ _ _ _, Rw.nil_ _ _ _ _, Rw.nil_ _ _ _ _⟩
set_option maxRecDepth 100000 in
set_option maxHeartbeats 1600000 in
theorem parseRight_walk (s : ByteArray) (hs : s.size ≤ maxLen) (w : World) : Calls Try.prog 4 #[.string s] w fun e w' => e = .returned (.bool true) ∧ Below w.heap.size w w' := by
  have HR := Lib.hid (fun w => runs9_any w)
  obtain ⟨t, ht, hts, htl⟩ : ∃ t : ByteArray, t = (if 1500 < s.size then s.extract 0 1500 else s) ∧ t.size ≤ 1500 ∧ t.size ≤ s.size := by
    refine ⟨_, rfl, ?_⟩
    split
    · rw [ext_size _ (by omega)]; omega
    · omega
  have HC := Lib.hid (fun w => parse_any (w := w) t (by unfold maxLen; omega))
  unfold ParseP at HC
  have hE := parseR_err t (by omega)
  generalize parseR t = r at *
  obtain ⟨p, e, i⟩ := r
  simp only at HC hE
  have HT := Lib.hid ht
  unfold maxLen at hs
  by_cases h15 : 1500 < s.size
  case' pos =>
    have hb1 : (1500 : Int) < (s.size : Int) := by omega
    rw [if_pos h15] at HT
  case' neg =>
    have hb1 : ¬ (1500 : Int) < (s.size : Int) := by omega
    rw [if_neg h15] at HT
  all_goals
    have hte := HT.out
    clear ht h15
    rcases hE with ⟨rfl, rfl, hr⟩ | ⟨he, rfl, hi1, hi2⟩

    · have HRT := Lib.hid hr
      clear hr
      go_enter Try.func4, Try.ntmps4
      go_wp2_with fail
      rw [← HT.out]
      go_at_call 10
      refine (HC.out _).mono ?_
      rintro x w1 ⟨y, rfl, hb, A1, n1, c1, A2, n2, c2, A3, n3, c3, A4, n4, c4, rfl, hp⟩
      have B1 := Lib.hid hb
      have b2 := hb.alloc hb.size (.cells #[.string p.id, .bool p.set, .int .i64 p.alg, .slice A1 n1 c1, .slice A2 n2 c2, .slice A3 n3 c3, .slice A4 n4 c4] 28)
      have B2 := Lib.hid b2
      have HP := Lib.hid (PolAt.keep (Kept.all (al9 w1 (.cells #[.string p.id, .bool p.set, .int .i64 p.alg, .slice A1 n1 c1, .slice A2 n2 c2, .slice A3 n3 c3, .slice A4 n4 c4] 28)) _) (fun _ h _ => h) hp)
      clear hb b2 hp
      go_wp2_with fail
      go_at_call 12
      refine (right_pol (PolAt.in_ HP.out)).mono ?_
      rintro x w2 ⟨hx, hb⟩
      obtain rfl : x = .returned (.int .i64 0) := by rw [hx, HRT.out]
      have B3 := Lib.hid hb
      clear hb hx
      go_wp2_with fail
      go_at_call 3
      refine (HR.out _).mono ?_
      rintro x w3 ⟨rfl, hb⟩
      have B4 := Lib.hid hb
      clear hb
      go_wp2_with fail
      go_ret
      exact ⟨rfl, below_step B2.out (below_step B3.out B4.out)⟩
    · have hi3 : i ≤ ((min 1500 s.size : Nat) : Int) := by omega
      rw [hte] at hi2
      have he2 : (e != 0) = true := by rw [bne_iff_ne]; omega
      have he3 : ((e == 5) = true ∨ (e == 5) = false ∧ (e == 6) = true) := by
        rcases he with rfl | rfl
        · exact .inl rfl
        · exact .inr ⟨rfl, rfl⟩
      clear he
      rcases he3 with he5 | ⟨he5, he6⟩
      all_goals
        go_enter Try.func4, Try.ntmps4
        go_wp2_with fail
        rw [← HT.out]
        go_at_call 10
        refine (HC.out _).mono ?_
        rintro x w1 ⟨y, rfl, hb, A1, n1, c1, A2, n2, c2, A3, n3, c3, A4, n4, c4, rfl, hp⟩
        have B1 := Lib.hid hb
        have b2 := hb.alloc hb.size (.cells #[.string noPol.id, .bool noPol.set, .int .i64 noPol.alg, .slice A1 n1 c1, .slice A2 n2 c2, .slice A3 n3 c3, .slice A4 n4 c4] 28)
        have B2 := Lib.hid b2
        have HP := Lib.hid (PolAt.keep (Kept.all (al9 w1 (.cells #[.string noPol.id, .bool noPol.set, .int .i64 noPol.alg, .slice A1 n1 c1, .slice A2 n2 c2, .slice A3 n3 c3, .slice A4 n4 c4] 28)) _) (fun _ h _ => h) hp)
        clear hb b2 hp
        go_wp2_with fail
        go_at_call 11
        refine (no_same (PolAt.in_ HP.out)).mono ?_
        rintro x w2 ⟨rfl, hb⟩
        have B3 := Lib.hid hb
        clear hb
        go_wp2_with fail
        go_at_call 3
        refine (HR.out _).mono ?_
        rintro x w3 ⟨rfl, hb⟩
        have B4 := Lib.hid hb
        clear hb
        go_wp2_with fail
        go_ret
        exact ⟨rfl, below_step B2.out (below_step B3.out B4.out)⟩
end Go.Proofs.Ythppdgiobflfpaa
