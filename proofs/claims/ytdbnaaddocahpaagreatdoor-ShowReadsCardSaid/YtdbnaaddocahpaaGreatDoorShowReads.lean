/- ShowReads: the walk. -/
import Derived.Test.YtdbnaaddocahpaaGreatDoorTenJ
namespace Go.Proofs.YtdbnaaddocahpaaGreatDoor
set_option linter.unusedVariables false
open Go.RowKit

set_option maxRecDepth 100000 in
set_option maxHeartbeats 6400000 in
theorem showReads_walk (w : World) (s : ByteArray) (hs : s.size ≤ maxLen) (htab : Tbl w) : Calls Tryz.prog 5 #[.string s] w fun e w' => e = .returned (.bool true) ∧ Below w.heap.size w w' := by
  have HTB : Hid (∀ W, Below w.heap.size w W → Tbl W) := fun W hb => htab.then_ hb
  have HR := Lib.hid (fun w ht => runs10_any w ht)
  obtain ⟨t, ht, hts⟩ : ∃ t : ByteArray, t = (if 1000 < s.size then s.extract 0 1000 else s) ∧ t.size ≤ 1000 := by
    refine ⟨_, rfl, ?_⟩
    split
    · rw [ext_size _ (by omega)]; omega
    · omega
  have hE := parseR_err t (by omega)
  obtain ⟨r, hr⟩ : ∃ r, r = parseR t := ⟨_, rfl⟩
  have hpi : Hid (∀ {w : World}, parseR t = r → Calls Tryz.prog 20 #[.string t] w fun x w' => ∃ A1 n1 c1 A2 n2 c2 A3 n3 c3 A4 n4 c4, x = .returned (.tuple #[.agg #[.string r.1.id, .bool r.1.set, .int .i64 r.1.alg, .slice A1 n1 c1, .slice A2 n2 c2, .slice A3 n3 c3, .slice A4 n4 c4], .int .i64 r.2.1, .int .i64 r.2.2]) ∧ Below w.heap.size w w' ∧
    PolIn w' (fun _ => True) r.1 A1 n1 c1 A2 n2 c2 A3 n3 c3 A4 n4 c4) := fun h => parse_in h (by unfold maxLen; omega)
  have HC : Hid (∀ w, Calls Tryz.prog 20 #[.string t] w fun x w' => ∃ A1 n1 c1 A2 n2 c2 A3 n3 c3 A4 n4 c4, x = .returned (.tuple #[.agg #[.string r.1.id, .bool r.1.set, .int .i64 r.1.alg, .slice A1 n1 c1, .slice A2 n2 c2, .slice A3 n3 c3, .slice A4 n4 c4], .int .i64 r.2.1, .int .i64 r.2.2]) ∧ Below w.heap.size w w' ∧
    PolIn w' (fun _ => True) r.1 A1 n1 c1 A2 n2 c2 A3 n3 c3 A4 n4 c4) := fun w => hpi.out hr.symm
  rw [← hr] at hE
  clear hpi hr
  obtain ⟨p, e, i⟩ := r
  simp only at HC hE
  have HT := Lib.hid ht
  unfold maxLen at hs
  by_cases h15 : 1000 < s.size
  case' pos =>
    have hb1 : (1000 : Int) < (s.size : Int) := by omega
    rw [if_pos h15] at HT
  case' neg =>
    have hb1 : ¬ (1000 : Int) < (s.size : Int) := by omega
    rw [if_neg h15] at HT
  all_goals
    clear ht h15
    rcases hE with ⟨rfl, rfl, hr⟩ | ⟨he, hp0, _, _⟩
    · have HRT := Lib.hid hr
      clear hr
      go_enter Tryz.func5, Tryz.ntmps5
      go_wp2_with fail
      rw [← HT.out]
      go_at_call 20
      refine (HC.out _).mono ?_
      rintro x w1 ⟨A11, n11, c11, A12, n12, c12, A13, n13, c13, A14, n14, c14, rfl, hb, hp⟩
      have B1 := Lib.hid (hb)
      have PI1 := Lib.hid hp
      clear hb hp
      have OB1 := Lib.hid (Ob.made w1 28 #[.string p.id, .bool p.set, .int .i64 p.alg, .slice A11 n11 c11, .slice A12 n12 c12, .slice A13 n13 c13, .slice A14 n14 c14])
      have hba : Below w1.heap.size w1 (w1.alloc (.cells #[.string p.id, .bool p.set, .int .i64 p.alg, .slice A11 n11 c11, .slice A12 n12 c12, .slice A13 n13 c13, .slice A14 n14 c14] 28)) := al9' _ _
      have PJ1 := Lib.hid (PI1.out.then_ hba)
      have B1a := Lib.hid (below_step B1.out hba)
      have hok := PI1.out.oks 4
      obtain ⟨x, hx, hx1, hx2, hx3⟩ := text_of HRT.out hok
      have HSH := Lib.hid (show_pol PJ1.out (HTB.out _ B1a.out))
      rw [← hx] at HSH
      have HX := Lib.hid hx
      clear hok hx hba
      go_wp2_with fail
      go_at_call 14
      refine HSH.out.mono ?_
      rintro x2 w2 ⟨rfl, hb⟩
      have B2 := Lib.hid (below_step B1a.out hb)
      have PK1 := Lib.hid (PJ1.out.then_ hb)
      have OC1 := Lib.hid (OB1.out.below hb OB1.out.lt)
      clear hb
      rcases hx3 with ⟨hbig, hpr⟩ | ⟨hbig, hpr⟩
      · have hb4 : (4096 : Int) < (x.size : Int) := by omega
        have HC2 := Lib.hid (fun w => parse_in (w := w) hpr (by unfold maxLen; omega))
        clear hpr hbig
        go_wp2_with fail
        go_at_call 20
        refine (HC2.out _).mono ?_
        rintro x3 w3 ⟨A21, n21, c21, A22, n22, c22, A23, n23, c23, A24, n24, c24, rfl, hb3, hp3⟩
        have B3 := Lib.hid (below_step B2.out hb3)
        have hba : Below w3.heap.size w3 (w3.alloc (.cells #[.string noPol.id, .bool noPol.set, .int .i64 noPol.alg, .slice A21 n21 c21, .slice A22 n22 c22, .slice A23 n23 c23, .slice A24 n24 c24] 28)) := al9' _ _
        have B3a := Lib.hid (below_step B3.out hba)
        clear hb3 hp3 hba
        go_wp2_with fail
        go_at_call 8
        refine (HR.out _ (HTB.out _ B3a.out)).mono ?_
        rintro x4 w4 ⟨rfl, hb⟩
        have B4 := Lib.hid (below_step B3a.out hb)
        clear hb
        go_wp2_with fail
        go_ret
        exact ⟨rfl, B4.out⟩
      · have hb4 : ¬ (4096 : Int) < (x.size : Int) := by omega
        have HC2 := Lib.hid (fun w => parse_in (w := w) hpr (by unfold maxLen; omega))
        clear hpr hbig
        go_wp2_with fail
        go_at_call 20
        refine (HC2.out _).mono ?_
        rintro x3 w3 ⟨A21, n21, c21, A22, n22, c22, A23, n23, c23, A24, n24, c24, rfl, hb3, hp3⟩
        have B3 := Lib.hid (below_step B2.out hb3)
        have hba : Below w3.heap.size w3 (w3.alloc (.cells #[.string p.id, .bool p.set, .int .i64 p.alg, .slice A21 n21 c21, .slice A22 n22 c22, .slice A23 n23 c23, .slice A24 n24 c24] 28)) := al9' _ _
        have B3a := Lib.hid (below_step B3.out hba)
        have h32 := below_step hb3 hba
        have PL1 := Lib.hid (PK1.out.then_ h32)
        have PJ2 := Lib.hid (hp3.then_ hba)
        have OD1 := Lib.hid (OC1.out.below h32 OC1.out.lt)
        have OB2 := Lib.hid (Ob.made w3 28 #[.string p.id, .bool p.set, .int .i64 p.alg, .slice A21 n21 c21, .slice A22 n22 c22, .slice A23 n23 c23, .slice A24 n24 c24])
        clear hb3 hp3 hba h32
        have c0 := OD1.out.cell 0
        have c1 := OD1.out.cell 1
        have c2 := OD1.out.cell 2
        have c3 := OD1.out.cell 3
        have c4 := OD1.out.cell 4
        have c5 := OD1.out.cell 5
        have c6 := OD1.out.cell 6
        have HSM := Lib.hid (same_pol PL1.out PJ2.out)
        go_wp2_with fail
        go_at_call 18
        refine HSM.out.mono ?_
        rintro x4 w4 ⟨rfl, hb⟩
        have B4 := Lib.hid (below_step B3a.out hb)
        have PK2 := Lib.hid (PJ2.out.then_ hb)
        have OC2 := Lib.hid (OB2.out.below hb OB2.out.lt)
        clear hb c0 c1 c2 c3 c4 c5 c6
        have c0 := OC2.out.cell 0
        have c1 := OC2.out.cell 1
        have c2 := OC2.out.cell 2
        have c3 := OC2.out.cell 3
        have c4 := OC2.out.cell 4
        have c5 := OC2.out.cell 5
        have c6 := OC2.out.cell 6
        have HSH2 := Lib.hid (show_pol PK2.out (HTB.out _ B4.out))
        rw [← HX.out] at HSH2
        go_wp2_with fail
        go_at_call 14
        refine HSH2.out.mono ?_
        rintro x5 w5 ⟨rfl, hb⟩
        have B5 := Lib.hid (below_step B4.out hb)
        clear hb c0 c1 c2 c3 c4 c5 c6
        go_wp2_with fail
        go_at_call 8
        refine (HR.out _ (HTB.out _ B5.out)).mono ?_
        rintro x6 w6 ⟨rfl, hb⟩
        have B6 := Lib.hid (below_step B5.out hb)
        clear hb
        go_wp2_with fail
        go_ret
        exact ⟨rfl, B6.out⟩
    · have he2 : (e != 0) = true := by rw [bne_iff_ne]; omega
      clear he hp0
      go_enter Tryz.func5, Tryz.ntmps5
      go_wp2_with fail
      rw [← HT.out]
      go_at_call 20
      refine (HC.out _).mono ?_
      rintro x w1 ⟨A11, n11, c11, A12, n12, c12, A13, n13, c13, A14, n14, c14, rfl, hb, hp⟩
      have B1 := Lib.hid (hb.alloc hb.size (.cells #[.string p.id, .bool p.set, .int .i64 p.alg, .slice A11 n11 c11, .slice A12 n12 c12, .slice A13 n13 c13, .slice A14 n14 c14] 28))
      clear hb hp
      go_wp2_with fail
      go_at_call 8
      refine (HR.out _ (HTB.out _ B1.out)).mono ?_
      rintro x w2 ⟨rfl, hb⟩
      have B2 := Lib.hid (below_step B1.out hb)
      clear hb
      go_wp2_with fail
      go_ret
      exact ⟨rfl, B2.out⟩
end Go.Proofs.YtdbnaaddocahpaaGreatDoor
