/- ShowBack: the walk. -/
import Derived.Test.YtdbnaaddocahpaaGreatDoorTenJ
import Derived.Test.YtdbnaaddocahpaaGreatDoorShowCalls
namespace Go.Proofs.YtdbnaaddocahpaaGreatDoor
set_option linter.unusedVariables false
open Go.RowKit

set_option maxRecDepth 100000 in
set_option maxHeartbeats 6400000 in
theorem showBack_walk (W : World) (p : Pol) {A1 : Option Addr} {n1 k1 : Nat} {A2 : Option Addr} {n2 k2 : Nat} {A3 : Option Addr} {n3 k3 : Nat} {A4 : Option Addr} {n4 k4 : Nat} (h : PolIn W (fun _ => True) p A1 n1 k1 A2 n2 k2 A3 n3 k3 A4 n4 k4) (htab : Tbl W) :
    Calls Tryz.prog 4 #[.agg #[.string p.id, .bool p.set, .int .i64 p.alg, .slice A1 n1 k1, .slice A2 n2 k2, .slice A3 n3 k3, .slice A4 n4 k4]] W fun e w' => e = .returned (.bool true) ∧ Below W.heap.size W w' := by
  obtain ⟨d, _, hsm⟩ := call_small h
  have HS := Lib.hid hsm
  have H := Lib.hid h
  have HTB : Hid (∀ V, Below W.heap.size W V → Tbl V) := fun V hb => htab.then_ hb
  have HR := Lib.hid (fun w ht => runs10_any w ht)
  have XA : Hid (Ob (W.alloc (.cells #[.string p.id, .bool p.set, .int .i64 p.alg, .slice A1 n1 k1, .slice A2 n2 k2, .slice A3 n3 k3, .slice A4 n4 k4] 28)) W.heap.size 28 #[.string p.id, .bool p.set, .int .i64 p.alg, .slice A1 n1 k1, .slice A2 n2 k2, .slice A3 n3 k3, .slice A4 n4 k4]) := Ob.made _ _ _
  have D0 : Hid (Below W.heap.size W (W.alloc (.cells #[.string p.id, .bool p.set, .int .i64 p.alg, .slice A1 n1 k1, .slice A2 n2 k2, .slice A3 n3 k3, .slice A4 n4 k4] 28))) := (Below.refl _ _).alloc (Nat.le_refl _) _
  clear hsm h htab
  generalize hsb : decide (polC d p ≤ 3000) = sb at *
  clear hsb
  cases sb
  · go_enter Tryz.func4, Tryz.ntmps4
    go_wp2_with fail
    go_at_call 7
    refine (HS.out _ D0.out).mono ?_
    rintro e u1 ⟨rfl, hb⟩
    have G1 := Lib.hid (below_step D0.out hb)
    have X1 := Lib.hid (XA.out.below hb XA.out.lt)
    clear hb
    go_wp2_with fail
    go_at_call 8
    refine (HR.out _ (HTB.out _ G1.out)).mono ?_
    rintro xr wr ⟨rfl, hb⟩
    have BR := Lib.hid (below_step G1.out hb)
    clear hb
    go_wp2_with fail
    go_ret
    exact ⟨rfl, BR.out⟩
  by_cases e0 : rightE p = 0
  · have CR := Lib.hid (call_right e0 H.out)
    have hok := H.out.oks 4
    obtain ⟨x, hx, hx1, hx2, hx3⟩ := text_of e0 hok
    have HX := Lib.hid hx
    clear e0 hok hx
    have hpos : (0 : Int) < (x.size : Int) := by omega
    go_enter Tryz.func4, Tryz.ntmps4
    go_wp2_with fail
    go_at_call 7
    refine (HS.out _ D0.out).mono ?_
    rintro e u1 ⟨rfl, hb⟩
    have G1 := Lib.hid (below_step D0.out hb)
    have X1 := Lib.hid (XA.out.below hb XA.out.lt)
    clear hb
    have c0 := X1.out.cell 0
    have c1 := X1.out.cell 1
    have c2 := X1.out.cell 2
    have c3 := X1.out.cell 3
    have c4 := X1.out.cell 4
    have c5 := X1.out.cell 5
    have c6 := X1.out.cell 6
    go_wp2_with fail
    go_at_call 19
    refine (CR.out _ G1.out).mono ?_
    rintro e u2 ⟨rfl, hb⟩
    have G2 := Lib.hid (below_step G1.out hb)
    have X2 := Lib.hid (X1.out.below hb X1.out.lt)
    clear c0 c1 c2 c3 c4 c5 c6 hb
    have c0 := X2.out.cell 0
    have c1 := X2.out.cell 1
    have c2 := X2.out.cell 2
    have c3 := X2.out.cell 3
    have c4 := X2.out.cell 4
    have c5 := X2.out.cell 5
    have c6 := X2.out.cell 6
    have HSH := Lib.hid (show_pol (H.out.then_ G2.out) (HTB.out _ G2.out))
    rw [← HX.out] at HSH
    go_wp2_with fail
    go_at_call 14
    refine HSH.out.mono ?_
    rintro e u3 ⟨rfl, hb⟩
    have G3 := Lib.hid (below_step G2.out hb)
    have X3 := Lib.hid (X2.out.below hb X2.out.lt)
    clear c0 c1 c2 c3 c4 c5 c6 hb
    rcases hx3 with ⟨hbig, hpr⟩ | ⟨hbig, hpr⟩
    · have hb4 : (4096 : Int) < (x.size : Int) := by omega
      have HC2 := Lib.hid (fun w => parse_in (w := w) hpr (by unfold maxLen; omega))
      clear hpr hbig
      go_wp2_with fail
      go_at_call 20
      refine (HC2.out _).mono ?_
      rintro e u4 ⟨B1, m1, l1, B2, m2, l2, B3, m3, l3, B4, m4, l4, rfl, hb3, hp3⟩
      have G4 := Lib.hid (below_step G3.out hb3)
      have hba : Below u4.heap.size u4 (u4.alloc (.cells #[.string noPol.id, .bool noPol.set, .int .i64 noPol.alg, .slice B1 m1 l1, .slice B2 m2 l2, .slice B3 m3 l3, .slice B4 m4 l4] 28)) := al9' _ _
      have G4a := Lib.hid (below_step G4.out hba)
      clear hb3 hp3 hba
      go_wp2_with fail
      go_at_call 8
      refine (HR.out _ (HTB.out _ G4a.out)).mono ?_
      rintro xr wr ⟨rfl, hb⟩
      have BR := Lib.hid (below_step G4a.out hb)
      clear hb
      go_wp2_with fail
      go_ret
      exact ⟨rfl, BR.out⟩
    · have hb4 : ¬ (4096 : Int) < (x.size : Int) := by omega
      have HC2 := Lib.hid (fun w => parse_in (w := w) hpr (by unfold maxLen; omega))
      clear hpr hbig
      go_wp2_with fail
      go_at_call 20
      refine (HC2.out _).mono ?_
      rintro e u4 ⟨B1, m1, l1, B2, m2, l2, B3, m3, l3, B4, m4, l4, rfl, hb3, hp3⟩
      have G4 := Lib.hid (below_step G3.out hb3)
      have hba : Below u4.heap.size u4 (u4.alloc (.cells #[.string p.id, .bool p.set, .int .i64 p.alg, .slice B1 m1 l1, .slice B2 m2 l2, .slice B3 m3 l3, .slice B4 m4 l4] 28)) := al9' _ _
      have G4a := Lib.hid (below_step G4.out hba)
      have h32 := below_step hb3 hba
      have PJ2 := Lib.hid (hp3.then_ hba)
      have X4 := Lib.hid (X3.out.below h32 X3.out.lt)
      have HSM := Lib.hid (same_pol (H.out.then_ G4a.out) PJ2.out)
      clear hb3 hp3 hba h32
      have c0 := X4.out.cell 0
      have c1 := X4.out.cell 1
      have c2 := X4.out.cell 2
      have c3 := X4.out.cell 3
      have c4 := X4.out.cell 4
      have c5 := X4.out.cell 5
      have c6 := X4.out.cell 6
      go_wp2_with fail
      go_at_call 18
      refine HSM.out.mono ?_
      rintro e u5 ⟨rfl, hb⟩
      have G5 := Lib.hid (below_step G4a.out hb)
      clear c0 c1 c2 c3 c4 c5 c6 hb
      go_wp2_with fail
      go_at_call 8
      refine (HR.out _ (HTB.out _ G5.out)).mono ?_
      rintro xr wr ⟨rfl, hb⟩
      have BR := Lib.hid (below_step G5.out hb)
      clear hb
      go_wp2_with fail
      go_ret
      exact ⟨rfl, BR.out⟩
  · obtain ⟨r, hr⟩ : ∃ r, r = rightE p := ⟨_, rfl⟩
    have CR := Lib.hid (call_right hr.symm H.out)
    rw [← hr] at e0
    have hne : (r != 0) = true := by simpa using e0
    clear e0 hr
    go_enter Tryz.func4, Tryz.ntmps4
    go_wp2_with fail
    go_at_call 7
    refine (HS.out _ D0.out).mono ?_
    rintro e u1 ⟨rfl, hb⟩
    have G1 := Lib.hid (below_step D0.out hb)
    have X1 := Lib.hid (XA.out.below hb XA.out.lt)
    clear hb
    have c0 := X1.out.cell 0
    have c1 := X1.out.cell 1
    have c2 := X1.out.cell 2
    have c3 := X1.out.cell 3
    have c4 := X1.out.cell 4
    have c5 := X1.out.cell 5
    have c6 := X1.out.cell 6
    go_wp2_with fail
    go_at_call 19
    refine (CR.out _ G1.out).mono ?_
    rintro e u2 ⟨rfl, hb⟩
    have G2 := Lib.hid (below_step G1.out hb)
    have X2 := Lib.hid (X1.out.below hb X1.out.lt)
    clear c0 c1 c2 c3 c4 c5 c6 hb
    go_wp2_with fail
    go_at_call 8
    refine (HR.out _ (HTB.out _ G2.out)).mono ?_
    rintro xr wr ⟨rfl, hb⟩
    have BR := Lib.hid (below_step G2.out hb)
    clear hb
    go_wp2_with fail
    go_ret
    exact ⟨rfl, BR.out⟩
end Go.Proofs.YtdbnaaddocahpaaGreatDoor
