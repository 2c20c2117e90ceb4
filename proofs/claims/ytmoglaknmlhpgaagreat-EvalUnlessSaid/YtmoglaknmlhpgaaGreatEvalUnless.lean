/- The law EvalUnless. -/
import Derived.Test.YtmoglaknmlhpgaaGreatEvalSet
namespace Go.Proofs.YtmoglaknmlhpgaaGreat
set_option linter.unusedVariables false
open Go.RowKit
attribute [local go_sem] eq0 feq2 eq4 fgt0 gt2 ord_eq ord_gt ord_lt ev_store

def unl (k : Int) (p : Pol) : Pol := .mk p.id p.set k [] p.rules p.kids p.ob

set_option maxRecDepth 100000 in
set_option maxHeartbeats 12800000 in
theorem evalUnless_walk (W : World) (p : Pol) {A1 : Option Addr} {n1 k1 : Nat} {A2 : Option Addr} {n2 k2 : Nat} {A3 : Option Addr} {n3 k3 : Nat} {A4 : Option Addr} {n4 k4 : Nat} (h : PolIn W (fun _ => True) p A1 n1 k1 A2 n2 k2 A3 n3 k3 A4 n4 k4)
    (A5 : Option Addr) (n5 k5 : Nat) (h5 : ∃ l, Gvs W (fun _ => True) A5 n5 k5 l) (pm : Bool) :
    Calls Tryz.prog 9 #[.agg #[.string p.id, .bool p.set, .int .i64 p.alg, .slice A1 n1 k1, .slice A2 n2 k2, .slice A3 n3 k3, .slice A4 n4 k4], .slice A5 n5 k5, .bool pm] W fun e w' => e = .returned (.bool true) ∧ Below W.heap.size W w' := by
  obtain ⟨ask, hg⟩ := h5
  obtain ⟨m, hpl, hsm⟩ := evsmall h
  have SM := Lib.hid hsm
  have FE := Lib.hid (fun (b : Bool) (hb : decide (fewC ask ≤ 1200) = b) => evfew (w := W) hg hb)
  have OP := Lib.hid (Ob.made W 28 #[.string p.id, .bool p.set, .int .i64 p.alg, .slice A1 n1 k1, .slice A2 n2 k2, .slice A3 n3 k3, .slice A4 n4 k4])
  have BW := Lib.hid ((Below.refl W.heap.size W).alloc (Nat.le_refl _) (.cells #[.string p.id, .bool p.set, .int .i64 p.alg, .slice A1 n1 k1, .slice A2 n2 k2, .slice A3 n3 k3, .slice A4 n4 k4] 28))
  clear hsm
  by_cases c1 : polC (m + 1) p ≤ 3000
  rotate_left
  · have hd : decide (polC (m + 1) p ≤ 3000) = false := decide_eq_false c1
    rw [hd] at SM
    clear hd c1 FE h hg hpl
    go_enter Tryz.func9, Tryz.ntmps9
    have cOP := OP.out.c7e
    go_wp2_with fail
    refine (SM.out _ BW.out).mono ?_
    rintro e w1 ⟨rfl, hb⟩
    clear cOP
    have BW := Lib.hid (below_step BW.out hb)
    have OP := Lib.hid (OP.out.below hb OP.out.lt)
    clear hb
    go_wp2_with fail
    refine (evruns_any _).mono ?_
    rintro e w2 ⟨rfl, hb⟩
    have BW := Lib.hid (below_step BW.out hb)
    have OP := Lib.hid (OP.out.below hb OP.out.lt)
    clear hb
    go_wp2_with fail
    go_ret
    exact ⟨rfl, BW.out⟩
  have hd : decide (polC (m + 1) p ≤ 3000) = true := decide_eq_true c1
  rw [hd] at SM
  clear hd
  by_cases c2 : fewC ask ≤ 1200
  rotate_left
  · have hf : decide (fewC ask ≤ 1200) = false := decide_eq_false c2
    have HF := Lib.hid (FE.out _ hf)
    clear hf c1 c2 FE h hg hpl
    go_enter Tryz.func9, Tryz.ntmps9
    have cOP := OP.out.c7e
    go_wp2_with fail
    refine (SM.out _ BW.out).mono ?_
    rintro e w1 ⟨rfl, hb⟩
    clear cOP
    have BW := Lib.hid (below_step BW.out hb)
    have OP := Lib.hid (OP.out.below hb OP.out.lt)
    clear hb
    go_wp2_with fail
    refine (HF.out _ BW.out).mono ?_
    rintro e w2 ⟨rfl, hb⟩
    have BW := Lib.hid (below_step BW.out hb)
    have OP := Lib.hid (OP.out.below hb OP.out.lt)
    clear hb
    go_wp2_with fail
    refine (evruns_any _).mono ?_
    rintro e w3 ⟨rfl, hb⟩
    have BW := Lib.hid (below_step BW.out hb)
    have OP := Lib.hid (OP.out.below hb OP.out.lt)
    clear hb
    go_wp2_with fail
    go_ret
    exact ⟨rfl, BW.out⟩
  have ht : decide (fewC ask ≤ 1200) = true := decide_eq_true c2
  have HF := Lib.hid (FE.out _ ht)
  clear ht FE
  have HG := Lib.hid (few_short c2)
  have CP := Lib.hid (evcopy h c1 hpl)
  have HA := Lib.hid hg
  clear c1 c2 h hg hpl
  cases pm
  · have HSU := Lib.hid (fun V (hv : Below W.heap.size W V) => dec_unless ask (p := unl 5 p) (.inl rfl) rfl)
    go_enter Tryz.func9, Tryz.ntmps9
    have cOP := OP.out.c7e
    go_wp2_with fail
    refine (SM.out _ BW.out).mono ?_
    rintro e w1 ⟨rfl, hb⟩
    clear cOP
    have BW := Lib.hid (below_step BW.out hb)
    have OP := Lib.hid (OP.out.below hb OP.out.lt)
    clear hb
    go_wp2_with fail
    refine (HF.out _ BW.out).mono ?_
    rintro e w2 ⟨rfl, hb⟩
    have BW := Lib.hid (below_step BW.out hb)
    have OP := Lib.hid (OP.out.below hb OP.out.lt)
    have HW2 := Lib.hid OP.out.lt
    clear hb
    have cOP := OP.out.c7e
    go_wp2_with fail
    refine (CP.out _ BW.out).mono ?_
    rintro e w3 ⟨B1, d1, B2, d2, B3, d3, B4, d4, rfl, hb, hq0⟩
    clear cOP
    have BW := Lib.hid (below_step BW.out hb)
    have OP := Lib.hid (OP.out.below hb OP.out.lt)
    have hq := hq0
    clear hq0
    clear hb
    have hq2 := hq.keep (R' := fun b => b ≠ W.heap.size) (Kept.refl _ _) (fun b hb _ => by have h1 : w2.heap.size ≤ b := hb; have h2 := HW2.out; omega)
    have P7 := put7_ob OP.out (.string p.id) (.bool p.set) (.int .i64 p.alg) (.slice B1 n1 d1) (.slice B2 n2 d2) (.slice B3 n3 d3) (.slice B4 n4 d4)
    have PO := put7_only (V := w3) (P := W.heap.size) (.string p.id) (.bool p.set) (.int .i64 p.alg) (.slice B1 n1 d1) (.slice B2 n2 d2) (.slice B3 n3 d3) (.slice B4 n4 d4)
    have DW := BW.out.trans (PO.below BW.out.size (Nat.le_refl _))
    have hq3 := hq2.keep (PO.kept9 (fun b hb => hb)) (fun _ h _ => h)
    obtain ⟨W7, hW7⟩ : ∃ x, x = (put7W w3 W.heap.size (.string p.id) (.bool p.set) (.int .i64 p.alg) (.slice B1 n1 d1) (.slice B2 n2 d2) (.slice B3 n3 d3) (.slice B4 n4 d4)) := ⟨_, rfl⟩
    rw [← hW7] at P7 DW hq3
    simp only [put7W, put1W, put2W, put3W, put4W, put5W, put6W] at hW7
    have z0 := OP.out.cell 0
    have f0 := OP.out.frozen 0
    have z1 := OP.out.cell 1
    have f1 := OP.out.frozen 1
    have z2 := OP.out.cell 2
    have f2 := OP.out.frozen 2
    have z3 := OP.out.cell 3
    have f3 := OP.out.frozen 3
    have z4 := OP.out.cell 4
    have f4 := OP.out.frozen 4
    have z5 := OP.out.cell 5
    have f5 := OP.out.frozen 5
    have z6 := OP.out.cell 6
    have f6 := OP.out.frozen 6
    have P7' := Lib.hid P7
    have BW := Lib.hid DW
    have HQ7 := Lib.hid hq3
    clear hq hq2 hq3 P7 PO DW OP
    go_upto_region 4 with fail
    rw [← hW7]
    clear hW7 z0 f0 z1 f1 z2 f2 z3 f3 z4 f4 z5 f5 z6 f6
    have OQ : Ob ((W7.setCell ⟨W.heap.size, 3, none⟩ (.slice none 0 0)).setCell ⟨W.heap.size, 2, none⟩ (.int .i64 5)) W.heap.size 28 #[.string p.id, .bool p.set, .int .i64 5, .slice none 0 0, .slice B2 n2 d2, .slice B3 n3 d3, .slice B4 n4 d4] := ((P7'.out.put 3 (.slice none 0 0)).put 2 (.int .i64 5))
    have PO2 : Only W.heap.size W7 ((W7.setCell ⟨W.heap.size, 3, none⟩ (.slice none 0 0)).setCell ⟨W.heap.size, 2, none⟩ (.int .i64 5)) := ((Only.refl.setCell (p := ⟨W.heap.size, 3, none⟩) rfl (.slice none 0 0)).setCell (p := ⟨W.heap.size, 2, none⟩) rfl (.int .i64 5))
    have DW := BW.out.trans (PO2.below BW.out.size (Nat.le_refl _))
    have hq3 := HQ7.out.keep (R' := fun _ => True) (PO2.kept9 (fun b hb => hb)) (fun _ _ _ => trivial)
    have hq4 : PolIn ((W7.setCell ⟨W.heap.size, 3, none⟩ (.slice none 0 0)).setCell ⟨W.heap.size, 2, none⟩ (.int .i64 5)) (fun _ => True) (unl 5 p) none 0 0 B2 n2 d2 B3 n3 d3 B4 n4 d4 := ⟨⟨hq3.1.1, (by decide : InI 5)⟩, Rw.nil_ _ _ _ _, hq3.2.2.1, hq3.2.2.2.1, hq3.2.2.2.2⟩
    have z2 := P7'.out.cell 2
    have z3 := P7'.out.cell 3
    have f2 := P7'.out.frozen 2
    have f3 := P7'.out.frozen 3
    obtain ⟨W9, hW9⟩ : ∃ x, x = ((W7.setCell ⟨W.heap.size, 3, none⟩ (.slice none 0 0)).setCell ⟨W.heap.size, 2, none⟩ (.int .i64 5)) := ⟨_, rfl⟩
    rw [← hW9] at OQ DW hq4
    have OQ9 := Lib.hid OQ
    have BW := Lib.hid DW
    have HQ := Lib.hid hq4
    clear hq3 hq4 OQ PO2 DW
    go_upto_region 7 with fail
    rw [← hW9]
    clear hW9 z2 z3 f2 f3 P7'
    have q0 := OQ9.out.c7e
    obtain ⟨r, hr⟩ : ∃ r, rightE (unl 5 p) = r := ⟨_, rfl⟩
    have HR := Lib.hid (evright HQ.out hr _ (Below.refl _ _))
    by_cases c3 : r = 0
    rotate_left
    · have hrb : (r != 0) = true := by rw [bne_iff_ne]; exact c3
      clear hr c3
      go_wp2_with fail
      refine (HR.out).mono ?_
      rintro e w4 ⟨rfl, hb⟩
      have BW := Lib.hid (below_step BW.out hb)
      clear hb
      go_wp2_with fail
      refine (evruns_any _).mono ?_
      rintro e w5 ⟨rfl, hb⟩
      have BW := Lib.hid (below_step BW.out hb)
      clear hb
      go_wp2_with fail
      go_ret
      exact ⟨rfl, BW.out⟩
    subst c3
    obtain ⟨⟨⟨vp, vd⟩, vob⟩, hv⟩ : ∃ v, evV ask (unl 5 p) = v := ⟨_, rfl⟩
    have HS := dec_unless ask (p := unl 5 p) (.inl rfl) rfl
    rw [hv] at HS
    have ED := Lib.hid (fun V (hV : Below W.heap.size W V) (hq : PolIn V (fun _ => True) (unl 5 p) none 0 0 B2 n2 d2 B3 n3 d3 B4 n4 d4) => evdec hq hr (HA.out.keep (Kept.all hV _) (fun _ h _ => h)) HG.out hv)
    have HSV : Hid (SureM (vp, vd)) := HS
    clear hv HS hr
    go_wp2_with fail
    refine (HR.out).mono ?_
    rintro e w4 ⟨rfl, hb⟩
    have BW := Lib.hid (below_step BW.out hb)
    have OQ9 := Lib.hid (OQ9.out.below hb OQ9.out.lt)
    have HQ := Lib.hid (HQ.out.then_ hb)
    clear q0
    clear hb
    have q0 := OQ9.out.c7e
    go_wp2_with fail
    refine (ED.out _ BW.out HQ.out _ (Below.refl _ _)).mono ?_
    rintro e w5 ⟨E1, e2, e3, rfl, hb, hd⟩
    have al : Below w5.heap.size w5 (w5.alloc (.cells #[.complex .f64 (fl vp) (fl vd), .slice E1 e2 e3] 33)) := ((Below.refl _ _).alloc (Nat.le_refl _) _)
    have hb2 := below_step hb al
    have BW := Lib.hid (below_step BW.out hb2)
    have OQ9 := Lib.hid (OQ9.out.below hb2 OQ9.out.lt)
    have HQ := Lib.hid (HQ.out.then_ hb2)
    have OA := Lib.hid (Ob.made w5 33 #[.complex .f64 (fl vp) (fl vd), .slice E1 e2 e3])
    clear hd q0
    clear hb hb2 al
    have cOA := OA.out.c2e
    rcases HSV.out with hs | hs
    · obtain ⟨rfl, rfl⟩ := Prod.mk.inj hs
      go_wp2_with fail
      refine (evruns_any _).mono ?_
      rintro e w7 ⟨rfl, hb⟩
      have BW := Lib.hid (below_step BW.out hb)
      clear hb
      go_wp2_with fail
      go_ret
      exact ⟨rfl, BW.out⟩
    · obtain ⟨rfl, rfl⟩ := Prod.mk.inj hs
      go_wp2_with fail
      refine (evruns_any _).mono ?_
      rintro e w7 ⟨rfl, hb⟩
      have BW := Lib.hid (below_step BW.out hb)
      clear hb
      go_wp2_with fail
      go_ret
      exact ⟨rfl, BW.out⟩
  · have HSU := Lib.hid (fun V (hv : Below W.heap.size W V) => dec_unless ask (p := unl 6 p) (.inr rfl) rfl)
    go_enter Tryz.func9, Tryz.ntmps9
    have cOP := OP.out.c7e
    go_wp2_with fail
    refine (SM.out _ BW.out).mono ?_
    rintro e w1 ⟨rfl, hb⟩
    clear cOP
    have BW := Lib.hid (below_step BW.out hb)
    have OP := Lib.hid (OP.out.below hb OP.out.lt)
    clear hb
    go_wp2_with fail
    refine (HF.out _ BW.out).mono ?_
    rintro e w2 ⟨rfl, hb⟩
    have BW := Lib.hid (below_step BW.out hb)
    have OP := Lib.hid (OP.out.below hb OP.out.lt)
    have HW2 := Lib.hid OP.out.lt
    clear hb
    have cOP := OP.out.c7e
    go_wp2_with fail
    refine (CP.out _ BW.out).mono ?_
    rintro e w3 ⟨B1, d1, B2, d2, B3, d3, B4, d4, rfl, hb, hq0⟩
    clear cOP
    have BW := Lib.hid (below_step BW.out hb)
    have OP := Lib.hid (OP.out.below hb OP.out.lt)
    have hq := hq0
    clear hq0
    clear hb
    have hq2 := hq.keep (R' := fun b => b ≠ W.heap.size) (Kept.refl _ _) (fun b hb _ => by have h1 : w2.heap.size ≤ b := hb; have h2 := HW2.out; omega)
    have P7 := put7_ob OP.out (.string p.id) (.bool p.set) (.int .i64 p.alg) (.slice B1 n1 d1) (.slice B2 n2 d2) (.slice B3 n3 d3) (.slice B4 n4 d4)
    have PO := put7_only (V := w3) (P := W.heap.size) (.string p.id) (.bool p.set) (.int .i64 p.alg) (.slice B1 n1 d1) (.slice B2 n2 d2) (.slice B3 n3 d3) (.slice B4 n4 d4)
    have DW := BW.out.trans (PO.below BW.out.size (Nat.le_refl _))
    have hq3 := hq2.keep (PO.kept9 (fun b hb => hb)) (fun _ h _ => h)
    obtain ⟨W7, hW7⟩ : ∃ x, x = (put7W w3 W.heap.size (.string p.id) (.bool p.set) (.int .i64 p.alg) (.slice B1 n1 d1) (.slice B2 n2 d2) (.slice B3 n3 d3) (.slice B4 n4 d4)) := ⟨_, rfl⟩
    rw [← hW7] at P7 DW hq3
    simp only [put7W, put1W, put2W, put3W, put4W, put5W, put6W] at hW7
    have z0 := OP.out.cell 0
    have f0 := OP.out.frozen 0
    have z1 := OP.out.cell 1
    have f1 := OP.out.frozen 1
    have z2 := OP.out.cell 2
    have f2 := OP.out.frozen 2
    have z3 := OP.out.cell 3
    have f3 := OP.out.frozen 3
    have z4 := OP.out.cell 4
    have f4 := OP.out.frozen 4
    have z5 := OP.out.cell 5
    have f5 := OP.out.frozen 5
    have z6 := OP.out.cell 6
    have f6 := OP.out.frozen 6
    have P7' := Lib.hid P7
    have BW := Lib.hid DW
    have HQ7 := Lib.hid hq3
    clear hq hq2 hq3 P7 PO DW OP
    go_upto_region 4 with fail
    rw [← hW7]
    clear hW7 z0 f0 z1 f1 z2 f2 z3 f3 z4 f4 z5 f5 z6 f6
    have OQ : Ob (((W7.setCell ⟨W.heap.size, 3, none⟩ (.slice none 0 0)).setCell ⟨W.heap.size, 2, none⟩ (.int .i64 5)).setCell ⟨W.heap.size, 2, none⟩ (.int .i64 6)) W.heap.size 28 #[.string p.id, .bool p.set, .int .i64 6, .slice none 0 0, .slice B2 n2 d2, .slice B3 n3 d3, .slice B4 n4 d4] := (((P7'.out.put 3 (.slice none 0 0)).put 2 (.int .i64 5)).put 2 (.int .i64 6))
    have PO2 : Only W.heap.size W7 (((W7.setCell ⟨W.heap.size, 3, none⟩ (.slice none 0 0)).setCell ⟨W.heap.size, 2, none⟩ (.int .i64 5)).setCell ⟨W.heap.size, 2, none⟩ (.int .i64 6)) := (((Only.refl.setCell (p := ⟨W.heap.size, 3, none⟩) rfl (.slice none 0 0)).setCell (p := ⟨W.heap.size, 2, none⟩) rfl (.int .i64 5)).setCell (p := ⟨W.heap.size, 2, none⟩) rfl (.int .i64 6))
    have DW := BW.out.trans (PO2.below BW.out.size (Nat.le_refl _))
    have hq3 := HQ7.out.keep (R' := fun _ => True) (PO2.kept9 (fun b hb => hb)) (fun _ _ _ => trivial)
    have hq4 : PolIn (((W7.setCell ⟨W.heap.size, 3, none⟩ (.slice none 0 0)).setCell ⟨W.heap.size, 2, none⟩ (.int .i64 5)).setCell ⟨W.heap.size, 2, none⟩ (.int .i64 6)) (fun _ => True) (unl 6 p) none 0 0 B2 n2 d2 B3 n3 d3 B4 n4 d4 := ⟨⟨hq3.1.1, (by decide : InI 6)⟩, Rw.nil_ _ _ _ _, hq3.2.2.1, hq3.2.2.2.1, hq3.2.2.2.2⟩
    have z2 := P7'.out.cell 2
    have z3 := P7'.out.cell 3
    have f2 := P7'.out.frozen 2
    have f3 := P7'.out.frozen 3
    obtain ⟨W9, hW9⟩ : ∃ x, x = (((W7.setCell ⟨W.heap.size, 3, none⟩ (.slice none 0 0)).setCell ⟨W.heap.size, 2, none⟩ (.int .i64 5)).setCell ⟨W.heap.size, 2, none⟩ (.int .i64 6)) := ⟨_, rfl⟩
    rw [← hW9] at OQ DW hq4
    have OQ9 := Lib.hid OQ
    have BW := Lib.hid DW
    have HQ := Lib.hid hq4
    clear hq3 hq4 OQ PO2 DW
    go_upto_region 7 with fail
    rw [← hW9]
    clear hW9 z2 z3 f2 f3 P7'
    have q0 := OQ9.out.c7e
    obtain ⟨r, hr⟩ : ∃ r, rightE (unl 6 p) = r := ⟨_, rfl⟩
    have HR := Lib.hid (evright HQ.out hr _ (Below.refl _ _))
    by_cases c3 : r = 0
    rotate_left
    · have hrb : (r != 0) = true := by rw [bne_iff_ne]; exact c3
      clear hr c3
      go_wp2_with fail
      refine (HR.out).mono ?_
      rintro e w4 ⟨rfl, hb⟩
      have BW := Lib.hid (below_step BW.out hb)
      clear hb
      go_wp2_with fail
      refine (evruns_any _).mono ?_
      rintro e w5 ⟨rfl, hb⟩
      have BW := Lib.hid (below_step BW.out hb)
      clear hb
      go_wp2_with fail
      go_ret
      exact ⟨rfl, BW.out⟩
    subst c3
    obtain ⟨⟨⟨vp, vd⟩, vob⟩, hv⟩ : ∃ v, evV ask (unl 6 p) = v := ⟨_, rfl⟩
    have HS := dec_unless ask (p := unl 6 p) (.inr rfl) rfl
    rw [hv] at HS
    have ED := Lib.hid (fun V (hV : Below W.heap.size W V) (hq : PolIn V (fun _ => True) (unl 6 p) none 0 0 B2 n2 d2 B3 n3 d3 B4 n4 d4) => evdec hq hr (HA.out.keep (Kept.all hV _) (fun _ h _ => h)) HG.out hv)
    have HSV : Hid (SureM (vp, vd)) := HS
    clear hv HS hr
    go_wp2_with fail
    refine (HR.out).mono ?_
    rintro e w4 ⟨rfl, hb⟩
    have BW := Lib.hid (below_step BW.out hb)
    have OQ9 := Lib.hid (OQ9.out.below hb OQ9.out.lt)
    have HQ := Lib.hid (HQ.out.then_ hb)
    clear q0
    clear hb
    have q0 := OQ9.out.c7e
    go_wp2_with fail
    refine (ED.out _ BW.out HQ.out _ (Below.refl _ _)).mono ?_
    rintro e w5 ⟨E1, e2, e3, rfl, hb, hd⟩
    have al : Below w5.heap.size w5 (w5.alloc (.cells #[.complex .f64 (fl vp) (fl vd), .slice E1 e2 e3] 33)) := ((Below.refl _ _).alloc (Nat.le_refl _) _)
    have hb2 := below_step hb al
    have BW := Lib.hid (below_step BW.out hb2)
    have OQ9 := Lib.hid (OQ9.out.below hb2 OQ9.out.lt)
    have HQ := Lib.hid (HQ.out.then_ hb2)
    have OA := Lib.hid (Ob.made w5 33 #[.complex .f64 (fl vp) (fl vd), .slice E1 e2 e3])
    clear hd q0
    clear hb hb2 al
    have cOA := OA.out.c2e
    rcases HSV.out with hs | hs
    · obtain ⟨rfl, rfl⟩ := Prod.mk.inj hs
      go_wp2_with fail
      refine (evruns_any _).mono ?_
      rintro e w7 ⟨rfl, hb⟩
      have BW := Lib.hid (below_step BW.out hb)
      clear hb
      go_wp2_with fail
      go_ret
      exact ⟨rfl, BW.out⟩
    · obtain ⟨rfl, rfl⟩ := Prod.mk.inj hs
      go_wp2_with fail
      refine (evruns_any _).mono ?_
      rintro e w7 ⟨rfl, hb⟩
      have BW := Lib.hid (below_step BW.out hb)
      clear hb
      go_wp2_with fail
      go_ret
      exact ⟨rfl, BW.out⟩
end Go.Proofs.YtmoglaknmlhpgaaGreat

