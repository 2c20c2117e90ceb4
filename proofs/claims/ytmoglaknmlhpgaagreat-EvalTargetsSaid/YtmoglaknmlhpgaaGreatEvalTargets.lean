/- The law EvalTargets. -/
import Derived.Test.YtmoglaknmlhpgaaGreatEvalSet
namespace Go.Proofs.YtmoglaknmlhpgaaGreat
set_option linter.unusedVariables false
open Go.RowKit
attribute [local go_sem] eq0 feq2 eq4 fgt0 gt2 ord_eq ord_gt ord_lt ev_store

set_option maxRecDepth 100000 in
set_option maxHeartbeats 12800000 in
theorem evalTargets_walk (W : World) (p : Pol) {A1 : Option Addr} {n1 k1 : Nat} {A2 : Option Addr} {n2 k2 : Nat} {A3 : Option Addr} {n3 k3 : Nat} {A4 : Option Addr} {n4 k4 : Nat} (h : PolIn W (fun _ => True) p A1 n1 k1 A2 n2 k2 A3 n3 k3 A4 n4 k4)
    (A5 : Option Addr) (n5 k5 : Nat) (h5 : ∃ l, Gvs W (fun _ => True) A5 n5 k5 l) :
    Calls Tryz.prog 8 #[.agg #[.string p.id, .bool p.set, .int .i64 p.alg, .slice A1 n1 k1, .slice A2 n2 k2, .slice A3 n3 k3, .slice A4 n4 k4], .slice A5 n5 k5] W fun e w' => e = .returned (.bool true) ∧ Below W.heap.size W w' := by
  obtain ⟨ask, hg⟩ := h5
  obtain ⟨m, hpl, hsm⟩ := evsmall h
  have SM := Lib.hid hsm
  have FE := Lib.hid (fun (b : Bool) (hb : decide (fewC ask ≤ 1200) = b) => evfew (w := W) hg hb)
  have RI := Lib.hid (fun (r : Int) (hr : rightE p = r) => evright h hr)
  have OP := Lib.hid (Ob.made W 28 #[.string p.id, .bool p.set, .int .i64 p.alg, .slice A1 n1 k1, .slice A2 n2 k2, .slice A3 n3 k3, .slice A4 n4 k4])
  have BW := Lib.hid ((Below.refl W.heap.size W).alloc (Nat.le_refl _) (.cells #[.string p.id, .bool p.set, .int .i64 p.alg, .slice A1 n1 k1, .slice A2 n2 k2, .slice A3 n3 k3, .slice A4 n4 k4] 28))
  clear hsm
  by_cases c1 : polC (m + 1) p ≤ 3000
  rotate_left
  · have hd : decide (polC (m + 1) p ≤ 3000) = false := decide_eq_false c1
    rw [hd] at SM
    clear hd c1 FE RI h hg hpl
    go_enter Tryz.func8, Tryz.ntmps8
    have cOP := OP.out.c7e
    go_wp2_with fail
    refine (SM.out _ BW.out).mono ?_
    rintro e w1 ⟨rfl, hb⟩
    clear cOP
    have BW := Lib.hid (below_step BW.out hb)
    have OP := Lib.hid (OP.out.below hb OP.out.lt)
    clear hb
    go_wp2_with fail
    refine (evruns_any _).mono ?_
    rintro e w2 ⟨rfl, hb⟩
    have BW := Lib.hid (below_step BW.out hb)
    have OP := Lib.hid (OP.out.below hb OP.out.lt)
    clear hb
    go_wp2_with fail
    go_ret
    exact ⟨rfl, BW.out⟩
  have hd : decide (polC (m + 1) p ≤ 3000) = true := decide_eq_true c1
  rw [hd] at SM
  clear hd
  by_cases c2 : fewC ask ≤ 1200
  rotate_left
  · have hf : decide (fewC ask ≤ 1200) = false := decide_eq_false c2
    have HF := Lib.hid (FE.out _ hf)
    clear hf c1 c2 FE RI h hg hpl
    go_enter Tryz.func8, Tryz.ntmps8
    have cOP := OP.out.c7e
    go_wp2_with fail
    refine (SM.out _ BW.out).mono ?_
    rintro e w1 ⟨rfl, hb⟩
    clear cOP
    have BW := Lib.hid (below_step BW.out hb)
    have OP := Lib.hid (OP.out.below hb OP.out.lt)
    clear hb
    go_wp2_with fail
    refine (HF.out _ BW.out).mono ?_
    rintro e w2 ⟨rfl, hb⟩
    have BW := Lib.hid (below_step BW.out hb)
    have OP := Lib.hid (OP.out.below hb OP.out.lt)
    clear hb
    go_wp2_with fail
    refine (evruns_any _).mono ?_
    rintro e w3 ⟨rfl, hb⟩
    have BW := Lib.hid (below_step BW.out hb)
    have OP := Lib.hid (OP.out.below hb OP.out.lt)
    clear hb
    go_wp2_with fail
    go_ret
    exact ⟨rfl, BW.out⟩
  have ht : decide (fewC ask ≤ 1200) = true := decide_eq_true c2
  have HF := Lib.hid (FE.out _ ht)
  clear ht FE
  by_cases c3 : rightE p = 0
  rotate_left
  · have HR := Lib.hid (RI.out _ rfl)
    have hr : (rightE p != 0) = true := by rw [bne_iff_ne]; exact c3
    generalize rightE p = r at *
    clear c1 c2 c3 RI h hg hpl
    go_enter Tryz.func8, Tryz.ntmps8
    have cOP := OP.out.c7e
    go_wp2_with fail
    refine (SM.out _ BW.out).mono ?_
    rintro e w1 ⟨rfl, hb⟩
    clear cOP
    have BW := Lib.hid (below_step BW.out hb)
    have OP := Lib.hid (OP.out.below hb OP.out.lt)
    clear hb
    go_wp2_with fail
    refine (HF.out _ BW.out).mono ?_
    rintro e w2 ⟨rfl, hb⟩
    have BW := Lib.hid (below_step BW.out hb)
    have OP := Lib.hid (OP.out.below hb OP.out.lt)
    clear hb
    have cOP := OP.out.c7e
    go_wp2_with fail
    refine (HR.out _ BW.out).mono ?_
    rintro e w3 ⟨rfl, hb⟩
    clear cOP
    have BW := Lib.hid (below_step BW.out hb)
    have OP := Lib.hid (OP.out.below hb OP.out.lt)
    clear hb
    go_wp2_with fail
    refine (evruns_any _).mono ?_
    rintro e w4 ⟨rfl, hb⟩
    have BW := Lib.hid (below_step BW.out hb)
    have OP := Lib.hid (OP.out.below hb OP.out.lt)
    clear hb
    go_wp2_with fail
    go_ret
    exact ⟨rfl, BW.out⟩
  have HR := Lib.hid (RI.out _ c3)
  clear RI
  have hG := few_short c2
  have CP := Lib.hid (evcopy h c1 hpl)
  obtain ⟨⟨⟨vp, vd⟩, vob⟩, hv⟩ : ∃ v, evV ask p = v := ⟨_, rfl⟩
  obtain ⟨⟨⟨bp, bd⟩, bob⟩, hbv⟩ : ∃ v, evV ask (bare p) = v := ⟨_, rfl⟩
  have EP := Lib.hid (evdec h c3 hg hG hv)
  have EB := Lib.hid (fun V (hV : Below W.heap.size W V) (R : Nat → Prop) (B2 B3 B4 : Option Addr) (d2 d3 d4 : Nat) (hq : PolIn V R (bare p) none 0 0 B2 n2 d2 B3 n3 d3 B4 n4 d4) => evdec hq (right_bare c3) (hg.keep (Kept.all hV _) (fun _ h _ => h)) hG hbv)
  have TM := Lib.hid (fun V (hV : Below W.heap.size W V) => tgmet_any (w := V) (h.2.1.keep (Kept.all hV _) (fun _ h _ => h)) (hg.keep (Kept.all hV _) (fun _ h _ => h)) hG)
  have HE := dec_target ask p
  rw [hv, hbv] at HE
  have HEQ := Lib.hid HE
  have HT := Lib.hid (tri_met ask p.tg)
  have HB2 : Hid (∀ {V : World} {R : Nat → Prop} {B1 B2 B3 B4 : Option Addr} {d1 d2 d3 d4 : Nat}, PolIn V R p B1 n1 d1 B2 n2 d2 B3 n3 d3 B4 n4 d4 → PolIn V R (bare p) none 0 0 B2 n2 d2 B3 n3 d3 B4 n4 d4) := by
    intro V R B1 B2 B3 B4 d1 d2 d3 d4 hq
    exact ⟨hq.1, Rw.nil_ _ _ _ _, hq.2.2.1, hq.2.2.2.1, hq.2.2.2.2⟩
  generalize metI ask p.tg = t at *
  clear c1 c2 c3 hG hv hbv HE h hg hpl
  go_enter Tryz.func8, Tryz.ntmps8
  have cOP := OP.out.c7e
  go_wp2_with fail
  refine (SM.out _ BW.out).mono ?_
  rintro e w1 ⟨rfl, hb⟩
  clear cOP
  have BW := Lib.hid (below_step BW.out hb)
  have OP := Lib.hid (OP.out.below hb OP.out.lt)
  clear hb
  go_wp2_with fail
  refine (HF.out _ BW.out).mono ?_
  rintro e w2 ⟨rfl, hb⟩
  have BW := Lib.hid (below_step BW.out hb)
  have OP := Lib.hid (OP.out.below hb OP.out.lt)
  clear hb
  have cOP := OP.out.c7e
  go_wp2_with fail
  refine (HR.out _ BW.out).mono ?_
  rintro e w3 ⟨rfl, hb⟩
  clear cOP
  have BW := Lib.hid (below_step BW.out hb)
  have OP := Lib.hid (OP.out.below hb OP.out.lt)
  clear hb
  have cOP := OP.out.c7e
  go_wp2_with fail
  refine (CP.out _ BW.out).mono ?_
  rintro e w4 ⟨B1, d1, B2, d2, B3, d3, B4, d4, rfl, hb, hq⟩
  clear cOP
  have al : Below w4.heap.size w4 (w4.alloc (.cells #[.string p.id, .bool p.set, .int .i64 p.alg, .slice none 0 0, .slice B2 n2 d2, .slice B3 n3 d3, .slice B4 n4 d4] 28)) := ((Below.refl _ _).alloc (Nat.le_refl _) _)
  have hb2 := below_step hb al
  have BW := Lib.hid (below_step BW.out hb2)
  have OP := Lib.hid (OP.out.below hb2 OP.out.lt)
  have OQ := Lib.hid (Ob.made w4 28 #[.string p.id, .bool p.set, .int .i64 p.alg, .slice none 0 0, .slice B2 n2 d2, .slice B3 n3 d3, .slice B4 n4 d4])
  have HQ := Lib.hid ((HB2.out hq).then_ al)
  clear hq
  clear hb hb2 al
  have cOP := OP.out.c7e
  go_wp2_with fail
  refine (EP.out _ BW.out).mono ?_
  rintro e w5 ⟨E1, e2, e3, rfl, hb, hd⟩
  clear cOP
  have al : Below w5.heap.size w5 (w5.alloc (.cells #[.complex .f64 (fl vp) (fl vd), .slice E1 e2 e3] 33)) := ((Below.refl _ _).alloc (Nat.le_refl _) _)
  have hb2 := below_step hb al
  have BW := Lib.hid (below_step BW.out hb2)
  have OP := Lib.hid (OP.out.below hb2 OP.out.lt)
  have OQ := Lib.hid (OQ.out.below hb2 OQ.out.lt)
  have HQ := Lib.hid (HQ.out.then_ hb2)
  have OA := Lib.hid (Ob.made w5 33 #[.complex .f64 (fl vp) (fl vd), .slice E1 e2 e3])
  have DA := Lib.hid (hd.keep (R' := fun b => b < (w5.alloc (.cells #[.complex .f64 (fl vp) (fl vd), .slice E1 e2 e3] 33)).heap.size) (Kept.all al _) (fun b _ hlt => Nat.lt_of_lt_of_le hlt al.size))
  have BW5 := Lib.hid BW.out.size
  clear hd
  clear hb hb2 al
  have cOQ := OQ.out.c7e
  go_wp2_with fail
  refine (EB.out _ BW.out _ _ _ _ _ _ _ HQ.out _ (Below.refl _ _)).mono ?_
  rintro e w6 ⟨F1, f2, f3, rfl, hb, hd⟩
  clear cOQ
  have al : Below w6.heap.size w6 ((w6.alloc (.cells #[.complex .f64 (fl bp) (fl bd), .slice F1 f2 f3] 33)).alloc (.cells #[.complex .f64 0 0, .slice none 0 0] 33)) := (((Below.refl _ _).alloc (Nat.le_refl _) _).alloc (by simp only [size_al]; omega) _)
  have hb2 := below_step hb al
  have BW := Lib.hid (below_step BW.out hb2)
  have OP := Lib.hid (OP.out.below hb2 OP.out.lt)
  have OQ := Lib.hid (OQ.out.below hb2 OQ.out.lt)
  have OA := Lib.hid (OA.out.below hb2 OA.out.lt)
  have HQ := Lib.hid (HQ.out.then_ hb2)
  have DA := Lib.hid (DA.out.keep (Kept.all hb2 _) (fun _ h _ => h))
  have OB := Lib.hid (Ob.keep (w' := ((w6.alloc (.cells #[.complex .f64 (fl bp) (fl bd), .slice F1 f2 f3] 33)).alloc (.cells #[.complex .f64 0 0, .slice none 0 0] 33))) (Ob.made w6 33 #[.complex .f64 (fl bp) (fl bd), .slice F1 f2 f3]) (Below.heap_alloc _ _ _ (by rw [size_al]; omega)))
  have DB := Lib.hid (hd.keep (R' := fun b => b < w6.heap.size + 1) (Kept.all al _) (fun b _ hlt => Nat.lt_succ_of_lt hlt))
  have OZ := Lib.hid (by have h := Ob.made (w6.alloc (.cells #[.complex .f64 (fl bp) (fl bd), .slice F1 f2 f3] 33)) 33 #[.complex .f64 0 0, .slice none 0 0]; rw [size_al] at h; exact h)
  have BW6 := Lib.hid (Nat.le_trans BW5.out hb.size)
  have NA : Hid (w5.heap.size + 1 ≤ w6.heap.size) := by have h1 := hb.size; rw [size_al] at h1; exact h1
  clear hd
  clear hb hb2 al
  have cOP := OP.out.c7e
  go_wp2_with fail
  refine (TM.out _ BW.out).mono ?_
  rintro e w7 ⟨rfl, hb⟩
  clear cOP
  have BW := Lib.hid (below_step BW.out hb)
  have OP := Lib.hid (OP.out.below hb OP.out.lt)
  have OQ := Lib.hid (OQ.out.below hb OQ.out.lt)
  have OA := Lib.hid (OA.out.below hb OA.out.lt)
  have OB := Lib.hid (OB.out.below hb OB.out.lt)
  have OZ := Lib.hid (OZ.out.below hb OZ.out.lt)
  have HQ := Lib.hid (HQ.out.then_ hb)
  have DA := Lib.hid (DA.out.keep (Kept.all hb _) (fun _ h _ => h))
  have DB := Lib.hid (DB.out.keep (Kept.all hb _) (fun _ h _ => h))
  clear hb
  rcases (show t = 0 ∨ t = 1 ∨ t = 2 by have := HT.out; unfold Tri at this; omega) with rfl | rfl | rfl
  · have HX := HEQ.out
    rw [if_neg (by omega), if_neg (by omega)] at HX
    have HM : Hid ((vp, vd) = ((0, 0) : Mk)) := (Res.mk.inj HX).1
    have HO : Hid (vob = []) := (Res.mk.inj HX).2
    clear HX
    have cOA := OA.out.c2e
    have cOZ := OZ.out.c2e
    go_wp2_with fail
    refine (evsame_at (R' := fun _ => True) rfl mc_na HM.out HO.out DA.out (Rw.nil_ _ _ _ _)).mono ?_
    rintro e w8 ⟨rfl, hb⟩
    have BW := Lib.hid (below_step BW.out hb)
    clear hb cOA cOZ
    go_wp2_with fail
    refine (evruns_any _).mono ?_
    rintro e w9 ⟨rfl, hb⟩
    have BW := Lib.hid (below_step BW.out hb)
    clear hb
    go_wp2_with fail
    go_ret
    exact ⟨rfl, BW.out⟩
  · have HX := HEQ.out
    rw [if_pos rfl] at HX
    have HM : Hid ((vp, vd) = (indetP bp bd, indetD bp bd)) := (Res.mk.inj HX).1
    have HO : Hid (vob = []) := (Res.mk.inj HX).2
    clear HX
    have HI := Lib.hid (indet_any bp bd)
    have cOB := OB.out.c2e
    have cOZ := OZ.out.c2e
    have fOZ := OZ.out.f2e
    go_wp2_with fail
    refine (HI.out _).mono ?_
    rintro z w' ⟨rfl, rfl⟩
    have OZ2 := Lib.hid (OZ.out.set2 (.complex .f64 (fl (indetP bp bd)) (fl (indetD bp bd))) (.slice none 0 0))
    have OA2 := Lib.hid (OA.out.set2k (g' := w6.heap.size + 1) (by have := NA.out; omega) (.complex .f64 (fl (indetP bp bd)) (fl (indetD bp bd))) (.slice none 0 0))
    have DA2 := Lib.hid (DA.out.set2low (g := w6.heap.size + 1) (by rw [size_al]; have := NA.out; omega) (.complex .f64 (fl (indetP bp bd)) (fl (indetD bp bd))) (.slice none 0 0))
    have BW := Lib.hid (below_set2 BW.out (g := w6.heap.size + 1) (by have h1 := BW6.out; omega) (.complex .f64 (fl (indetP bp bd)) (fl (indetD bp bd))) (.slice none 0 0))
    have cOA2 := OA2.out.c2e
    have cOZ2 := OZ2.out.c2e
    clear OA DA OZ OB DB
    go_wp2_with fail
    refine (evsame_at rfl rfl HM.out HO.out DA2.out (Rw.nil_ 3 _ _ (fun _ => True))).mono ?_
    rintro e w8 ⟨rfl, hb⟩
    have BW := Lib.hid (below_step BW.out hb)
    clear hb
    go_wp2_with fail
    refine (evruns_any _).mono ?_
    rintro e w9 ⟨rfl, hb⟩
    have BW := Lib.hid (below_step BW.out hb)
    clear hb
    go_wp2_with fail
    go_ret
    exact ⟨rfl, BW.out⟩
  · have HX := HEQ.out
    rw [if_neg (by omega), if_pos rfl] at HX
    have HM : Hid ((vp, vd) = (bp, bd)) := (Res.mk.inj HX).1
    have HO : Hid (vob = bob) := (Res.mk.inj HX).2
    clear HX
    have cOB := OB.out.c2e
    have cOZ := OZ.out.c2e
    have fOZ := OZ.out.f2e
    have OZ2 := Lib.hid (OZ.out.set2 (.complex .f64 (fl bp) (fl bd)) (.slice F1 f2 f3))
    have OA2 := Lib.hid (OA.out.set2k (g' := w6.heap.size + 1) (by have := NA.out; omega) (.complex .f64 (fl bp) (fl bd)) (.slice F1 f2 f3))
    have DA2 := Lib.hid (DA.out.set2low (g := w6.heap.size + 1) (by rw [size_al]; have := NA.out; omega) (.complex .f64 (fl bp) (fl bd)) (.slice F1 f2 f3))
    have BW := Lib.hid (below_set2 BW.out (g := w6.heap.size + 1) (by have h1 := BW6.out; omega) (.complex .f64 (fl bp) (fl bd)) (.slice F1 f2 f3))
    have DB2 := Lib.hid (DB.out.set2low (g := w6.heap.size + 1) (Nat.le_refl _) (.complex .f64 (fl bp) (fl bd)) (.slice F1 f2 f3))
    have cOA2 := OA2.out.c2e
    have cOZ2 := OZ2.out.c2e
    clear OA DA OZ OB DB
    go_wp2_with fail
    refine (evsame_at rfl rfl HM.out HO.out DA2.out DB2.out).mono ?_
    rintro e w8 ⟨rfl, hb⟩
    have BW := Lib.hid (below_step BW.out hb)
    clear hb
    go_wp2_with fail
    refine (evruns_any _).mono ?_
    rintro e w9 ⟨rfl, hb⟩
    have BW := Lib.hid (below_step BW.out hb)
    clear hb
    go_wp2_with fail
    go_ret
    exact ⟨rfl, BW.out⟩
end Go.Proofs.YtmoglaknmlhpgaaGreat

