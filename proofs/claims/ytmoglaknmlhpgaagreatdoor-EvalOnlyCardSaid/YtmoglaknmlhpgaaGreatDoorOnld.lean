/- Several texts in one: EvalRuns, ShowMath, ParStrip, ParBlanks. -/
import Derived.Test.YtmoglaknmlhpgaaGreatDoorOnlc
import Derived.Deep.CutRange
import Derived.Test.YtmoglaknmlhpgaaGreatDoorOnlA
import Derived.Lib.Join
import Derived.Test.YtmoglaknmlhpgaaGreatDoorOnlW
/- Chapter 14's runs, walked. -/
namespace Go.Proofs.YtmoglaknmlhpgaaGreatDoor
set_option linter.unusedVariables false
open Go.RowKit
attribute [local go_sem] eq0 feq2 eq4 fgt0 gt2 ord_eq ord_gt ord_lt ev_store

theorem Ob.c7e {w : World} {g : Nat} {t : TypeId} {a b c d e f h : Value} (H : Ob w g t #[a, b, c, d, e, f, h]) :
  w.cell? ⟨g, 0, none⟩ = some a ∧ w.cell? ⟨g, 1, none⟩ = some b ∧ w.cell? ⟨g, 2, none⟩ = some c ∧ w.cell? ⟨g, 3, none⟩ = some d ∧ w.cell? ⟨g, 4, none⟩ = some e ∧ w.cell? ⟨g, 5, none⟩ = some f ∧ w.cell? ⟨g, 6, none⟩ = some h :=
 ⟨H.cell 0, H.cell 1, H.cell 2, H.cell 3, H.cell 4, H.cell 5, H.cell 6⟩
theorem evpol_is {ask : List Giv} {w : World} {R R2 : Nat → Prop} {A : Option Addr} {n c : Nat} {p : Pol} {A1 A2 A3 A4 : Option Addr} {n1 k1 n2 k2 n3 k3 n4 k4 : Nat} {vp vd : Fin 5} {vob : List Dut} (hv : evV ask p = ⟨(vp, vd), vob⟩) (hr : rightE p = 0) (h : PolIn w R p A1 n1 k1 A2 n2 k2 A3 n3 k3 A4 n4 k4) (hA : Gvs w R2 A n c ask) (hG : ShortG ask) :
  Calls Tryz.prog 9 #[.agg #[.string p.id, .bool p.set, .int .i64 p.alg, .slice A1 n1 k1, .slice A2 n2 k2, .slice A3 n3 k3, .slice A4 n4 k4], .slice A n c] w
   fun e w' => ∃ A' n' c', e = .returned (.tuple #[.agg #[.complex .f64 (fl vp) (fl vd), .slice A' n' c'], .int .i64 0]) ∧ Below w.heap.size w w' ∧ Dus w' (fun b => w.heap.size ≤ b) A' n' c' vob := by
 have := evpol_ok hr h hA hG
 rw [hv] at this
 exact this
theorem evA_short {v : Vl} (h : v.s.size ≤ 100) : ShortG (evA v) := fun g hg => by
 simp [evA] at hg
 subst hg
 exact ⟨fun x hx => by simp at hx; subst hx; omega, by show (1 : Nat) ≤ 100000; omega⟩
theorem ev_lit (w : World) (v : Vl) (hok : v.ok) : Vls (w.alloc (.cells #[.int .i64 v.k, .int .i64 v.n, .string v.s] 31)) (fun _ => True) (some ⟨w.heap.size, 0, none⟩) 1 1 [v] := by
 have := Rw.lit (k := 3) (R := fun _ => True) (P := fun vs (x : Vl) => vs = x.cells ∧ x.ok) w 31 Vl.cells [v] (n := 1) rfl (by omega) trivial (fun _ _ => rfl) (fun x hx => by simp at hx; subst hx; exact ⟨rfl, hok⟩)
 exact this
def ResIn (w : World) (g : Nat) (m : Mk) (ob : List Dut) : Prop := ∃ E f h, Ob w g 44 #[.complex .f64 (fl m.1) (fl m.2), .slice E f h] ∧ Dus w (fun _ => True) E f h ob
theorem ResIn.then_ {w w' : World} {g : Nat} {m : Mk} {ob : List Dut} (h : ResIn w g m ob) (hb : Below w.heap.size w w') : ResIn w' g m ob := by
 obtain ⟨E, f, h, h1, h2⟩ := h
 exact ⟨E, f, h, h1.below hb h1.lt, h2.keep (Kept.all hb _) (fun _ h _ => h)⟩
theorem Dus.set2x {w : World} {g : Nat} {A : Option Addr} {n c : Nat} {l : List Dut} (h : Dus w (fun b => b ≠ g) A n c l) (u v : Value) : Dus ((w.setCell ⟨g, 0, none⟩ u).setCell ⟨g, 1, none⟩ v) (fun _ => True) A n c l :=
 h.keep ⟨by simp [World.setCell], fun b hb _ => (Below.heap_setCell _ _ _ _ hb).trans (Below.heap_setCell _ _ _ _ hb)⟩ (fun b hb _ => trivial)
theorem o1_ok : evO1.ok := by decide +kernel
theorem o2_ok : evO2.ok := by decide +kernel
theorem o3_ok : evO3.ok := by decide +kernel

set_option maxRecDepth 100000 in
set_option maxHeartbeats 6400000 in
theorem evruns_any (w : World) : Calls Tryz.prog 8 #[] w fun e w' => e = .returned (.bool true) ∧ Below w.heap.size w w' := by
 go_enter Tryz.func8, Tryz.ntmps8
 go_wp2_with fail
 refine (evread_any ev_run (by decide +kernel)).mono ?_
 rintro x w1 ⟨A1, n1, c1, A2, n2, c2, A3, n3, c3, A4, n4, c4, rfl, hb, hp⟩
 have B1 := Lib.hid hb
 have HP := Lib.hid hp
 have OBP := Lib.hid (Ob.made w1 28 #[.string evP.id, .bool evP.set, .int .i64 evP.alg, .slice A1 n1 c1, .slice A2 n2 c2, .slice A3 n3 c3, .slice A4 n4 c4])
 have a1 : Below w1.heap.size w1 (w1.alloc (.cells #[.string evP.id, .bool evP.set, .int .i64 evP.alg, .slice A1 n1 c1, .slice A2 n2 c2, .slice A3 n3 c3, .slice A4 n4 c4] 28)) := (Below.refl _ _).alloc (Nat.le_refl _) _
 have HP1 := Lib.hid (hp.then_ a1)
 have BW := Lib.hid (below_step hb a1)
 have EP0 := Lib.hid (evpol_is (R2 := fun _ => True) (A := none) (n := 0) (c := 0) ev_1 ev_right HP1.out (Rw.nil_ _ _ _ _) (fun g hg => by cases hg))
 have q0 := OBP.out.c7e
 clear hb hp a1
 go_wp2_with fail
 refine EP0.out.mono ?_
 rintro x w2 ⟨E1, e2, e3, rfl, hb, hd⟩
 have a2 : Below w2.heap.size w2 (w2.alloc (.cells #[.complex .f64 (fl 4) (fl 0), .slice E1 e2 e3] 44)) := (Below.refl _ _).alloc (Nat.le_refl _) _
 have hb2 := below_step hb a2
 have RA0 : ResIn (w2.alloc (.cells #[.complex .f64 (fl 4) (fl 0), .slice E1 e2 e3] 44)) w2.heap.size (4, 0) [evO1, evO3] := ⟨E1, e2, e3, Ob.made _ _ _, hd.keep (Kept.all a2 _) (fun _ _ _ => trivial)⟩
 have RA := Lib.hid RA0
 have OB2 := Lib.hid (OBP.out.below hb2 OBP.out.lt)
 have HP2 := Lib.hid (HP1.out.then_ hb2)
 have BW2 := Lib.hid (below_step BW.out hb2)
 clear hb hd a2 hb2 RA0 q0 EP0 OBP HP1
 go_upto_region 3 with fail
 obtain ⟨W3, hW3⟩ : ∃ W3, (w2.alloc (.cells #[.complex .f64 (fl 4) (fl 0), .slice E1 e2 e3] 44)) = W3 := ⟨_, rfl⟩
 rw [hW3] at RA OB2 HP2 BW2
 rw [hW3]
 clear hW3
 have EPK := Lib.hid (fun V (hV : Below W3.heap.size W3 V) (A : Option Addr) (h : Gvs V (fun _ => True) A 1 1 (evA ⟨2, 1, ⟨#[]⟩⟩)) => evpol_is ev_2 ev_right (HP2.out.then_ hV) h (evA_short (by decide +kernel)))
 have OBK := Lib.hid (fun V (hV : Below W3.heap.size W3 V) => (OB2.out.below hV OB2.out.lt).c7e)
 go_cut [4, 5] from 15 to 22 (fun u v wx => ∃ g, u = .pointer (some ⟨g, 0, none⟩) ∧ v = .int .i64 0 ∧ ResIn wx g (0, 4) [evO2] ∧ Below W3.heap.size W3 wx)
 case first =>
  refine wp_region_held_tail (fun w' => Below W3.heap.size W3 w') 10 (by kernel_rfl) (by kernel_rfl) ?_
  intro G
  change HeadW _ _ _ _ _ _ _ _ _ _ (W3.drewN 1)
  have S := Lib.hid (below_drewN (Below.refl W3.heap.size W3) 1)
  generalize W3.drewN 1 = y0 at *
  refine HeadW_take (i := 0) (v := ?_) G rfl (by kernel_rfl) (by kernel_rfl) (by kernel_rfl) (fun _ _ _ h => h) (Or.inl ⟨by rfl, ?_⟩) S.out ?_
  rotate_left
  ·intro wz hS
   have hk := OBK.out _ hS
   go_simp
   try with_reducible rfl
  refine HeadW_take (i := 1) (v := ?_) G rfl (by kernel_rfl) (by kernel_rfl) (by kernel_rfl) (fun _ _ _ h => h) (Or.inl ⟨by rfl, ?_⟩) S.out ?_
  rotate_left
  ·intro wz hS
   go_simp
   try with_reducible rfl
  refine HeadW_ready (rs := [2, 8]) (by kernel_rfl) rfl rfl ?_
  refine AllW.cons rfl (fun K hK => ?_) (AllW.cons rfl (fun K hK => ?_) (AllW.nil))
  ·go_simp
   have hb : Below y0.heap.size y0 (y0.alloc (.cells #[.int .i64 2, .int .i64 1, .string ⟨#[]⟩] 31)) := (Below.refl _ _).alloc (Nat.le_refl _) _
   have HV := Lib.hid (ev_lit y0 ⟨2, 1, ⟨#[]⟩⟩ (by decide +kernel))
   have S := Lib.hid (S.out.trans (hb.mono S.out.size))
   refine hK _ _ S.out ?_
   clear hK K hb
   generalize y0.alloc (.cells #[.int .i64 2, .int .i64 1, .string ⟨#[]⟩] 31) = y1 at *
   refine HeadW_ready (rs := [3, 8]) (by kernel_rfl) rfl rfl ?_
   refine AllW.cons rfl (fun K hK => ?_) (AllW.cons rfl (fun K hK => ?_) (AllW.nil))
   ·go_simp
    refine (evx_any HV.out).mono ?_
    rintro e y2 ⟨A7, rfl, hb, hg⟩
    have HV := Lib.hid (HV.out.keep (Kept.all hb _) (fun _ h _ => h))
    have HG := Lib.hid (hg)
    clear hg
    have S := Lib.hid (S.out.trans (hb.mono S.out.size))
    refine hK _ _ S.out ?_
    clear hK K hb
    refine HeadW_ready (rs := [4, 8]) (by kernel_rfl) rfl rfl ?_
    refine AllW.cons rfl (fun K hK => ?_) (AllW.cons rfl (fun K hK => ?_) (AllW.nil))
    ·go_simp
     refine (EPK.out _ S.out _ HG.out).mono ?_
     rintro e y3 ⟨F1, f2, f3, rfl, hb, hd⟩
     have HV := Lib.hid (HV.out.keep (Kept.all hb _) (fun _ h _ => h))
     have HG := Lib.hid (HG.out.keep (Kept.all hb _) (fun _ h _ => h))
     have HD := Lib.hid (hd)
     clear hd
     have S := Lib.hid (S.out.trans (hb.mono S.out.size))
     refine hK _ _ S.out ?_
     clear hK K hb
     refine HeadW_take (i := 5) (v := ?_) G rfl (by kernel_rfl) (by kernel_rfl) (by kernel_rfl) (fun _ _ _ h => h) (Or.inl ⟨by rfl, ?_⟩) S.out ?_
     rotate_left
     ·intro wz hS
      go_simp
      try with_reducible rfl
     refine HeadW_take (i := 6) (v := ?_) G rfl (by kernel_rfl) (by kernel_rfl) (by kernel_rfl) (fun _ _ _ h => h) (Or.inl ⟨by rfl, ?_⟩) S.out ?_
     rotate_left
     ·intro wz hS
      go_simp
      try with_reducible rfl
     refine HeadW_take (i := 7) (v := ?_) G rfl (by kernel_rfl) (by kernel_rfl) (by kernel_rfl) (fun _ _ _ h => h) (Or.inl ⟨by rfl, ?_⟩) S.out ?_
     rotate_left
     ·intro wz hS
      go_simp
      try with_reducible rfl
     refine HeadW_ready (rs := [8]) (by kernel_rfl) rfl rfl ?_
     refine AllW.cons rfl (fun K hK => ?_) (AllW.nil)
     have HGZ := Lib.hid S.out.size
     have HD := Lib.hid (HD.out.keep (R' := fun b => b < y3.heap.size) (Kept.refl _ _) (fun b _ hlt => hlt))
     go_simp
     have hb : Below y3.heap.size y3 (y3.alloc (.cells #[.complex .f64 0 0, .slice none 0 0] 44)) := (Below.refl _ _).alloc (Nat.le_refl _) _
     have HV := Lib.hid (HV.out.keep (Kept.all hb _) (fun _ h _ => h))
     have HG := Lib.hid (HG.out.keep (Kept.all hb _) (fun _ h _ => h))
     have HD := Lib.hid (HD.out.keep (Kept.all hb _) (fun _ h _ => h))
     have OZ := Lib.hid (Ob.made y3 44 #[.complex .f64 0 0, .slice none 0 0])
     have HD := Lib.hid (HD.out.keep (R' := fun b => b ≠ y3.heap.size) (Kept.refl _ _) (fun b hb _ => by have h1 : b < y3.heap.size := hb; omega))
     have S := Lib.hid (S.out.trans (hb.mono S.out.size))
     refine hK _ _ S.out ?_
     clear hK K hb
     generalize y3.alloc (.cells #[.complex .f64 0 0, .slice none 0 0] 44) = y4 at *
     refine HeadW_ready (rs := [9]) (by kernel_rfl) rfl rfl ?_
     refine AllW.cons rfl (fun K hK => ?_) (AllW.nil)
     have r0 := OZ.out.cell 0
     have r1 := OZ.out.cell 1
     have s0 := OZ.out.frozen 0
     have s1 := OZ.out.frozen 1
     go_simp
     have S := Lib.hid (below_set2 S.out HGZ.out (.complex .f64 (fl 0) (fl 4)) (.slice F1 f2 f3))
     refine hK _ _ S.out ?_
     clear hK K
     intro _
     refine ⟨by kernel_rfl, ?_⟩
     simp only [List.drop_succ_cons, List.drop_zero]
     go_wp2_with fail
     go_meet
     case rel => exact ⟨_, rfl, rfl, ⟨F1, f2, f3, OZ.out.set2 _ _, HD.out.set2x _ _⟩, S.out⟩
    ·have HGZ := Lib.hid S.out.size
     go_simp
     have hb : Below y2.heap.size y2 (y2.alloc (.cells #[.complex .f64 0 0, .slice none 0 0] 44)) := (Below.refl _ _).alloc (Nat.le_refl _) _
     have HV := Lib.hid (HV.out.keep (Kept.all hb _) (fun _ h _ => h))
     have HG := Lib.hid (HG.out.keep (Kept.all hb _) (fun _ h _ => h))
     have OZ := Lib.hid (Ob.made y2 44 #[.complex .f64 0 0, .slice none 0 0])
     have S := Lib.hid (S.out.trans (hb.mono S.out.size))
     refine hK _ _ S.out ?_
     clear hK K hb
     generalize y2.alloc (.cells #[.complex .f64 0 0, .slice none 0 0] 44) = y6 at *
     refine HeadW_ready (rs := [4]) (by kernel_rfl) rfl rfl ?_
     refine AllW.cons rfl (fun K hK => ?_) (AllW.nil)
     have hltz := OZ.out.lt
     go_simp
     refine (EPK.out _ S.out _ HG.out).mono ?_
     rintro e y7 ⟨F1, f2, f3, rfl, hb, hd⟩
     have HV := Lib.hid (HV.out.keep (Kept.all hb _) (fun _ h _ => h))
     have HG := Lib.hid (HG.out.keep (Kept.all hb _) (fun _ h _ => h))
     have OZ := Lib.hid (OZ.out.below hb OZ.out.lt)
     have HD := Lib.hid (hd)
     have HD := Lib.hid (hd.keep (R' := fun b => b ≠ y2.heap.size) (Kept.refl _ _) (fun b hb _ => by have h1 : _ ≤ b := hb; omega))
     clear hd
     have S := Lib.hid (S.out.trans (hb.mono S.out.size))
     refine hK _ _ S.out ?_
     clear hK K hb
     refine HeadW_take (i := 5) (v := ?_) G rfl (by kernel_rfl) (by kernel_rfl) (by kernel_rfl) (fun _ _ _ h => h) (Or.inl ⟨by rfl, ?_⟩) S.out ?_
     rotate_left
     ·intro wz hS
      go_simp
      try with_reducible rfl
     refine HeadW_take (i := 6) (v := ?_) G rfl (by kernel_rfl) (by kernel_rfl) (by kernel_rfl) (fun _ _ _ h => h) (Or.inl ⟨by rfl, ?_⟩) S.out ?_
     rotate_left
     ·intro wz hS
      go_simp
      try with_reducible rfl
     refine HeadW_take (i := 7) (v := ?_) G rfl (by kernel_rfl) (by kernel_rfl) (by kernel_rfl) (fun _ _ _ h => h) (Or.inl ⟨by rfl, ?_⟩) S.out ?_
     rotate_left
     ·intro wz hS
      go_simp
      try with_reducible rfl
     refine HeadW_ready (rs := [9]) (by kernel_rfl) rfl rfl ?_
     refine AllW.cons rfl (fun K hK => ?_) (AllW.nil)
     have r0 := OZ.out.cell 0
     have r1 := OZ.out.cell 1
     have s0 := OZ.out.frozen 0
     have s1 := OZ.out.frozen 1
     go_simp
     have S := Lib.hid (below_set2 S.out HGZ.out (.complex .f64 (fl 0) (fl 4)) (.slice F1 f2 f3))
     refine hK _ _ S.out ?_
     clear hK K
     intro _
     refine ⟨by kernel_rfl, ?_⟩
     simp only [List.drop_succ_cons, List.drop_zero]
     go_wp2_with fail
     go_meet
     case rel => exact ⟨_, rfl, rfl, ⟨F1, f2, f3, OZ.out.set2 _ _, HD.out.set2x _ _⟩, S.out⟩
   ·have HGZ := Lib.hid S.out.size
    go_simp
    have hb : Below y1.heap.size y1 (y1.alloc (.cells #[.complex .f64 0 0, .slice none 0 0] 44)) := (Below.refl _ _).alloc (Nat.le_refl _) _
    have HV := Lib.hid (HV.out.keep (Kept.all hb _) (fun _ h _ => h))
    have OZ := Lib.hid (Ob.made y1 44 #[.complex .f64 0 0, .slice none 0 0])
    have S := Lib.hid (S.out.trans (hb.mono S.out.size))
    refine hK _ _ S.out ?_
    clear hK K hb
    generalize y1.alloc (.cells #[.complex .f64 0 0, .slice none 0 0] 44) = y9 at *
    refine HeadW_ready (rs := [3]) (by kernel_rfl) rfl rfl ?_
    refine AllW.cons rfl (fun K hK => ?_) (AllW.nil)
    go_simp
    refine (evx_any HV.out).mono ?_
    rintro e y10 ⟨A7, rfl, hb, hg⟩
    have HV := Lib.hid (HV.out.keep (Kept.all hb _) (fun _ h _ => h))
    have OZ := Lib.hid (OZ.out.below hb OZ.out.lt)
    have HG := Lib.hid (hg)
    clear hg
    have S := Lib.hid (S.out.trans (hb.mono S.out.size))
    refine hK _ _ S.out ?_
    clear hK K hb
    refine HeadW_ready (rs := [4]) (by kernel_rfl) rfl rfl ?_
    refine AllW.cons rfl (fun K hK => ?_) (AllW.nil)
    have hltz := OZ.out.lt
    go_simp
    refine (EPK.out _ S.out _ HG.out).mono ?_
    rintro e y11 ⟨F1, f2, f3, rfl, hb, hd⟩
    have HV := Lib.hid (HV.out.keep (Kept.all hb _) (fun _ h _ => h))
    have OZ := Lib.hid (OZ.out.below hb OZ.out.lt)
    have HG := Lib.hid (HG.out.keep (Kept.all hb _) (fun _ h _ => h))
    have HD := Lib.hid (hd)
    have HD := Lib.hid (hd.keep (R' := fun b => b ≠ y1.heap.size) (Kept.refl _ _) (fun b hb _ => by have h1 : _ ≤ b := hb; omega))
    clear hd
    have S := Lib.hid (S.out.trans (hb.mono S.out.size))
    refine hK _ _ S.out ?_
    clear hK K hb
    refine HeadW_take (i := 5) (v := ?_) G rfl (by kernel_rfl) (by kernel_rfl) (by kernel_rfl) (fun _ _ _ h => h) (Or.inl ⟨by rfl, ?_⟩) S.out ?_
    rotate_left
    ·intro wz hS
     go_simp
     try with_reducible rfl
    refine HeadW_take (i := 6) (v := ?_) G rfl (by kernel_rfl) (by kernel_rfl) (by kernel_rfl) (fun _ _ _ h => h) (Or.inl ⟨by rfl, ?_⟩) S.out ?_
    rotate_left
    ·intro wz hS
     go_simp
     try with_reducible rfl
    refine HeadW_take (i := 7) (v := ?_) G rfl (by kernel_rfl) (by kernel_rfl) (by kernel_rfl) (fun _ _ _ h => h) (Or.inl ⟨by rfl, ?_⟩) S.out ?_
    rotate_left
    ·intro wz hS
     go_simp
     try with_reducible rfl
    refine HeadW_ready (rs := [9]) (by kernel_rfl) rfl rfl ?_
    refine AllW.cons rfl (fun K hK => ?_) (AllW.nil)
    have r0 := OZ.out.cell 0
    have r1 := OZ.out.cell 1
    have s0 := OZ.out.frozen 0
    have s1 := OZ.out.frozen 1
    go_simp
    have S := Lib.hid (below_set2 S.out HGZ.out (.complex .f64 (fl 0) (fl 4)) (.slice F1 f2 f3))
    refine hK _ _ S.out ?_
    clear hK K
    intro _
    refine ⟨by kernel_rfl, ?_⟩
    simp only [List.drop_succ_cons, List.drop_zero]
    go_wp2_with fail
    go_meet
    case rel => exact ⟨_, rfl, rfl, ⟨F1, f2, f3, OZ.out.set2 _ _, HD.out.set2x _ _⟩, S.out⟩
  ·have HGZ := Lib.hid S.out.size
   go_simp
   have hb : Below y0.heap.size y0 (y0.alloc (.cells #[.complex .f64 0 0, .slice none 0 0] 44)) := (Below.refl _ _).alloc (Nat.le_refl _) _
   have OZ := Lib.hid (Ob.made y0 44 #[.complex .f64 0 0, .slice none 0 0])
   have S := Lib.hid (S.out.trans (hb.mono S.out.size))
   refine hK _ _ S.out ?_
   clear hK K hb
   generalize y0.alloc (.cells #[.complex .f64 0 0, .slice none 0 0] 44) = y13 at *
   refine HeadW_ready (rs := [2]) (by kernel_rfl) rfl rfl ?_
   refine AllW.cons rfl (fun K hK => ?_) (AllW.nil)
   go_simp
   have hb : Below y13.heap.size y13 (y13.alloc (.cells #[.int .i64 2, .int .i64 1, .string ⟨#[]⟩] 31)) := (Below.refl _ _).alloc (Nat.le_refl _) _
   have OZ := Lib.hid (OZ.out.below hb OZ.out.lt)
   have HV := Lib.hid (ev_lit y13 ⟨2, 1, ⟨#[]⟩⟩ (by decide +kernel))
   have S := Lib.hid (S.out.trans (hb.mono S.out.size))
   refine hK _ _ S.out ?_
   clear hK K hb
   generalize y13.alloc (.cells #[.int .i64 2, .int .i64 1, .string ⟨#[]⟩] 31) = y14 at *
   refine HeadW_ready (rs := [3]) (by kernel_rfl) rfl rfl ?_
   refine AllW.cons rfl (fun K hK => ?_) (AllW.nil)
   go_simp
   refine (evx_any HV.out).mono ?_
   rintro e y15 ⟨A7, rfl, hb, hg⟩
   have OZ := Lib.hid (OZ.out.below hb OZ.out.lt)
   have HV := Lib.hid (HV.out.keep (Kept.all hb _) (fun _ h _ => h))
   have HG := Lib.hid (hg)
   clear hg
   have S := Lib.hid (S.out.trans (hb.mono S.out.size))
   refine hK _ _ S.out ?_
   clear hK K hb
   refine HeadW_ready (rs := [4]) (by kernel_rfl) rfl rfl ?_
   refine AllW.cons rfl (fun K hK => ?_) (AllW.nil)
   have hltz := OZ.out.lt
   go_simp
   refine (EPK.out _ S.out _ HG.out).mono ?_
   rintro e y16 ⟨F1, f2, f3, rfl, hb, hd⟩
   have OZ := Lib.hid (OZ.out.below hb OZ.out.lt)
   have HV := Lib.hid (HV.out.keep (Kept.all hb _) (fun _ h _ => h))
   have HG := Lib.hid (HG.out.keep (Kept.all hb _) (fun _ h _ => h))
   have HD := Lib.hid (hd)
   have HD := Lib.hid (hd.keep (R' := fun b => b ≠ y0.heap.size) (Kept.refl _ _) (fun b hb _ => by have h1 : _ ≤ b := hb; omega))
   clear hd
   have S := Lib.hid (S.out.trans (hb.mono S.out.size))
   refine hK _ _ S.out ?_
   clear hK K hb
   refine HeadW_take (i := 5) (v := ?_) G rfl (by kernel_rfl) (by kernel_rfl) (by kernel_rfl) (fun _ _ _ h => h) (Or.inl ⟨by rfl, ?_⟩) S.out ?_
   rotate_left
   ·intro wz hS
    go_simp
    try with_reducible rfl
   refine HeadW_take (i := 6) (v := ?_) G rfl (by kernel_rfl) (by kernel_rfl) (by kernel_rfl) (fun _ _ _ h => h) (Or.inl ⟨by rfl, ?_⟩) S.out ?_
   rotate_left
   ·intro wz hS
    go_simp
    try with_reducible rfl
   refine HeadW_take (i := 7) (v := ?_) G rfl (by kernel_rfl) (by kernel_rfl) (by kernel_rfl) (fun _ _ _ h => h) (Or.inl ⟨by rfl, ?_⟩) S.out ?_
   rotate_left
   ·intro wz hS
    go_simp
    try with_reducible rfl
   refine HeadW_ready (rs := [9]) (by kernel_rfl) rfl rfl ?_
   refine AllW.cons rfl (fun K hK => ?_) (AllW.nil)
   have r0 := OZ.out.cell 0
   have r1 := OZ.out.cell 1
   have s0 := OZ.out.frozen 0
   have s1 := OZ.out.frozen 1
   go_simp
   have S := Lib.hid (below_set2 S.out HGZ.out (.complex .f64 (fl 0) (fl 4)) (.slice F1 f2 f3))
   refine hK _ _ S.out ?_
   clear hK K
   intro _
   refine ⟨by kernel_rfl, ?_⟩
   simp only [List.drop_succ_cons, List.drop_zero]
   go_wp2_with fail
   go_meet
   case rel => exact ⟨_, rfl, rfl, ⟨F1, f2, f3, OZ.out.set2 _ _, HD.out.set2x _ _⟩, S.out⟩
 case rest =>
  obtain ⟨g4, rfl, rfl, hrb, hb⟩ := hcut
  have RB := Lib.hid hrb
  have RA4 := Lib.hid (RA.out.then_ hb)
  have OB4 := Lib.hid (OB2.out.below hb OB2.out.lt)
  have HP4 := Lib.hid (HP2.out.then_ hb)
  have BW4 := Lib.hid (below_step BW2.out hb)
  clear hrb hb RA OB2 HP2 BW2 EPK OBK
  obtain ⟨W4, hW4⟩ : ∃ W4, W4 = wc := ⟨wc, rfl⟩
  subst hW4
  go_upto_region 4 with fail
  have EPK := Lib.hid (fun V (hV : Below W4.heap.size W4 V) (A : Option Addr) (h : Gvs V (fun _ => True) A 1 1 (evA ⟨3, 0, ⟨#[97]⟩⟩)) => evpol_is ev_3 ev_right (HP4.out.then_ hV) h (evA_short (by decide +kernel)))
  have OBK := Lib.hid (fun V (hV : Below W4.heap.size W4 V) => (OB4.out.below hV OB4.out.lt).c7e)
  go_cut [6, 7] from 23 to 30 (fun u v wx => ∃ g, u = .pointer (some ⟨g, 0, none⟩) ∧ v = .int .i64 0 ∧ ResIn wx g (2, 2) [] ∧ Below W4.heap.size W4 wx)
  case first =>
   refine wp_region_held_tail (fun w' => Below W4.heap.size W4 w') 10 (by kernel_rfl) (by kernel_rfl) ?_
   intro G
   change HeadW _ _ _ _ _ _ _ _ _ _ (W4.drewN 1)
   have S := Lib.hid (below_drewN (Below.refl W4.heap.size W4) 1)
   generalize W4.drewN 1 = y0 at *
   refine HeadW_take (i := 0) (v := ?_) G rfl (by kernel_rfl) (by kernel_rfl) (by kernel_rfl) (fun _ _ _ h => h) (Or.inl ⟨by rfl, ?_⟩) S.out ?_
   rotate_left
   ·intro wz hS
    have hk := OBK.out _ hS
    go_simp
    try with_reducible rfl
   refine HeadW_take (i := 1) (v := ?_) G rfl (by kernel_rfl) (by kernel_rfl) (by kernel_rfl) (fun _ _ _ h => h) (Or.inl ⟨by rfl, ?_⟩) S.out ?_
   rotate_left
   ·intro wz hS
    go_simp
    try with_reducible rfl
   refine HeadW_ready (rs := [2, 8]) (by kernel_rfl) rfl rfl ?_
   refine AllW.cons rfl (fun K hK => ?_) (AllW.cons rfl (fun K hK => ?_) (AllW.nil))
   ·go_simp
    have hb : Below y0.heap.size y0 (y0.alloc (.cells #[.int .i64 3, .int .i64 0, .string ⟨#[97]⟩] 31)) := (Below.refl _ _).alloc (Nat.le_refl _) _
    have HV := Lib.hid (ev_lit y0 ⟨3, 0, ⟨#[97]⟩⟩ (by decide +kernel))
    have S := Lib.hid (S.out.trans (hb.mono S.out.size))
    refine hK _ _ S.out ?_
    clear hK K hb
    generalize y0.alloc (.cells #[.int .i64 3, .int .i64 0, .string ⟨#[97]⟩] 31) = y1 at *
    refine HeadW_ready (rs := [3, 8]) (by kernel_rfl) rfl rfl ?_
    refine AllW.cons rfl (fun K hK => ?_) (AllW.cons rfl (fun K hK => ?_) (AllW.nil))
    ·go_simp
     refine (evx_any HV.out).mono ?_
     rintro e y2 ⟨A7, rfl, hb, hg⟩
     have HV := Lib.hid (HV.out.keep (Kept.all hb _) (fun _ h _ => h))
     have HG := Lib.hid (hg)
     clear hg
     have S := Lib.hid (S.out.trans (hb.mono S.out.size))
     refine hK _ _ S.out ?_
     clear hK K hb
     refine HeadW_ready (rs := [4, 8]) (by kernel_rfl) rfl rfl ?_
     refine AllW.cons rfl (fun K hK => ?_) (AllW.cons rfl (fun K hK => ?_) (AllW.nil))
     ·go_simp
      refine (EPK.out _ S.out _ HG.out).mono ?_
      rintro e y3 ⟨F1, f2, f3, rfl, hb, hd⟩
      have HV := Lib.hid (HV.out.keep (Kept.all hb _) (fun _ h _ => h))
      have HG := Lib.hid (HG.out.keep (Kept.all hb _) (fun _ h _ => h))
      have HD := Lib.hid (hd)
      clear hd
      have S := Lib.hid (S.out.trans (hb.mono S.out.size))
      refine hK _ _ S.out ?_
      clear hK K hb
      refine HeadW_take (i := 5) (v := ?_) G rfl (by kernel_rfl) (by kernel_rfl) (by kernel_rfl) (fun _ _ _ h => h) (Or.inl ⟨by rfl, ?_⟩) S.out ?_
      rotate_left
      ·intro wz hS
       go_simp
       try with_reducible rfl
      refine HeadW_take (i := 6) (v := ?_) G rfl (by kernel_rfl) (by kernel_rfl) (by kernel_rfl) (fun _ _ _ h => h) (Or.inl ⟨by rfl, ?_⟩) S.out ?_
      rotate_left
      ·intro wz hS
       go_simp
       try with_reducible rfl
      refine HeadW_take (i := 7) (v := ?_) G rfl (by kernel_rfl) (by kernel_rfl) (by kernel_rfl) (fun _ _ _ h => h) (Or.inl ⟨by rfl, ?_⟩) S.out ?_
      rotate_left
      ·intro wz hS
       go_simp
       try with_reducible rfl
      refine HeadW_ready (rs := [8]) (by kernel_rfl) rfl rfl ?_
      refine AllW.cons rfl (fun K hK => ?_) (AllW.nil)
      have HGZ := Lib.hid S.out.size
      have HD := Lib.hid (HD.out.keep (R' := fun b => b < y3.heap.size) (Kept.refl _ _) (fun b _ hlt => hlt))
      go_simp
      have hb : Below y3.heap.size y3 (y3.alloc (.cells #[.complex .f64 0 0, .slice none 0 0] 44)) := (Below.refl _ _).alloc (Nat.le_refl _) _
      have HV := Lib.hid (HV.out.keep (Kept.all hb _) (fun _ h _ => h))
      have HG := Lib.hid (HG.out.keep (Kept.all hb _) (fun _ h _ => h))
      have HD := Lib.hid (HD.out.keep (Kept.all hb _) (fun _ h _ => h))
      have OZ := Lib.hid (Ob.made y3 44 #[.complex .f64 0 0, .slice none 0 0])
      have HD := Lib.hid (HD.out.keep (R' := fun b => b ≠ y3.heap.size) (Kept.refl _ _) (fun b hb _ => by have h1 : b < y3.heap.size := hb; omega))
      have S := Lib.hid (S.out.trans (hb.mono S.out.size))
      refine hK _ _ S.out ?_
      clear hK K hb
      generalize y3.alloc (.cells #[.complex .f64 0 0, .slice none 0 0] 44) = y4 at *
      refine HeadW_ready (rs := [9]) (by kernel_rfl) rfl rfl ?_
      refine AllW.cons rfl (fun K hK => ?_) (AllW.nil)
      have r0 := OZ.out.cell 0
      have r1 := OZ.out.cell 1
      have s0 := OZ.out.frozen 0
      have s1 := OZ.out.frozen 1
      go_simp
      have S := Lib.hid (below_set2 S.out HGZ.out (.complex .f64 (fl 2) (fl 2)) (.slice F1 f2 f3))
      refine hK _ _ S.out ?_
      clear hK K
      intro _
      refine ⟨by kernel_rfl, ?_⟩
      simp only [List.drop_succ_cons, List.drop_zero]
      go_wp2_with fail
      go_meet
      case rel => exact ⟨_, rfl, rfl, ⟨F1, f2, f3, OZ.out.set2 _ _, HD.out.set2x _ _⟩, S.out⟩
     ·have HGZ := Lib.hid S.out.size
      go_simp
      have hb : Below y2.heap.size y2 (y2.alloc (.cells #[.complex .f64 0 0, .slice none 0 0] 44)) := (Below.refl _ _).alloc (Nat.le_refl _) _
      have HV := Lib.hid (HV.out.keep (Kept.all hb _) (fun _ h _ => h))
      have HG := Lib.hid (HG.out.keep (Kept.all hb _) (fun _ h _ => h))
      have OZ := Lib.hid (Ob.made y2 44 #[.complex .f64 0 0, .slice none 0 0])
      have S := Lib.hid (S.out.trans (hb.mono S.out.size))
      refine hK _ _ S.out ?_
      clear hK K hb
      generalize y2.alloc (.cells #[.complex .f64 0 0, .slice none 0 0] 44) = y6 at *
      refine HeadW_ready (rs := [4]) (by kernel_rfl) rfl rfl ?_
      refine AllW.cons rfl (fun K hK => ?_) (AllW.nil)
      have hltz := OZ.out.lt
      go_simp
      refine (EPK.out _ S.out _ HG.out).mono ?_
      rintro e y7 ⟨F1, f2, f3, rfl, hb, hd⟩
      have HV := Lib.hid (HV.out.keep (Kept.all hb _) (fun _ h _ => h))
      have HG := Lib.hid (HG.out.keep (Kept.all hb _) (fun _ h _ => h))
      have OZ := Lib.hid (OZ.out.below hb OZ.out.lt)
      have HD := Lib.hid (hd)
      have HD := Lib.hid (hd.keep (R' := fun b => b ≠ y2.heap.size) (Kept.refl _ _) (fun b hb _ => by have h1 : _ ≤ b := hb; omega))
      clear hd
      have S := Lib.hid (S.out.trans (hb.mono S.out.size))
      refine hK _ _ S.out ?_
      clear hK K hb
      refine HeadW_take (i := 5) (v := ?_) G rfl (by kernel_rfl) (by kernel_rfl) (by kernel_rfl) (fun _ _ _ h => h) (Or.inl ⟨by rfl, ?_⟩) S.out ?_
      rotate_left
      ·intro wz hS
       go_simp
       try with_reducible rfl
      refine HeadW_take (i := 6) (v := ?_) G rfl (by kernel_rfl) (by kernel_rfl) (by kernel_rfl) (fun _ _ _ h => h) (Or.inl ⟨by rfl, ?_⟩) S.out ?_
      rotate_left
      ·intro wz hS
       go_simp
       try with_reducible rfl
      refine HeadW_take (i := 7) (v := ?_) G rfl (by kernel_rfl) (by kernel_rfl) (by kernel_rfl) (fun _ _ _ h => h) (Or.inl ⟨by rfl, ?_⟩) S.out ?_
      rotate_left
      ·intro wz hS
       go_simp
       try with_reducible rfl
      refine HeadW_ready (rs := [9]) (by kernel_rfl) rfl rfl ?_
      refine AllW.cons rfl (fun K hK => ?_) (AllW.nil)
      have r0 := OZ.out.cell 0
      have r1 := OZ.out.cell 1
      have s0 := OZ.out.frozen 0
      have s1 := OZ.out.frozen 1
      go_simp
      have S := Lib.hid (below_set2 S.out HGZ.out (.complex .f64 (fl 2) (fl 2)) (.slice F1 f2 f3))
      refine hK _ _ S.out ?_
      clear hK K
      intro _
      refine ⟨by kernel_rfl, ?_⟩
      simp only [List.drop_succ_cons, List.drop_zero]
      go_wp2_with fail
      go_meet
      case rel => exact ⟨_, rfl, rfl, ⟨F1, f2, f3, OZ.out.set2 _ _, HD.out.set2x _ _⟩, S.out⟩
    ·have HGZ := Lib.hid S.out.size
     go_simp
     have hb : Below y1.heap.size y1 (y1.alloc (.cells #[.complex .f64 0 0, .slice none 0 0] 44)) := (Below.refl _ _).alloc (Nat.le_refl _) _
     have HV := Lib.hid (HV.out.keep (Kept.all hb _) (fun _ h _ => h))
     have OZ := Lib.hid (Ob.made y1 44 #[.complex .f64 0 0, .slice none 0 0])
     have S := Lib.hid (S.out.trans (hb.mono S.out.size))
     refine hK _ _ S.out ?_
     clear hK K hb
     generalize y1.alloc (.cells #[.complex .f64 0 0, .slice none 0 0] 44) = y9 at *
     refine HeadW_ready (rs := [3]) (by kernel_rfl) rfl rfl ?_
     refine AllW.cons rfl (fun K hK => ?_) (AllW.nil)
     go_simp
     refine (evx_any HV.out).mono ?_
     rintro e y10 ⟨A7, rfl, hb, hg⟩
     have HV := Lib.hid (HV.out.keep (Kept.all hb _) (fun _ h _ => h))
     have OZ := Lib.hid (OZ.out.below hb OZ.out.lt)
     have HG := Lib.hid (hg)
     clear hg
     have S := Lib.hid (S.out.trans (hb.mono S.out.size))
     refine hK _ _ S.out ?_
     clear hK K hb
     refine HeadW_ready (rs := [4]) (by kernel_rfl) rfl rfl ?_
     refine AllW.cons rfl (fun K hK => ?_) (AllW.nil)
     have hltz := OZ.out.lt
     go_simp
     refine (EPK.out _ S.out _ HG.out).mono ?_
     rintro e y11 ⟨F1, f2, f3, rfl, hb, hd⟩
     have HV := Lib.hid (HV.out.keep (Kept.all hb _) (fun _ h _ => h))
     have OZ := Lib.hid (OZ.out.below hb OZ.out.lt)
     have HG := Lib.hid (HG.out.keep (Kept.all hb _) (fun _ h _ => h))
     have HD := Lib.hid (hd)
     have HD := Lib.hid (hd.keep (R' := fun b => b ≠ y1.heap.size) (Kept.refl _ _) (fun b hb _ => by have h1 : _ ≤ b := hb; omega))
     clear hd
     have S := Lib.hid (S.out.trans (hb.mono S.out.size))
     refine hK _ _ S.out ?_
     clear hK K hb
     refine HeadW_take (i := 5) (v := ?_) G rfl (by kernel_rfl) (by kernel_rfl) (by kernel_rfl) (fun _ _ _ h => h) (Or.inl ⟨by rfl, ?_⟩) S.out ?_
     rotate_left
     ·intro wz hS
      go_simp
      try with_reducible rfl
     refine HeadW_take (i := 6) (v := ?_) G rfl (by kernel_rfl) (by kernel_rfl) (by kernel_rfl) (fun _ _ _ h => h) (Or.inl ⟨by rfl, ?_⟩) S.out ?_
     rotate_left
     ·intro wz hS
      go_simp
      try with_reducible rfl
     refine HeadW_take (i := 7) (v := ?_) G rfl (by kernel_rfl) (by kernel_rfl) (by kernel_rfl) (fun _ _ _ h => h) (Or.inl ⟨by rfl, ?_⟩) S.out ?_
     rotate_left
     ·intro wz hS
      go_simp
      try with_reducible rfl
     refine HeadW_ready (rs := [9]) (by kernel_rfl) rfl rfl ?_
     refine AllW.cons rfl (fun K hK => ?_) (AllW.nil)
     have r0 := OZ.out.cell 0
     have r1 := OZ.out.cell 1
     have s0 := OZ.out.frozen 0
     have s1 := OZ.out.frozen 1
     go_simp
     have S := Lib.hid (below_set2 S.out HGZ.out (.complex .f64 (fl 2) (fl 2)) (.slice F1 f2 f3))
     refine hK _ _ S.out ?_
     clear hK K
     intro _
     refine ⟨by kernel_rfl, ?_⟩
     simp only [List.drop_succ_cons, List.drop_zero]
     go_wp2_with fail
     go_meet
     case rel => exact ⟨_, rfl, rfl, ⟨F1, f2, f3, OZ.out.set2 _ _, HD.out.set2x _ _⟩, S.out⟩
   ·have HGZ := Lib.hid S.out.size
    go_simp
    have hb : Below y0.heap.size y0 (y0.alloc (.cells #[.complex .f64 0 0, .slice none 0 0] 44)) := (Below.refl _ _).alloc (Nat.le_refl _) _
    have OZ := Lib.hid (Ob.made y0 44 #[.complex .f64 0 0, .slice none 0 0])
    have S := Lib.hid (S.out.trans (hb.mono S.out.size))
    refine hK _ _ S.out ?_
    clear hK K hb
    generalize y0.alloc (.cells #[.complex .f64 0 0, .slice none 0 0] 44) = y13 at *
    refine HeadW_ready (rs := [2]) (by kernel_rfl) rfl rfl ?_
    refine AllW.cons rfl (fun K hK => ?_) (AllW.nil)
    go_simp
    have hb : Below y13.heap.size y13 (y13.alloc (.cells #[.int .i64 3, .int .i64 0, .string ⟨#[97]⟩] 31)) := (Below.refl _ _).alloc (Nat.le_refl _) _
    have OZ := Lib.hid (OZ.out.below hb OZ.out.lt)
    have HV := Lib.hid (ev_lit y13 ⟨3, 0, ⟨#[97]⟩⟩ (by decide +kernel))
    have S := Lib.hid (S.out.trans (hb.mono S.out.size))
    refine hK _ _ S.out ?_
    clear hK K hb
    generalize y13.alloc (.cells #[.int .i64 3, .int .i64 0, .string ⟨#[97]⟩] 31) = y14 at *
    refine HeadW_ready (rs := [3]) (by kernel_rfl) rfl rfl ?_
    refine AllW.cons rfl (fun K hK => ?_) (AllW.nil)
    go_simp
    refine (evx_any HV.out).mono ?_
    rintro e y15 ⟨A7, rfl, hb, hg⟩
    have OZ := Lib.hid (OZ.out.below hb OZ.out.lt)
    have HV := Lib.hid (HV.out.keep (Kept.all hb _) (fun _ h _ => h))
    have HG := Lib.hid (hg)
    clear hg
    have S := Lib.hid (S.out.trans (hb.mono S.out.size))
    refine hK _ _ S.out ?_
    clear hK K hb
    refine HeadW_ready (rs := [4]) (by kernel_rfl) rfl rfl ?_
    refine AllW.cons rfl (fun K hK => ?_) (AllW.nil)
    have hltz := OZ.out.lt
    go_simp
    refine (EPK.out _ S.out _ HG.out).mono ?_
    rintro e y16 ⟨F1, f2, f3, rfl, hb, hd⟩
    have OZ := Lib.hid (OZ.out.below hb OZ.out.lt)
    have HV := Lib.hid (HV.out.keep (Kept.all hb _) (fun _ h _ => h))
    have HG := Lib.hid (HG.out.keep (Kept.all hb _) (fun _ h _ => h))
    have HD := Lib.hid (hd)
    have HD := Lib.hid (hd.keep (R' := fun b => b ≠ y0.heap.size) (Kept.refl _ _) (fun b hb _ => by have h1 : _ ≤ b := hb; omega))
    clear hd
    have S := Lib.hid (S.out.trans (hb.mono S.out.size))
    refine hK _ _ S.out ?_
    clear hK K hb
    refine HeadW_take (i := 5) (v := ?_) G rfl (by kernel_rfl) (by kernel_rfl) (by kernel_rfl) (fun _ _ _ h => h) (Or.inl ⟨by rfl, ?_⟩) S.out ?_
    rotate_left
    ·intro wz hS
     go_simp
     try with_reducible rfl
    refine HeadW_take (i := 6) (v := ?_) G rfl (by kernel_rfl) (by kernel_rfl) (by kernel_rfl) (fun _ _ _ h => h) (Or.inl ⟨by rfl, ?_⟩) S.out ?_
    rotate_left
    ·intro wz hS
     go_simp
     try with_reducible rfl
    refine HeadW_take (i := 7) (v := ?_) G rfl (by kernel_rfl) (by kernel_rfl) (by kernel_rfl) (fun _ _ _ h => h) (Or.inl ⟨by rfl, ?_⟩) S.out ?_
    rotate_left
    ·intro wz hS
     go_simp
     try with_reducible rfl
    refine HeadW_ready (rs := [9]) (by kernel_rfl) rfl rfl ?_
    refine AllW.cons rfl (fun K hK => ?_) (AllW.nil)
    have r0 := OZ.out.cell 0
    have r1 := OZ.out.cell 1
    have s0 := OZ.out.frozen 0
    have s1 := OZ.out.frozen 1
    go_simp
    have S := Lib.hid (below_set2 S.out HGZ.out (.complex .f64 (fl 2) (fl 2)) (.slice F1 f2 f3))
    refine hK _ _ S.out ?_
    clear hK K
    intro _
    refine ⟨by kernel_rfl, ?_⟩
    simp only [List.drop_succ_cons, List.drop_zero]
    go_wp2_with fail
    go_meet
    case rel => exact ⟨_, rfl, rfl, ⟨F1, f2, f3, OZ.out.set2 _ _, HD.out.set2x _ _⟩, S.out⟩
  case rest =>
   obtain ⟨g6, rfl, rfl, hrc, hb⟩ := hcut
   obtain ⟨W5, hW5⟩ : ∃ W5, W5 = wc := ⟨wc, rfl⟩
   subst hW5
   have LD := Dus.lit W5 (R := fun _ => True) [evO1, evO3] (n := 2) rfl (by omega) trivial (fun x hx => by simp at hx; rcases hx with rfl | rfl; exact o1_ok; exact o3_ok)
   have al : Below W5.heap.size W5 (W5.alloc (.cells #[.int .i64 1, .int .i64 1, .string ⟨#[97]⟩, .int .i64 1, .int .i64 3, .string ⟨#[99]⟩] 65)) := (Below.refl _ _).alloc (Nat.le_refl _) _
   have hb5 := below_step hb al
   have LD5 : Hid (Dus (W5.alloc (.cells #[.int .i64 1, .int .i64 1, .string ⟨#[97]⟩, .int .i64 1, .int .i64 3, .string ⟨#[99]⟩] 65)) (fun _ => True) (some ⟨W5.heap.size, 0, none⟩) 2 2 [evO1, evO3]) := LD
   obtain ⟨E1, f1, h1, oa, da⟩ := RA4.out.then_ hb5
   obtain ⟨E2, f2, h2, ob, db⟩ := RB.out.then_ hb5
   obtain ⟨E3, f3, h3, oc, dc⟩ := ResIn.then_ hrc al
   have OA := Lib.hid oa
   have OB := Lib.hid ob
   have OC := Lib.hid oc
   have BW5 := Lib.hid (below_step BW4.out hb5)
   have S1 := Lib.hid (evsame_at rfl mc_p rfl rfl da LD5.out)
   have DB := Lib.hid db
   have DC := Lib.hid dc
   have a0 := OA.out.cell 0
   have a1 := OA.out.cell 1
   clear LD al hb hb5 hrc oa ob oc da db dc RA4 RB OB4 HP4 BW4 EPK OBK
   go_wp2_with fail
   refine S1.out.mono ?_
   rintro e w6 ⟨rfl, hb⟩
   have al : Below w6.heap.size w6 (w6.alloc (.cells #[.int .i64 2, .int .i64 4, .string ⟨#[98]⟩] 65)) := (Below.refl _ _).alloc (Nat.le_refl _) _
   have LD := Dus.lit w6 (R := fun _ => True) [evO2] (n := 1) rfl (by omega) trivial (fun x hx => by simp at hx; subst hx; exact o2_ok)
   have LD6 : Hid (Dus (w6.alloc (.cells #[.int .i64 2, .int .i64 4, .string ⟨#[98]⟩] 65)) (fun _ => True) (some ⟨w6.heap.size, 0, none⟩) 1 1 [evO2]) := LD
   have hb6 := below_step hb al
   have S2 := Lib.hid (evsame_at rfl mc_d rfl rfl (DB.out.keep (Kept.all hb6 _) (fun _ h _ => h)) LD6.out)
   have OB6 := Lib.hid (OB.out.below hb OB.out.lt)
   have OC6 := Lib.hid (OC.out.below hb6 OC.out.lt)
   have DC6 := Lib.hid (DC.out.keep (Kept.all hb6 _) (fun _ h _ => h))
   have BW6 := Lib.hid (below_step BW5.out hb6)
   clear hb al LD hb6 OA OB OC DB DC S1 LD5 BW5 a0 a1
   have b0 := OB6.out.cell 0
   have b1 := OB6.out.cell 1
   go_wp2_with fail
   refine S2.out.mono ?_
   rintro e w7 ⟨rfl, hb⟩
   have OC7 := Lib.hid (OC6.out.below hb OC6.out.lt)
   have S3 := Lib.hid (evsame_at rfl mc_dp rfl rfl (DC6.out.keep (Kept.all hb _) (fun _ h _ => h)) (Rw.nil_ 3 _ w7 (fun _ => True)))
   have BW7 := Lib.hid (below_step BW6.out hb)
   clear hb S2 LD6 OB6 OC6 DC6 BW6 b0 b1
   have c0 := OC7.out.cell 0
   have c1 := OC7.out.cell 1
   go_wp2_with fail
   refine S3.out.mono ?_
   rintro e w8 ⟨rfl, hb⟩
   have BW8 := Lib.hid (below_step BW7.out hb)
   clear hb
   go_wp2_with fail
   go_ret
   exact ⟨rfl, BW8.out⟩
end Go.Proofs.YtmoglaknmlhpgaaGreatDoor

/- Policies as text, plainly (chapter 10). -/
namespace Go.Proofs.YtmoglaknmlhpgaaGreatDoor
set_option linter.unusedVariables false

def catW (n : Int) : List UInt8 := if n = 1 then [115, 117, 98, 106, 101, 99, 116] else if n = 2 then [97, 99, 116, 105, 111, 110] else if n = 3 then [99, 97, 115, 101] else [101, 110, 118]
def algW (n : Int) : List UInt8 := if n = 1 then [100, 101, 110, 121, 111, 118, 101, 114] else if n = 2 then [112, 101, 114, 109, 105, 116, 111, 118, 101, 114] else if n = 3 then [102, 105, 114, 115, 116] else if n = 4 then [111, 110, 108, 121] else if n = 5 then [100, 101, 110, 121, 117, 110, 108, 101, 115, 115] else [112, 101, 114, 109, 105, 116, 117, 110, 108, 101, 115, 115]
def fnW (n : Int) : List UInt8 := if n = 3 then [111, 110, 101] else if n = 4 then [115, 105, 122, 101] else if n = 5 then [104, 97, 115] else if n = 6 then [101, 113] else if n = 7 then [108, 101, 115, 115] else if n = 8 then [97, 100, 100] else if n = 9 then [115, 117, 98] else if n = 10 then [109, 117, 108] else if n = 11 then [110, 111, 116] else if n = 12 then [97, 110, 100] else [111, 114]
def doW (n : Int) : List UInt8 := if n = 1 then [108, 111, 103] else if n = 2 then [114, 101, 100, 97, 99, 116] else if n = 3 then [114, 101, 118, 105, 101, 119] else [110, 111, 116, 105, 102, 121]
def cmpW (n : Int) : List UInt8 := if n = 1 then [61] else if n = 2 then [60] else [62]
def effW (deny : Bool) : List UInt8 := if deny = true then [100, 101, 110, 121] else [112, 101, 114, 109, 105, 116]
def attrT (a : Atr) : List UInt8 := catW a.cat ++ 46 :: (bl a.name ++ if a.must = true then [33] else [])
def attrS (a : Atr) : List UInt8 := if attrB a = true then attrT a else []
def takesT (op : Int) : Nat := if op = 1 ∨ op = 2 then 0 else if op = 3 ∨ op = 4 ∨ op = 11 then 1 else 2
def nodeT (n : Nod) (parts : List (List UInt8)) : List UInt8 :=
 if n.op = 1 then showB n.v else if n.op = 2 then attrS n.a else 40 :: (fnW n.op ++ 32 :: (Lib.join parts [32] ++ [41]))
def stepT (st : List (List UInt8)) (n : Nod) : List (List UInt8) := st.take (st.length - takesT n.op) ++ [nodeT n (st.drop (st.length - takesT n.op))]
def stackT (l : List Nod) : List (List UInt8) := l.foldl stepT []
def exprT (l : List Nod) : List UInt8 := (stackT l).headD []
def exprS (l : List Nod) : List UInt8 := if l ≠ [] ∧ exprE l = 0 then exprT l else []
def matT (m : Mat) : List UInt8 := attrS m.a ++ 32 :: (cmpW m.op ++ 32 :: showB m.v)
def allT (l : List Mat) : List UInt8 := Lib.join (l.map matT) [44, 32]
def anyT (l : List (List Mat)) : List UInt8 := 40 :: (Lib.join (l.map allT) [32, 111, 114, 32] ++ [41])
def tgT (t : Tgt) : List UInt8 := Lib.join (t.map anyT) [32, 97, 110, 100, 32]
def tgW (t : Tgt) : List (List UInt8) := if t = [] then [] else [[119, 104, 101, 110], tgT t]
def dutT (o : Dut) : List UInt8 := [111, 110, 32] ++ (effW (decide (o.on = 2)) ++ 32 :: (doW o.kind ++ 32 :: bl o.arg))
def condW (l : List Nod) : List (List UInt8) := if l = [] then [] else [[105, 102], exprS l]
def rulW (r : Rul) : List (List UInt8) := effW r.deny :: bl r.id :: (tgW r.tg ++ condW r.cond ++ r.ob.map dutT)
def rulT (r : Rul) : List UInt8 := Lib.join (rulW r) [32] ++ [59]
def headW (p : Pol) : List UInt8 := if p.set = true then [115, 101, 116] else [112, 111, 108, 105, 99, 121]
def polW : Nat → Pol → List (List UInt8)
 | 0, _ => []
 | d + 1, p => headW p :: bl p.id :: algW p.alg :: (tgW p.tg ++ [[123]] ++ p.rules.map rulT ++ (p.kids.map (polW d)).flatten ++ [[125]] ++ p.ob.map dutT)
def polT (p : Pol) : List UInt8 := Lib.join (polW 4 p) [32]
def showP (p : Pol) : List UInt8 := if rightE p = 0 then polT p else []
end Go.Proofs.YtmoglaknmlhpgaaGreatDoor
/- The parser, plainly: places don't matter to what is read. -/
namespace Go.Proofs.YtmoglaknmlhpgaaGreatDoor
set_option linter.unusedVariables false

def Tk.z (t : Tk) : Tk := ⟨t.k, 0, t.n, t.s⟩
section
variable {s : Pz}
end
end Go.Proofs.YtmoglaknmlhpgaaGreatDoor
/- ParseBlanks, plainly: blanks ahead and behind change nothing. -/
namespace Go.Proofs.YtmoglaknmlhpgaaGreatDoor
set_option linter.unusedVariables false

end Go.Proofs.YtmoglaknmlhpgaaGreatDoor
