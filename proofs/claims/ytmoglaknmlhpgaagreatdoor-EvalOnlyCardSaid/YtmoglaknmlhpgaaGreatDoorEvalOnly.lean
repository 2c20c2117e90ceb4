/- The law EvalOnly. -/
import Derived.Test.YtmoglaknmlhpgaaGreatDoorOnlk
import Derived.Lib.MinMax
import Derived.Deep.CutRange
namespace Go.Proofs.YtmoglaknmlhpgaaGreatDoor
set_option linter.unusedVariables false
open Go.RowKit
attribute [local go_sem] eq0 feq2 eq4 fgt0 gt2 ord_eq ord_gt ord_lt ev_store

set_option maxRecDepth 100000 in
set_option maxHeartbeats 12800000 in
theorem evalOnly_walk (W : World) (p : Pol) {A1 : Option Addr} {n1 k1 : Nat} {A2 : Option Addr} {n2 k2 : Nat} {A3 : Option Addr} {n3 k3 : Nat} {A4 : Option Addr} {n4 k4 : Nat} (h : PolIn W (fun _ => True) p A1 n1 k1 A2 n2 k2 A3 n3 k3 A4 n4 k4)
  (A5 : Option Addr) (n5 k5 : Nat) (h5 : ∃ l, Gvs W (fun _ => True) A5 n5 k5 l) (v : Vl) (hv : v.ok) (htab : Tbl W) :
  Calls Tryz.prog 3 #[.agg #[.string p.id, .bool p.set, .int .i64 p.alg, .slice A1 n1 k1, .slice A2 n2 k2, .slice A3 n3 k3, .slice A4 n4 k4], .slice A5 n5 k5, v.val] W fun e w' => e = .returned (.bool true) ∧ Below W.heap.size W w' := by
 obtain ⟨ask, hA⟩ := h5
 obtain ⟨vk, vm, vs⟩ := v
 change Calls _ _ #[_, _, .agg #[.int .i64 vk, .int .i64 vm, .string vs]] _ _
 obtain ⟨tn, htn, ht1, ht2⟩ : ∃ tn : Nat, min (vs.size : Int) 80 = (tn : Int) ∧ tn ≤ vs.size ∧ tn ≤ 80 := ⟨min vs.size 80, by omega, by omega, by omega⟩
 have hi1 : (tn : Int) ≤ (vs.size : Int) := by omega
 have hi2 : (0 : Int) ≤ (tn : Int) := by omega
 obtain ⟨b1, hsm⟩ := onsmall h
 obtain ⟨b2, hfw, hf2⟩ := onfew hA
 have SM := Lib.hid hsm
 have HF := Lib.hid hf2
 have HFW := Lib.hid hfw
 have HR1 := Lib.hid (fun (r : Int) (hr : rightA ask = r) => onask hA hr)
 have HR2 := Lib.hid (fun (r : Int) (hr : rightE p = r) => onright h hr)
 have HT := Lib.hid htab
 have HP := Lib.hid h
 have HA := Lib.hid hA
 have HVO : Hid (Vl.ok ⟨vk, vm, vs.extract 0 tn⟩) := ⟨hv.1, hv.2.1, by show (vs.extract 0 tn).size ≤ maxLen; rw [ext_size _ ht1]; unfold maxLen; omega⟩
 have HVS : Hid ((vs.extract 0 tn).size ≤ 1000000) := by show _ ≤ _; rw [ext_size _ ht1]; omega
 have OP0 := Lib.hid ((Ob.made W 28 #[.string p.id, .bool p.set, .int .i64 p.alg, .slice A1 n1 k1, .slice A2 n2 k2, .slice A3 n3 k3, .slice A4 n4 k4]))
 have OV0 := Lib.hid (Ob.made (W.alloc (.cells #[.string p.id, .bool p.set, .int .i64 p.alg, .slice A1 n1 k1, .slice A2 n2 k2, .slice A3 n3 k3, .slice A4 n4 k4] 28)) 31 #[.int .i64 vk, .int .i64 vm, .string vs])
 clear h hA hsm hf2 hfw hv htab
 go_enter Tryz.func3, Tryz.ntmps3
 have cv := OV0.out.c3o
 have fv := OV0.out.frozen 2
 rw [size_al] at cv fv
 go_upto_region 3 with fail
 clear cv fv
 obtain ⟨W3, hW3⟩ : ∃ y, ((((W.alloc (.cells #[.string p.id, .bool p.set, .int .i64 p.alg, .slice A1 n1 k1, .slice A2 n2 k2, .slice A3 n3 k3, .slice A4 n4 k4] 28)).alloc (.cells #[.int .i64 vk, .int .i64 vm, .string (vs.extract 0 tn)] 31)).alloc (.cells #[.int .i64 vk, .int .i64 vm, .string (vs.extract 0 tn)] 31)).alloc (.cells #[.int .i64 4, .string ⟨#[122, 122, 95, 110, 111, 119, 104, 101, 114, 101]⟩, .slice (some ⟨W.heap.size + 1 + 1, 0, none⟩) 1 1] 34)) = y := ⟨_, rfl⟩
 have BW : Hid (Below W.heap.size W W3) := by
  rw [← hW3]
  exact ((((Below.refl W.heap.size W).alloc (Nat.le_refl _) _).alloc (by simp only [size_al]; omega) _).alloc (by simp only [size_al]; omega) _).alloc (by simp only [size_al]; omega) _
 have OP : Hid (Ob W3 W.heap.size 28 #[.string p.id, .bool p.set, .int .i64 p.alg, .slice A1 n1 k1, .slice A2 n2 k2, .slice A3 n3 k3, .slice A4 n4 k4]) := by
  rw [← hW3]
  exact ((OP0.out.keep (Below.heap_alloc _ _ _ (by simp))).keep (Below.heap_alloc _ _ _ (by simp only [size_al]; omega))).keep (Below.heap_alloc _ _ _ (by simp only [size_al]; omega))
 have OG : Hid (Ob W3 (W.heap.size + 1 + 1 + 1) 34 #[.int .i64 4, .string ⟨#[122, 122, 95, 110, 111, 119, 104, 101, 114, 101]⟩, .slice (some ⟨W.heap.size + 1 + 1, 0, none⟩) 1 1]) := by
  rw [← hW3]
  have := Ob.made (((W.alloc (.cells #[.string p.id, .bool p.set, .int .i64 p.alg, .slice A1 n1 k1, .slice A2 n2 k2, .slice A3 n3 k3, .slice A4 n4 k4] 28)).alloc (.cells #[.int .i64 vk, .int .i64 vm, .string (vs.extract 0 tn)] 31)).alloc (.cells #[.int .i64 vk, .int .i64 vm, .string (vs.extract 0 tn)] 31)) 34 #[.int .i64 4, .string ⟨#[122, 122, 95, 110, 111, 119, 104, 101, 114, 101]⟩, .slice (some ⟨W.heap.size + 1 + 1, 0, none⟩) 1 1]
  simp only [size_al] at this
  exact this
 have HV : Hid (Vls W3 (fun _ => True) (some ⟨W.heap.size + 1 + 1, 0, none⟩) 1 1 [⟨vk, vm, vs.extract 0 tn⟩]) := by
  have h1 := ev_lit ((W.alloc (.cells #[.string p.id, .bool p.set, .int .i64 p.alg, .slice A1 n1 k1, .slice A2 n2 k2, .slice A3 n3 k3, .slice A4 n4 k4] 28)).alloc (.cells #[.int .i64 vk, .int .i64 vm, .string (vs.extract 0 tn)] 31)) ⟨vk, vm, vs.extract 0 tn⟩ HVO.out
  have h2 : Below (((W.alloc (.cells #[.string p.id, .bool p.set, .int .i64 p.alg, .slice A1 n1 k1, .slice A2 n2 k2, .slice A3 n3 k3, .slice A4 n4 k4] 28)).alloc (.cells #[.int .i64 vk, .int .i64 vm, .string (vs.extract 0 tn)] 31)).alloc (.cells #[.int .i64 vk, .int .i64 vm, .string (vs.extract 0 tn)] 31)).heap.size (((W.alloc (.cells #[.string p.id, .bool p.set, .int .i64 p.alg, .slice A1 n1 k1, .slice A2 n2 k2, .slice A3 n3 k3, .slice A4 n4 k4] 28)).alloc (.cells #[.int .i64 vk, .int .i64 vm, .string (vs.extract 0 tn)] 31)).alloc (.cells #[.int .i64 vk, .int .i64 vm, .string (vs.extract 0 tn)] 31)) W3 := by rw [← hW3]; exact (Below.refl _ _).alloc (Nat.le_refl _) _
  have h3 := h1.keep (Kept.all h2 _) (fun _ h _ => h)
  simp only [size_al] at h3
  exact h3
 rw [hW3]
 clear hW3 OP0 OV0 htn hi1 hi2 ht1 ht2
 generalize vs.extract 0 tn = t at *
 have hop := OP.out.c7o
 go_wp2_with fail
 refine (SM.out _ BW.out).mono ?_
 rintro e w4 ⟨rfl, hb⟩
 have BW := Lib.hid (below_step BW.out hb)
 have OP := Lib.hid (OP.out.below hb OP.out.lt)
 have OG := Lib.hid (OG.out.below hb OG.out.lt)
 have HV := Lib.hid (HV.out.keep (Kept.all hb _) (fun _ h _ => h))
 clear hb
 clear hop
 cases b1
 ·go_wp2_with fail
  refine (evruns_any _).mono ?_
  rintro e w9 ⟨rfl, hb⟩
  have BW := Lib.hid (below_step BW.out hb)
  clear hb
  go_wp2_with fail
  go_ret
  exact ⟨rfl, BW.out⟩
 go_wp2_with fail
 refine (HF.out _ BW.out).mono ?_
 rintro e w5 ⟨rfl, hb⟩
 have BW := Lib.hid (below_step BW.out hb)
 have OP := Lib.hid (OP.out.below hb OP.out.lt)
 have OG := Lib.hid (OG.out.below hb OG.out.lt)
 have HV := Lib.hid (HV.out.keep (Kept.all hb _) (fun _ h _ => h))
 clear hb
 cases b2
 ·go_wp2_with fail
  refine (evruns_any _).mono ?_
  rintro e w9 ⟨rfl, hb⟩
  have BW := Lib.hid (below_step BW.out hb)
  clear hb
  go_wp2_with fail
  go_ret
  exact ⟨rfl, BW.out⟩
 have hc2 := HFW.out rfl
 have HG := Lib.hid (few_short hc2)
 have HGN := Lib.hid (few_names hc2)
 have HN5 : Hid (n5 ≤ 100000) := by show _ ≤ _; have h1 := few_len hc2; have h2 := Rw.len HA.out; omega
 clear hc2
 by_cases r1 : rightA ask = 0
 rotate_left
 ·obtain ⟨r, hr⟩ : ∃ r, rightA ask = r := ⟨_, rfl⟩
  rw [hr] at r1
  have hrb : (r != 0) = true := by rw [bne_iff_ne]; exact r1
  have HQ := Lib.hid (HR1.out r hr)
  clear hr r1
  go_wp2_with fail
  refine (HQ.out _ BW.out).mono ?_
  rintro e w6 ⟨rfl, hb⟩
  have BW := Lib.hid (below_step BW.out hb)
  clear hb
  go_wp2_with fail
  refine (evruns_any _).mono ?_
  rintro e w9 ⟨rfl, hb⟩
  have BW := Lib.hid (below_step BW.out hb)
  clear hb
  go_wp2_with fail
  go_ret
  exact ⟨rfl, BW.out⟩
 have HQ := Lib.hid (HR1.out 0 r1)
 clear r1
 go_wp2_with fail
 refine (HQ.out _ BW.out).mono ?_
 rintro e w6 ⟨rfl, hb⟩
 have BW := Lib.hid (below_step BW.out hb)
 have OP := Lib.hid (OP.out.below hb OP.out.lt)
 have OG := Lib.hid (OG.out.below hb OG.out.lt)
 have HV := Lib.hid (HV.out.keep (Kept.all hb _) (fun _ h _ => h))
 clear hb
 have hog := OG.out.c3o
 have GV := Lib.hid (one_giv (gZ ⟨vk, vm, t⟩) (gz_ok _) HV.out)
 have al : Below w6.heap.size w6 (w6.alloc (.cells #[.int .i64 4, .string ⟨#[122, 122, 95, 110, 111, 119, 104, 101, 114, 101]⟩, .slice (some ⟨W.heap.size + 1 + 1, 0, none⟩) 1 1] 34)) := (Below.refl _ _).alloc (Nat.le_refl _) _
 have BWG := Lib.hid (below_step BW.out al)
 have GV' : Hid (Gvs (w6.alloc (.cells #[.int .i64 4, .string ⟨#[122, 122, 95, 110, 111, 119, 104, 101, 114, 101]⟩, .slice (some ⟨W.heap.size + 1 + 1, 0, none⟩) 1 1] 34)) (fun _ => True) (some ⟨w6.heap.size, 0, none⟩) 1 1 [gZ ⟨vk, vm, t⟩]) := GV.out
 have HQ2 := Lib.hid (fun (r : Int) (hr : rightA [gZ ⟨vk, vm, t⟩] = r) => onask GV'.out hr)
 have OP := Lib.hid (OP.out.below al OP.out.lt)
 have OG := Lib.hid (OG.out.below al OG.out.lt)
 have HV := Lib.hid (HV.out.keep (Kept.all al _) (fun _ h _ => h))
 have BW := Lib.hid BWG.out
 clear al GV BWG
 by_cases r2 : rightA [gZ ⟨vk, vm, t⟩] = 0
 rotate_left
 ·obtain ⟨r, hr⟩ : ∃ r, rightA [gZ ⟨vk, vm, t⟩] = r := ⟨_, rfl⟩
  rw [hr] at r2
  have hrb : (r != 0) = true := by rw [bne_iff_ne]; exact r2
  have HQ := Lib.hid (HQ2.out r hr)
  clear hr r2
  go_wp2_with fail
  refine (HQ.out _ (Below.refl _ _)).mono ?_
  rintro e w7 ⟨rfl, hb⟩
  have BW := Lib.hid (below_step BW.out hb)
  clear hb
  go_wp2_with fail
  refine (evruns_any _).mono ?_
  rintro e w9 ⟨rfl, hb⟩
  have BW := Lib.hid (below_step BW.out hb)
  clear hb
  go_wp2_with fail
  go_ret
  exact ⟨rfl, BW.out⟩
 have HQ := Lib.hid (HQ2.out 0 r2)
 clear r2
 go_wp2_with fail
 refine (HQ.out _ (Below.refl _ _)).mono ?_
 rintro e w7 ⟨rfl, hb⟩
 have BW := Lib.hid (below_step BW.out hb)
 have OP := Lib.hid (OP.out.below hb OP.out.lt)
 have OG := Lib.hid (OG.out.below hb OG.out.lt)
 have HV := Lib.hid (HV.out.keep (Kept.all hb _) (fun _ h _ => h))
 clear hb
 clear hog GV' HQ2 HQ
 have hop := OP.out.c7o
 by_cases r3 : rightE p = 0
 rotate_left
 ·obtain ⟨r, hr⟩ : ∃ r, rightE p = r := ⟨_, rfl⟩
  rw [hr] at r3
  have hrb : (r != 0) = true := by rw [bne_iff_ne]; exact r3
  have HQ := Lib.hid (HR2.out r hr)
  clear hr r3
  go_wp2_with fail
  refine (HQ.out _ BW.out).mono ?_
  rintro e w8 ⟨rfl, hb⟩
  have BW := Lib.hid (below_step BW.out hb)
  clear hb hop
  go_wp2_with fail
  refine (evruns_any _).mono ?_
  rintro e w9 ⟨rfl, hb⟩
  have BW := Lib.hid (below_step BW.out hb)
  clear hb
  go_wp2_with fail
  go_ret
  exact ⟨rfl, BW.out⟩
 have HQ := Lib.hid (HR2.out 0 r3)
 have HR3 := Lib.hid r3
 clear r3
 go_wp2_with fail
 refine (HQ.out _ BW.out).mono ?_
 rintro e w8 ⟨rfl, hb⟩
 have BW := Lib.hid (below_step BW.out hb)
 have OP := Lib.hid (OP.out.below hb OP.out.lt)
 have OG := Lib.hid (OG.out.below hb OG.out.lt)
 have HV := Lib.hid (HV.out.keep (Kept.all hb _) (fun _ h _ => h))
 clear hb
 clear hop HQ SM HF HFW HR1 HR2
 have hop := OP.out.c7o
 obtain ⟨⟨⟨vp, vd⟩, vob⟩, hev⟩ : ∃ z, evV ask p = z := ⟨_, rfl⟩
 have HEV := Lib.hid hev
 have EP := Lib.hid (fun V (hV : Below W.heap.size W V) => onev HP.out HR3.out HG.out hev V hV (HA.out.keep (Kept.all hV _) (fun _ h _ => h)))
 obtain ⟨x, hx⟩ : ∃ x, (⟨(showP p).toArray⟩ : ByteArray) = x := ⟨_, rfl⟩
 have SH := Lib.hid (onshow HP.out HT.out hx)
 have HX : Hid (bl x = showP p) := by show bl x = showP p; rw [← hx]; rfl
 have hxs : x.size ≤ 1000000000000 := by have h1 := show_size HP.out HR3.out; rw [← hx]; exact h1
 clear hx hev
 go_wp2_with fail
 refine (EP.out _ BW.out).mono ?_
 rintro e w9 ⟨E1, e2, e3, rfl, hb, hd⟩
 have al : Below w9.heap.size w9 (w9.alloc (.cells #[.complex .f64 (fl vp) (fl vd), .slice E1 e2 e3] 44)) := (Below.refl _ _).alloc (Nat.le_refl _) _
 have hb2 := below_step hb al
 have OA := Lib.hid (Ob.made w9 44 #[.complex .f64 (fl vp) (fl vd), .slice E1 e2 e3])
 have DA := Lib.hid (hd.keep (R' := fun _ => True) (Kept.all al _) (fun _ _ _ => trivial))
 have BW := Lib.hid (below_step BW.out hb2)
 have OP := Lib.hid (OP.out.below hb2 OP.out.lt)
 have OG := Lib.hid (OG.out.below hb2 OG.out.lt)
 have HV := Lib.hid (HV.out.keep (Kept.all hb2 _) (fun _ h _ => h))
 clear hb hb2 al hd hop
 have hop := OP.out.c7o
 go_wp2_with fail
 refine (SH.out _ BW.out).mono ?_
 rintro e w10 ⟨rfl, hb⟩
 have OA := Lib.hid (OA.out.below hb OA.out.lt)
 have DA := Lib.hid (DA.out.keep (Kept.all hb _) (fun _ h _ => h))
 have BW := Lib.hid (below_step BW.out hb)
 have OP := Lib.hid (OP.out.below hb OP.out.lt)
 have OG := Lib.hid (OG.out.below hb OG.out.lt)
 have HV := Lib.hid (HV.out.keep (Kept.all hb _) (fun _ h _ => h))
 clear hb hop SH
 go_wp2_with fail
 go_loopw [11] (fun i wr => ∃ k : Nat, k ≤ x.size ∧ i = .int .i64 k ∧ NoTo zzL (bl x) k ∧ Below w10.heap.size w10 wr) (fun i _ => x.size - (intOf i).toNat)
 case atStart => exact ⟨0, Nat.zero_le _, rfl, NoTo.zero _ _, Below.refl _ _⟩
 case round =>
  obtain ⟨k, hk, rfl, hno, hb⟩ := hrel
  have HNO := Lib.hid hno
  have HB := Lib.hid hb
  clear hno hb
  by_cases hlt : k + 10 ≤ x.size
  ·obtain ⟨j, hj, hjn⟩ : ∃ j : Nat, (k : Int) + 10 = (j : Int) ∧ j = k + 10 := ⟨k + 10, by omega, rfl⟩
   have hq1 : (j : Int) ≤ (x.size : Int) := by omega
   have hq2 : (k : Int) ≤ (j : Int) := by omega
   have hzb : ((x.extract k j).toList == ([122, 122, 95, 110, 111, 119, 104, 101, 114, 101] : List UInt8)) = _ := zz_beq (x.extract k j)
   rw [show bl (x.extract k j) = ((bl x).drop k).take zzL.length by rw [hjn]; exact zz_at x k] at hzb
   have hkb : k + 1 ≤ x.size := by omega
   clear hjn
   by_cases hz : ((bl x).drop k).take zzL.length = zzL
   ·rw [decide_eq_true hz] at hzb
    clear hz
    go_wp2_with fail
    refine (evruns_any _).mono ?_
    rintro e w11 ⟨rfl, hb⟩
    have BW := Lib.hid (below_step BW.out (below_step HB.out hb))
    clear hb
    go_wp2_with fail
    go_ret
    exact ⟨rfl, BW.out⟩
   ·rw [decide_eq_false hz] at hzb
    have HZ := Lib.hid (HNO.out.step hz)
    clear hz
    go_wp2_with fail
    go_roundw
    case rel => exact ⟨k + 1, by omega, by go_num, HZ.out, HB.out⟩
    case measure => simp [intOf]; omega
  ·have hq1 : ¬ (k : Int) + 10 ≤ (x.size : Int) := by omega
   have HFREE : Hid (¬ zzL <:+: showP p) := by
    show ¬ _
    rw [← HX.out]
    exact HNO.out.all (by show (bl x).length < k + 10; have e : (bl x).length = x.size := rfl; omega)
   have HSAME : Hid (evV (withA ask (gZ ⟨vk, vm, t⟩)) p = ⟨(vp, vd), vob⟩) := (only_same (g := gZ ⟨vk, vm, t⟩) ask HR3.out HFREE.out).trans HEV.out
   go_upto_region 12 with fail
   have OP := Lib.hid (OP.out.below HB.out OP.out.lt)
   have OG := Lib.hid (OG.out.below HB.out OG.out.lt)
   have OA := Lib.hid (OA.out.below HB.out OA.out.lt)
   have DA := Lib.hid (DA.out.keep (Kept.all HB.out _) (fun _ h _ => h))
   have BW := Lib.hid (below_step BW.out HB.out)
   have HV := Lib.hid (HV.out.keep (Kept.all HB.out _) (fun _ h _ => h))
   obtain ⟨W6, hW6⟩ : ∃ y, y = wr := ⟨wr, rfl⟩
   subst hW6
   have OPK := Lib.hid (fun V (hV : Below W6.heap.size W6 V) => (OP.out.below hV OP.out.lt).c7o)
   have OGK := Lib.hid (fun V (hV : Below W6.heap.size W6 V) => (OG.out.below hV OG.out.lt).c3o)
   have HSG : Hid (Shorts (gZ ⟨vk, vm, t⟩).bag) := fun z hz => by have e : z = ⟨vk, vm, t⟩ := List.mem_singleton.1 hz; subst e; exact HVS.out
   have CW := Lib.hid (fun V (hV : Below W6.heap.size W6 V) => awith_any (w := V) (gZ ⟨vk, vm, t⟩) (HA.out.keep (Kept.all (below_step BW.out hV) _) (fun _ h _ => h)) HG.out HGN.out HN5.out (gz_ok _) (HV.out.keep (Kept.all hV _) (fun _ h _ => h)) HSG.out (by decide) (by show zzB.size ≤ 1000000; decide))
   have EPK := Lib.hid (fun V (hV : Below W6.heap.size W6 V) (A : Option Addr) (n c : Nat) (R2 : Nat → Prop) (hg : Gvs V R2 A n c (withA ask (gZ ⟨vk, vm, t⟩))) => onev HP.out HR3.out (with_short (g := gZ ⟨vk, vm, t⟩) HG.out ⟨HSG.out, by show (1 : Nat) ≤ 100000; omega⟩) HSAME.out V (below_step BW.out hV) hg)
   go_cut [12, 13] from 72 to 79 (fun u v wx => ∃ g, u = .pointer (some ⟨g, 0, none⟩) ∧ v = .int .i64 0 ∧ ResIn wx g (vp, vd) vob ∧ Below W6.heap.size W6 wx)
   case first =>
    refine wp_region_held_tail (fun w' => Below W6.heap.size W6 w') 10 (by kernel_rfl) (by kernel_rfl) ?_
    intro G
    change HeadW _ _ _ _ _ _ _ _ _ _ (W6.drewN 1)
    have S := Lib.hid (below_drewN (Below.refl W6.heap.size W6) 1)
    generalize W6.drewN 1 = y0 at *
    refine HeadW_take (i := 0) (v := ?_) G rfl (by kernel_rfl) (by kernel_rfl) (by kernel_rfl) (fun _ _ _ h => h) (Or.inl ⟨by rfl, ?_⟩) S.out ?_
    rotate_left
    ·intro wz hS
     have hk := OPK.out _ hS
     go_simp
     try with_reducible rfl
    refine HeadW_take (i := 1) (v := ?_) G rfl (by kernel_rfl) (by kernel_rfl) (by kernel_rfl) (fun _ _ _ h => h) (Or.inl ⟨by rfl, ?_⟩) S.out ?_
    rotate_left
    ·intro wz hS
     go_simp
     try with_reducible rfl
    refine HeadW_take (i := 2) (v := ?_) G rfl (by kernel_rfl) (by kernel_rfl) (by kernel_rfl) (fun _ _ _ h => h) (Or.inl ⟨by rfl, ?_⟩) S.out ?_
    rotate_left
    ·intro wz hS
     have hk := OGK.out _ hS
     go_simp
     try with_reducible rfl
    refine HeadW_ready (rs := [3, 8]) (by kernel_rfl) rfl rfl ?_
    refine AllW.cons rfl (fun K hK => ?_) (AllW.cons rfl (fun K hK => ?_) (AllW.nil))
    ·go_simp
     refine (CW.out _ S.out).mono ?_
     rintro e y1 ⟨A8, n8, c8, rfl, hb, hn8, hgr⟩
     have HGW := Lib.hid (Gr.gvs hgr (by have := HN5.out; omega))
     clear hgr hn8
     have S := Lib.hid (S.out.trans (hb.mono S.out.size))
     refine hK _ _ S.out ?_
     clear hK K hb
     refine HeadW_ready (rs := [4, 8]) (by kernel_rfl) rfl rfl ?_
     refine AllW.cons rfl (fun K hK => ?_) (AllW.cons rfl (fun K hK => ?_) (AllW.nil))
     ·go_simp
      refine (EPK.out _ S.out _ _ _ _ HGW.out).mono ?_
      rintro e y2 ⟨F1, f2, f3, rfl, hb, hd⟩
      have HGW := Lib.hid (HGW.out.keep (Kept.all hb _) (fun _ h _ => h))
      have HD := Lib.hid (hd)
      clear hd
      have S := Lib.hid (S.out.trans (hb.mono S.out.size))
      refine hK _ _ S.out ?_
      clear hK K hb
      refine HeadW_take (i := 5) (v := ?_) G rfl (by kernel_rfl) (by kernel_rfl) (by kernel_rfl) (fun _ _ _ h => h) (Or.inl ⟨by rfl, ?_⟩) S.out ?_
      rotate_left
      ·intro wz hS
       go_simp
       try with_reducible rfl
      refine HeadW_take (i := 6) (v := ?_) G rfl (by kernel_rfl) (by kernel_rfl) (by kernel_rfl) (fun _ _ _ h => h) (Or.inl ⟨by rfl, ?_⟩) S.out ?_
      rotate_left
      ·intro wz hS
       go_simp
       try with_reducible rfl
      refine HeadW_take (i := 7) (v := ?_) G rfl (by kernel_rfl) (by kernel_rfl) (by kernel_rfl) (fun _ _ _ h => h) (Or.inl ⟨by rfl, ?_⟩) S.out ?_
      rotate_left
      ·intro wz hS
       go_simp
       try with_reducible rfl
      refine HeadW_ready (rs := [8]) (by kernel_rfl) rfl rfl ?_
      refine AllW.cons rfl (fun K hK => ?_) (AllW.nil)
      have HGZ := Lib.hid S.out.size
      have HD := Lib.hid (HD.out.keep (R' := fun b => b < y2.heap.size) (Kept.refl _ _) (fun b _ hlt => hlt))
      go_simp
      have hb : Below y2.heap.size y2 (y2.alloc (.cells #[.complex .f64 0 0, .slice none 0 0] 44)) := (Below.refl _ _).alloc (Nat.le_refl _) _
      have HGW := Lib.hid (HGW.out.keep (Kept.all hb _) (fun _ h _ => h))
      have HD := Lib.hid (HD.out.keep (Kept.all hb _) (fun _ h _ => h))
      have OZ := Lib.hid (Ob.made y2 44 #[.complex .f64 0 0, .slice none 0 0])
      have HD := Lib.hid (HD.out.keep (R' := fun b => b ≠ y2.heap.size) (Kept.refl _ _) (fun b hb _ => by have h1 : b < y2.heap.size := hb; omega))
      have S := Lib.hid (S.out.trans (hb.mono S.out.size))
      refine hK _ _ S.out ?_
      clear hK K hb
      generalize y2.alloc (.cells #[.complex .f64 0 0, .slice none 0 0] 44) = y3 at *
      refine HeadW_ready (rs := [9]) (by kernel_rfl) rfl rfl ?_
      refine AllW.cons rfl (fun K hK => ?_) (AllW.nil)
      have r0 := OZ.out.cell 0
      have r1 := OZ.out.cell 1
      have s0 := OZ.out.frozen 0
      have s1 := OZ.out.frozen 1
      go_simp
      have S := Lib.hid (below_set2 S.out HGZ.out (.complex .f64 (fl vp) (fl vd)) (.slice F1 f2 f3))
      refine hK _ _ S.out ?_
      clear hK K
      intro _
      refine ⟨by kernel_rfl, ?_⟩
      simp only [List.drop_succ_cons, List.drop_zero]
      go_wp2_with fail
      go_meet
      case rel => exact ⟨_, rfl, rfl, ⟨F1, f2, f3, OZ.out.set2 _ _, HD.out.set2x _ _⟩, S.out⟩
     ·have HGZ := Lib.hid S.out.size
      go_simp
      have hb : Below y1.heap.size y1 (y1.alloc (.cells #[.complex .f64 0 0, .slice none 0 0] 44)) := (Below.refl _ _).alloc (Nat.le_refl _) _
      have HGW := Lib.hid (HGW.out.keep (Kept.all hb _) (fun _ h _ => h))
      have OZ := Lib.hid (Ob.made y1 44 #[.complex .f64 0 0, .slice none 0 0])
      have S := Lib.hid (S.out.trans (hb.mono S.out.size))
      refine hK _ _ S.out ?_
      clear hK K hb
      generalize y1.alloc (.cells #[.complex .f64 0 0, .slice none 0 0] 44) = y5 at *
      refine HeadW_ready (rs := [4]) (by kernel_rfl) rfl rfl ?_
      refine AllW.cons rfl (fun K hK => ?_) (AllW.nil)
      have hltz := OZ.out.lt
      go_simp
      refine (EPK.out _ S.out _ _ _ _ HGW.out).mono ?_
      rintro e y6 ⟨F1, f2, f3, rfl, hb, hd⟩
      have HGW := Lib.hid (HGW.out.keep (Kept.all hb _) (fun _ h _ => h))
      have OZ := Lib.hid (OZ.out.below hb OZ.out.lt)
      have HD := Lib.hid (hd)
      have HD := Lib.hid (hd.keep (R' := fun b => b ≠ y1.heap.size) (Kept.refl _ _) (fun b hb _ => by have h1 : _ ≤ b := hb; omega))
      clear hd
      have S := Lib.hid (S.out.trans (hb.mono S.out.size))
      refine hK _ _ S.out ?_
      clear hK K hb
      refine HeadW_take (i := 5) (v := ?_) G rfl (by kernel_rfl) (by kernel_rfl) (by kernel_rfl) (fun _ _ _ h => h) (Or.inl ⟨by rfl, ?_⟩) S.out ?_
      rotate_left
      ·intro wz hS
       go_simp
       try with_reducible rfl
      refine HeadW_take (i := 6) (v := ?_) G rfl (by kernel_rfl) (by kernel_rfl) (by kernel_rfl) (fun _ _ _ h => h) (Or.inl ⟨by rfl, ?_⟩) S.out ?_
      rotate_left
      ·intro wz hS
       go_simp
       try with_reducible rfl
      refine HeadW_take (i := 7) (v := ?_) G rfl (by kernel_rfl) (by kernel_rfl) (by kernel_rfl) (fun _ _ _ h => h) (Or.inl ⟨by rfl, ?_⟩) S.out ?_
      rotate_left
      ·intro wz hS
       go_simp
       try with_reducible rfl
      refine HeadW_ready (rs := [9]) (by kernel_rfl) rfl rfl ?_
      refine AllW.cons rfl (fun K hK => ?_) (AllW.nil)
      have r0 := OZ.out.cell 0
      have r1 := OZ.out.cell 1
      have s0 := OZ.out.frozen 0
      have s1 := OZ.out.frozen 1
      go_simp
      have S := Lib.hid (below_set2 S.out HGZ.out (.complex .f64 (fl vp) (fl vd)) (.slice F1 f2 f3))
      refine hK _ _ S.out ?_
      clear hK K
      intro _
      refine ⟨by kernel_rfl, ?_⟩
      simp only [List.drop_succ_cons, List.drop_zero]
      go_wp2_with fail
      go_meet
      case rel => exact ⟨_, rfl, rfl, ⟨F1, f2, f3, OZ.out.set2 _ _, HD.out.set2x _ _⟩, S.out⟩
    ·have HGZ := Lib.hid S.out.size
     go_simp
     have hb : Below y0.heap.size y0 (y0.alloc (.cells #[.complex .f64 0 0, .slice none 0 0] 44)) := (Below.refl _ _).alloc (Nat.le_refl _) _
     have OZ := Lib.hid (Ob.made y0 44 #[.complex .f64 0 0, .slice none 0 0])
     have S := Lib.hid (S.out.trans (hb.mono S.out.size))
     refine hK _ _ S.out ?_
     clear hK K hb
     generalize y0.alloc (.cells #[.complex .f64 0 0, .slice none 0 0] 44) = y8 at *
     refine HeadW_ready (rs := [3]) (by kernel_rfl) rfl rfl ?_
     refine AllW.cons rfl (fun K hK => ?_) (AllW.nil)
     go_simp
     refine (CW.out _ S.out).mono ?_
     rintro e y9 ⟨A8, n8, c8, rfl, hb, hn8, hgr⟩
     have OZ := Lib.hid (OZ.out.below hb OZ.out.lt)
     have HGW := Lib.hid (Gr.gvs hgr (by have := HN5.out; omega))
     clear hgr hn8
     have S := Lib.hid (S.out.trans (hb.mono S.out.size))
     refine hK _ _ S.out ?_
     clear hK K hb
     refine HeadW_ready (rs := [4]) (by kernel_rfl) rfl rfl ?_
     refine AllW.cons rfl (fun K hK => ?_) (AllW.nil)
     have hltz := OZ.out.lt
     go_simp
     refine (EPK.out _ S.out _ _ _ _ HGW.out).mono ?_
     rintro e y10 ⟨F1, f2, f3, rfl, hb, hd⟩
     have OZ := Lib.hid (OZ.out.below hb OZ.out.lt)
     have HGW := Lib.hid (HGW.out.keep (Kept.all hb _) (fun _ h _ => h))
     have HD := Lib.hid (hd)
     have HD := Lib.hid (hd.keep (R' := fun b => b ≠ y0.heap.size) (Kept.refl _ _) (fun b hb _ => by have h1 : _ ≤ b := hb; omega))
     clear hd
     have S := Lib.hid (S.out.trans (hb.mono S.out.size))
     refine hK _ _ S.out ?_
     clear hK K hb
     refine HeadW_take (i := 5) (v := ?_) G rfl (by kernel_rfl) (by kernel_rfl) (by kernel_rfl) (fun _ _ _ h => h) (Or.inl ⟨by rfl, ?_⟩) S.out ?_
     rotate_left
     ·intro wz hS
      go_simp
      try with_reducible rfl
     refine HeadW_take (i := 6) (v := ?_) G rfl (by kernel_rfl) (by kernel_rfl) (by kernel_rfl) (fun _ _ _ h => h) (Or.inl ⟨by rfl, ?_⟩) S.out ?_
     rotate_left
     ·intro wz hS
      go_simp
      try with_reducible rfl
     refine HeadW_take (i := 7) (v := ?_) G rfl (by kernel_rfl) (by kernel_rfl) (by kernel_rfl) (fun _ _ _ h => h) (Or.inl ⟨by rfl, ?_⟩) S.out ?_
     rotate_left
     ·intro wz hS
      go_simp
      try with_reducible rfl
     refine HeadW_ready (rs := [9]) (by kernel_rfl) rfl rfl ?_
     refine AllW.cons rfl (fun K hK => ?_) (AllW.nil)
     have r0 := OZ.out.cell 0
     have r1 := OZ.out.cell 1
     have s0 := OZ.out.frozen 0
     have s1 := OZ.out.frozen 1
     go_simp
     have S := Lib.hid (below_set2 S.out HGZ.out (.complex .f64 (fl vp) (fl vd)) (.slice F1 f2 f3))
     refine hK _ _ S.out ?_
     clear hK K
     intro _
     refine ⟨by kernel_rfl, ?_⟩
     simp only [List.drop_succ_cons, List.drop_zero]
     go_wp2_with fail
     go_meet
     case rel => exact ⟨_, rfl, rfl, ⟨F1, f2, f3, OZ.out.set2 _ _, HD.out.set2x _ _⟩, S.out⟩
   case rest =>
    obtain ⟨g7, rfl, rfl, hrb, hb⟩ := hcut
    obtain ⟨E2, f2, h2, ob, db⟩ := hrb
    have OA := Lib.hid (OA.out.below hb OA.out.lt)
    have DA := Lib.hid (DA.out.keep (Kept.all hb _) (fun _ h _ => h))
    have BW := Lib.hid (below_step BW.out hb)
    have DB := Lib.hid db
    have OB := Lib.hid ob
    have coa := OA.out.c2o
    have cob := OB.out.c2o
    clear hb db ob EPK CW OPK OGK
    go_wp2_with fail
    refine (evsame_any vp vd DA.out DB.out).mono ?_
    rintro e w12 ⟨rfl, hb⟩
    have BW := Lib.hid (below_step BW.out hb)
    clear hb coa cob
    go_wp2_with fail
    refine (evruns_any _).mono ?_
    rintro e w13 ⟨rfl, hb⟩
    have BW := Lib.hid (below_step BW.out hb)
    clear hb
    go_wp2_with fail
    go_ret
    exact ⟨rfl, BW.out⟩
end Go.Proofs.YtmoglaknmlhpgaaGreatDoor
