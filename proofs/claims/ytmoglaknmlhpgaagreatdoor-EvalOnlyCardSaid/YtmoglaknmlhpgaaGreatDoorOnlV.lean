/- Several texts in one: Parse10. -/
import Derived.Test.YtmoglaknmlhpgaaGreatDoorOnlU
/- The parser: policies. -/
namespace Go.Proofs.YtmoglaknmlhpgaaGreatDoor
set_option linter.unusedVariables false
open Go.RowKit

theorem policy_ret {fn : Func} {t : Tmp} {tmps : Array Value} {w : World} {g : Nat} {cs : Array Value} (h : fn.results = #[.cell t 28]) (hp : tmps.getD t undef = .pointer (some ⟨g, 0, none⟩)) (hg : Ob w g 28 cs) (h3 : cs.size = 7) :
  (results fn tmps).run Tryz.prog w = .ok (.agg cs) w := results_cell_row h tmps w g _ _ (0, 0) _ hp hg Tryz.underlying28 rfl (by rw [h3]; kernel_rfl)
def PolOf (w w' : World) (f : Nat) (p : Pol) (x : Value) : Prop := ∃ A1 n1 c1 A2 n2 c2 A3 n3 c3 A4 n4 c4, x = .agg #[.string p.id, .bool p.set, .int .i64 p.alg, .slice A1 n1 c1, .slice A2 n2 c2, .slice A3 n3 c3, .slice A4 n4 c4] ∧
 PolAt w' (fun b => w.heap.size ≤ b) f [.string p.id, .bool p.set, .int .i64 p.alg, .slice A1 n1 c1, .slice A2 n2 c2, .slice A3 n3 c3, .slice A4 n4 c4] p
def POk (L g f : Nat) : Prop := ∀ (w : World) (s : Pz) (dd : Int), dd = 5 - (f : Int) → f ≤ 4 → Rd L w g s → s.met + s.rest.length ≤ 5990 →
 Calls Tryz.prog 61 #[.pointer (some ⟨g, 0, none⟩), .int .i64 dd] w fun x w' => ∃ y, x = .returned y ∧ Only g w w' ∧ Rd L w' g (polR (f + 1) s).2 ∧ PolOf w w' (f + 1) (polR (f + 1) s).1 y
theorem kidsR_stop {po : Pz → Pol × Pz} {n : Nat} {l : List Pol} {s : Pz} (h : seesR [w_policy, w_set] s = 0) : kidsR po (n + 1) l s = (l, s) := by
 unfold kidsR
 rw [if_pos h]
theorem kidsR_succ {po : Pz → Pol × Pz} {n : Nat} {l : List Pol} {s s1 s3 : Pz} {u : Pol} {m : Int} (h : seesR [w_policy, w_set] s ≠ 0) (hm : (l.length : Int) + 1 = m) (h1 : mostR m 16 s = s1) (h3 : po s1 = (u, s3)) : kidsR po (n + 1) l s = kidsR po n (l ++ [u]) s3 := by
 conv => lhs; unfold kidsR
 rw [if_neg h]
 simp only [hm, h1, h3]
section
variable {L g : Nat} {w : World} {s : Pz}
set_option maxHeartbeats 3200000 in
theorem pkids_any (h : Rd L w g s) (hsum : s.met + s.rest.length ≤ 5990) {f' : Nat} (hf : f' ≤ 3) (ih : POk L g f') (dd : Int) (hdd : dd = 5 - (f' : Int)) : Calls Tryz.prog 93 #[.pointer (some ⟨g, 0, none⟩), .int .i64 dd] w fun x w' => ∃ A n c, x = .returned (.slice A n c) ∧ Only g w w' ∧ Rd L w' g (kidsR (polR (f' + 1)) s.rest.length [] s).2 ∧ Pls w' (fun b => w.heap.size ≤ b) (f' + 1) A n c (kidsR (polR (f' + 1)) s.rest.length [] s).1 := by
 have HG0 : Hid (g < w.heap.size) := h.lt
 have HL0 : Hid (s.rest.length ≤ 5000) := h.ok.2.2.1.1
 have HH := Lib.hid h
 have HS := Lib.hid hsum
 have HIH : Hid (∀ (w : World) (s : Pz), Rd L w g s → s.met + s.rest.length ≤ 5990 →
   Calls Tryz.prog 61 #[.pointer (some ⟨g, 0, none⟩), .int .i64 dd] w fun x w' => ∃ y, x = .returned y ∧ Only g w w' ∧ Rd L w' g (polR (f' + 1) s).2 ∧ PolOf w w' (f' + 1) (polR (f' + 1) s).1 y) := fun w s h hs => ih w s dd hdd (by omega) h hs
 obtain ⟨z, hz⟩ : ∃ z, z = kidsR (polR (f' + 1)) s.rest.length [] s := ⟨_, rfl⟩
 have HZ : Hid (z = kidsR (polR (f' + 1)) s.rest.length [] s) := hz
 rw [← hz]
 have HPG := Lib.hid (pol_go (L := L) f')
 clear h hz hsum ih hdd
 go_enter Tryz.func93, Tryz.ntmps93
 go_wp2
 go_loopw [5] (fun v wr => ∃ (k : Nat) (A : Option Addr) (c : Nat) (l : List Pol) (s' : Pz) (q : Nat), v = .slice A k c ∧ Only g w wr ∧ Rd L wr g s' ∧ Gr 7 (fun w R => PolAt w R (f' + 1)) wr w.heap.size 28 A k c l ∧ k + s'.rest.length ≤ s.rest.length ∧ s'.rest.length ≤ q ∧ s'.met + s'.rest.length ≤ 5990 ∧ kidsR (polR (f' + 1)) q l s' = z) (fun v wr => restN wr g)
 case atStart => exact ⟨0, none, 0, [], s, s.rest.length, rfl, Only.refl, HH.out, Gr.nil _ _ (Nat.le_refl _), by omega, Nat.le_refl _, HS.out, HZ.out.symm⟩
 case round =>
  obtain ⟨k, A, c, l, s', q, rfl, ho, hr, hg, hk, hq, hs, he⟩ := hrel
  have HOw := Lib.hid ho
  have HR0 := Lib.hid hr
  have HGr := Lib.hid hg
  have HK := Lib.hid hk
  have HQ := Lib.hid hq
  have HSM := Lib.hid hs
  have hq1 := hr.ok.pos
  obtain ⟨q, rfl⟩ : ∃ q', q = q' + 1 := ⟨q - 1, by omega⟩
  have HRN := Lib.hid hr.restN
  by_cases hi : seesR [w_policy, w_set] s' = 0
  ·have HE := Lib.hid ((kidsR_stop hi).symm.trans he)
   have HI := Lib.hid hi
   clear ho hr hg hk hq hs he hi hq1
   go_wp2_with fail
   go_at_call 123
   refine (psees_lit HR0.out [w_policy, w_set] #[.string ⟨#[112, 111, 108, 105, 99, 121]⟩, .string ⟨#[115, 101, 116]⟩] 2 rfl rfl (by omega) rfl).mono ?_
   rintro x u1 ⟨hx, hb⟩
   obtain rfl : x = .returned (.int .i64 ((0 : Nat) : Int)) := by rw [hx, HI.out] <;> rfl
   have HB := Lib.hid hb
   clear hx hb
   go_wp2_with fail
   go_ret
   rw [← HE.out]
   exact ⟨A, k, c, rfl, HOw.out.then_ HB.out, HR0.out.then_ HB.out, Pls.keep ((Gr.below (keeps_pol (f' + 1)) HGr.out HB.out).rw (keeps_pol (f' + 1)) (by have := HL0.out; have := HK.out; omega)) (Kept.refl _ _) (fun _ h _ => h)⟩
  ·obtain ⟨s1, e1⟩ : ∃ y, mostR ((k : Int) + 1) 16 s' = y := ⟨_, rfl⟩
   obtain ⟨u, s3, e3⟩ : ∃ x y, polR (f' + 1) s1 = (x, y) := ⟨_, _, rfl⟩
   have HE := Lib.hid ((kidsR_succ hi (by rw [hg.len]) e1 e3).symm.trans he)
   obtain ⟨r4, r5, r6⟩ := round_kid HPG.out hr.ok hs hi ((k : Int) + 1)
   have r7 := most_sum hr.ok ((k : Int) + 1) 16
   rw [e1] at r7
   rw [e1, e3] at r4 r5 r6
   have HTL : Hid (s3.rest.length + 1 ≤ s'.rest.length ∧ s3.met + s3.rest.length ≤ s'.met + s'.rest.length ∧ s1.met + s1.rest.length ≤ 5990) := ⟨r5, r6, by omega⟩
   have hk63 : k < 1000000 := by have := HL0.out; omega
   have HI := Lib.hid (show 0 < seesR [w_policy, w_set] s' by omega)
   have E1 := Lib.hid e1
   have E3 := Lib.hid e3
   clear ho hr hg hk hq hs he hi hq1 e1 e3 r4 r5 r6 r7
   generalize hsv : seesR [w_policy, w_set] s' = sv at *
   have HSV := Lib.hid hsv
   have hsv2 : decide ((0 : Int) < (sv : Int)) = true := decide_eq_true (by have := HI.out; omega)
   clear hsv
   go_wp2_with fail
   go_at_call 123
   refine (psees_lit HR0.out [w_policy, w_set] #[.string ⟨#[112, 111, 108, 105, 99, 121]⟩, .string ⟨#[115, 101, 116]⟩] 2 rfl rfl (by omega) rfl).mono ?_
   rintro x u1 ⟨hx, hb⟩
   obtain rfl : x = .returned (.int .i64 (sv : Int)) := by rw [hx, HSV.out] <;> rfl
   have HR1 := Lib.hid (HR0.out.then_ hb)
   have G1 := Lib.hid (Gr.below (keeps_pol (f' + 1)) HGr.out hb)
   have O1 := Lib.hid (HOw.out.then_ hb)
   clear hx hb
   go_wp2_with fail
   go_at_call 89
   refine (pmost_any HR1.out ((k : Int) + 1) 16).mono ?_
   rintro x u2 ⟨rfl, ho, hr⟩
   rw [E1.out] at hr
   have O3 := Lib.hid (O1.out.trans ho)
   have HR3 := Lib.hid hr
   have G3 := Lib.hid (Gr.only (keeps_pol (f' + 1)) G1.out ho HG0.out)
   clear ho hr
   go_wp2_with fail
   go_at_call 61
   refine (HIH.out _ s1 HR3.out HTL.out.2.2).mono ?_
   rintro x u4 ⟨y, rfl, ho, hr, A1, n1, c1, A2, n2, c2, A3, n3, c3, A4, n4, c4, rfl, hp⟩
   rw [E3.out] at hr hp
   rw [E3.out]
   have hgr := Gr.only (keeps_pol (f' + 1)) G3.out ho HG0.out
   have ap : ∀ b, u2.heap.size ≤ b → Nb w.heap.size (.slice A k c) b := fun b hb => G3.out.apart b hb
   obtain ⟨A5, c5, u5, r5, g5, b5⟩ := push_pol hgr (PolAt.keep (Kept.refl _ _) (fun b hb _ => ap b hb) hp) hk63
   have O5 := Lib.hid ((O3.out.trans ho).below_at b5)
   have HR5 := Lib.hid (hr.below b5 HG0.out)
   have R5 := Lib.hid r5
   have G5 := Lib.hid g5
   clear ho hr hp hgr ap r5 g5 b5
   go_wp2_with (at_builtin; refine wpList_append_run (o := ⟨some 20, _, _, _, _, _⟩) rfl _ _ _ _ rfl rfl rfl R5.out ?_)
   go_roundw
   case rel => exact ⟨k + 1, A5, c5, l ++ [u], s3, q, rfl, O5.out, HR5.out, G5.out, by have := HTL.out; have := HK.out; omega, by have := HTL.out; have := HQ.out; omega, by have := HTL.out; have := HSM.out; omega, HE.out⟩
   case measure => rw [HR5.out.restN, HRN.out]; have := HTL.out; omega
theorem mustR_in (ws : List ByteArray) (s : Pz) (h : ws.length ≤ 100) : InI ((mustR ws s).1 : Int) := by
 have := mustR_le ws s
 exact in_small (by omega) (by omega)
set_option maxHeartbeats 6400000 in
theorem pol_read (f : Nat) (ih : ∀ f', f = f' + 1 → POk L g f') : POk L g f := by
 intro w s dd hdd hf4 h hsum
 obtain ⟨s0, e0⟩ : ∃ y, mostR (5 - (f : Int)) 4 s = y := ⟨_, rfl⟩
 obtain ⟨i, s1, e1⟩ : ∃ x y, mustR [w_policy, w_set] s0 = (x, y) := ⟨_, _, rfl⟩
 obtain ⟨nm, s2, e2⟩ : ∃ x y, nameR s1 = (x, y) := ⟨_, _, rfl⟩
 obtain ⟨al, s3, e3⟩ : ∃ x y, mustR w_algs s2 = (x, y) := ⟨_, _, rfl⟩
 obtain ⟨tt, s4, e4⟩ : ∃ x y, targetR s3 = (x, y) := ⟨_, _, rfl⟩
 obtain ⟨j5, s5, e5⟩ : ∃ x y, mustR [m_lb] s4 = (x, y) := ⟨_, _, rfl⟩
 obtain ⟨rr, kk, s6, e6⟩ : ∃ x y z, inR f i s5 = (x, y, z) := ⟨_, _, _, rfl⟩
 obtain ⟨j7, s7, e7⟩ : ∃ x y, mustR [m_rb] s6 = (x, y) := ⟨_, _, rfl⟩
 obtain ⟨oo, s8, e8⟩ : ∃ x y, dutsR s7 = (x, y) := ⟨_, _, rfl⟩
 have G0 : Go2 L s s0 := .of (e0 ▸ most_go h.ok _ _) (e0 ▸ mostR_met _ _ _)
 have k0 := G0.1.1
 have G1 : Go2 L s0 s1 := .of (by have := must_go k0 [w_policy, w_set]; rwa [e1] at this) (by have := mustR_met [w_policy, w_set] s0; rwa [e1] at this)
 have k1 := G1.1.1
 have G2 : Go2 L s1 s2 := .of (by have := name_go k1; rwa [e2] at this) (by have := nameR_met s1; rwa [e2] at this)
 have k2 := G2.1.1
 have G3 : Go2 L s2 s3 := .of (by have := must_go k2 w_algs; rwa [e3] at this) (by have := mustR_met w_algs s2; rwa [e3] at this)
 have k3 := G3.1.1
 have G4 : Go2 L s3 s4 := .of (by have := target_go k3; rwa [e4] at this) (by have := targetR_met s3; rwa [e4] at this)
 have k4 := G4.1.1
 have G5 : Go2 L s4 s5 := .of (by have := must_go k4 [m_lb]; rwa [e5] at this) (by have := mustR_met [m_lb] s4; rwa [e5] at this)
 have HSM : Hid (s5.met + s5.rest.length ≤ 5990) := by show _ ≤ _; have := G0.2; have := G1.2; have := G2.2; have := G3.2; have := G4.2; have := G5.2; omega
 have HNM : Hid (nm.size ≤ maxLen) := by have := nameR_size k1; rw [e2] at this; exact this
 have HAL : Hid (InI (al : Int)) := by have := mustR_in w_algs s2 (by decide); rw [e3] at this; exact this
 have HI0 : f = 0 → i ≠ 2 := by
  rintro rfl hi
  have h5 : s0.rest.length = 1 := by
   rw [← e0]
   unfold mostR
   rw [if_pos (by omega)]
   exact failR_len _ _ h.ok
  have := must_one k0 h5 [w_policy, w_set]
  rw [e1] at this
  simp only at this
  omega
 have hq := eq2 i
 rw [polR_eq f s e0 e1 e2 e3 e4 e5 e6 e7 e8]
 clear G0 G1 G2 G3 G4 G5 k0 k1 k2 k3 k4
 by_cases hi : i = 2
 ·obtain ⟨f', rfl⟩ : ∃ f', f = f' + 1 := ⟨f - 1, by have : f ≠ 0 := fun e => HI0 e hi; omega⟩
  have HIH := Lib.hid (ih f' rfl)
  have HIN : Hid (rr = [] ∧ kk = (kidsR (polR (f' + 1)) s5.rest.length [] s5).1 ∧ s6 = (kidsR (polR (f' + 1)) s5.rest.length [] s5).2) := by
   show _ ∧ _ ∧ _
   unfold inR at e6
   rw [if_pos hi] at e6
   injection e6 with x1 x2
   exact ⟨x1.symm, by rw [x2], by rw [x2]⟩
  subst hi
  have hd1 : -100 ≤ dd := by omega
  have hd2 : dd ≤ 100 := by omega
  have HD : Hid (dd + 1 = 5 - (f' : Int) ∧ f' ≤ 3) := ⟨by omega, by omega⟩
  have hq : ((2 : Int) == 2) = true := rfl
  have E0 : Hid (mostR dd 4 s = s0) := by rw [hdd]; exact Lib.hid e0
  have E1 := Lib.hid e1
  have E2 := Lib.hid e2
  have E3 := Lib.hid e3
  have E4 := Lib.hid e4
  have E5 := Lib.hid e5
  have E7 := Lib.hid e7
  have E8 := Lib.hid e8
  have HG : Hid (g < w.heap.size) := h.lt
  have HBr_1 : Hid (Ob (w.alloc (.cells #[.string ⟨#[]⟩, .bool false, .int .i64 0, .slice none 0 0, .slice none 0 0, .slice none 0 0, .slice none 0 0] 28)) (w.heap.size) 28 #[.string ⟨#[]⟩, .bool false, .int .i64 0, .slice none 0 0, .slice none 0 0, .slice none 0 0, .slice none 0 0]) := Lib.hid (by have := Ob.made w 28 #[.string ⟨#[]⟩, .bool false, .int .i64 0, .slice none 0 0, .slice none 0 0, .slice none 0 0, .slice none 0 0]; simpa using this)
  have HBr_2 := Lib.hid (HBr_1.out.keep (Below.heap_alloc (w.alloc (.cells #[.string ⟨#[]⟩, .bool false, .int .i64 0, .slice none 0 0, .slice none 0 0, .slice none 0 0, .slice none 0 0] 28)) (.cells #[.string ⟨#[]⟩, .bool false, .int .i64 0, .slice none 0 0, .slice none 0 0, .slice none 0 0, .slice none 0 0] 28) _ HBr_1.out.lt))
  have HBp_2 : Hid (Ob ((w.alloc (.cells #[.string ⟨#[]⟩, .bool false, .int .i64 0, .slice none 0 0, .slice none 0 0, .slice none 0 0, .slice none 0 0] 28)).alloc (.cells #[.string ⟨#[]⟩, .bool false, .int .i64 0, .slice none 0 0, .slice none 0 0, .slice none 0 0, .slice none 0 0] 28)) (w.heap.size + 1) 28 #[.string ⟨#[]⟩, .bool false, .int .i64 0, .slice none 0 0, .slice none 0 0, .slice none 0 0, .slice none 0 0]) := Lib.hid (by have := Ob.made (w.alloc (.cells #[.string ⟨#[]⟩, .bool false, .int .i64 0, .slice none 0 0, .slice none 0 0, .slice none 0 0, .slice none 0 0] 28)) 28 #[.string ⟨#[]⟩, .bool false, .int .i64 0, .slice none 0 0, .slice none 0 0, .slice none 0 0, .slice none 0 0]; simpa using this)
  have HR0 := Lib.hid ((h.alloc (.cells #[.string ⟨#[]⟩, .bool false, .int .i64 0, .slice none 0 0, .slice none 0 0, .slice none 0 0, .slice none 0 0] 28)).alloc (.cells #[.string ⟨#[]⟩, .bool false, .int .i64 0, .slice none 0 0, .slice none 0 0, .slice none 0 0, .slice none 0 0] 28))
  have HO0 := Lib.hid (((Only.refl (r := g) (w := w)).al (.cells #[.string ⟨#[]⟩, .bool false, .int .i64 0, .slice none 0 0, .slice none 0 0, .slice none 0 0, .slice none 0 0] 28)).al (.cells #[.string ⟨#[]⟩, .bool false, .int .i64 0, .slice none 0 0, .slice none 0 0, .slice none 0 0, .slice none 0 0] 28))
  clear h hsum e0 e1 e2 e3 e4 e5 e6 e7 e8 ih HI0 hf4 hdd
  go_enter Tryz.func61, Tryz.ntmps61
  go_wp2_with fail
  go_at_call 89
  refine (pmost_any HR0.out dd 4).mono ?_
  rintro x u3 ⟨rfl, ho, hr⟩
  rw [E0.out] at hr
  have HO3 := Lib.hid (HO0.out.trans ho)
  have HR3 := Lib.hid hr
  have HBr_3 := Lib.hid (HBr_2.out.keep (ho.heap HBr_2.out.lt (by have := HG.out; omega)))
  have HBp_3 := Lib.hid (HBp_2.out.keep (ho.heap HBp_2.out.lt (by have := HG.out; omega)))
  clear ho hr
  go_wp2_with fail
  go_at_call 90
  refine (pmust_lit HR3.out [w_policy, w_set] #[.string ⟨#[112, 111, 108, 105, 99, 121]⟩, .string ⟨#[115, 101, 116]⟩] 2 rfl rfl (by omega) (by first | rfl | (simp; done) | (simp [World.setCell]; done))).mono ?_
  rintro x u4 ⟨hx, ho, hr⟩
  obtain rfl : x = .returned (.int .i64 ((2 : Nat) : Int)) := by rw [hx, E1.out] <;> rfl
  rw [E1.out] at hr
  clear hx
  have HO4 := Lib.hid (HO3.out.trans ho)
  have HR4 := Lib.hid hr
  have HBr_4 := Lib.hid (HBr_3.out.keep (ho.heap HBr_3.out.lt (by have := HG.out; omega)))
  have HBp_4 := Lib.hid (HBp_3.out.keep (ho.heap HBp_3.out.lt (by have := HG.out; omega)))
  clear ho hr
  have c5 := HBp_4.out.cell 1
  have f5 := HBp_4.out.frozen 1
  have HO5 := Lib.hid (HO4.out.new (r := w.heap.size + 1) (by have := HG.out; omega) 1 (.bool true))
  have HR5 := Lib.hid (HR4.out.set (r := w.heap.size + 1) (by have := HG.out; omega) 1 (.bool true))
  have HBr_5 := Lib.hid (HBr_4.out.keep (Below.heap_setCell u4 ⟨w.heap.size + 1, 1, none⟩ (.bool true) _ (by show w.heap.size ≠ w.heap.size + 1; have := HG.out; omega)))
  have HBp_5 : Hid (Ob (u4.setCell ⟨w.heap.size + 1, 1, none⟩ (.bool true)) (w.heap.size + 1) 28 #[.string ⟨#[]⟩, .bool true, .int .i64 0, .slice none 0 0, .slice none 0 0, .slice none 0 0, .slice none 0 0]) := Lib.hid (by have := HBp_4.out.put 1 (.bool true); simpa using this)
  go_wp2_with fail
  go_at_call 91
  refine (pname_any HR5.out).mono ?_
  rintro x u6 ⟨hx, ho, hr⟩
  obtain rfl : x = .returned (.string nm) := by rw [hx, E2.out] <;> rfl
  rw [E2.out] at hr
  clear hx
  have HO6 := Lib.hid (HO5.out.trans ho)
  have HR6 := Lib.hid hr
  have HBr_6 := Lib.hid (HBr_5.out.keep (ho.heap HBr_5.out.lt (by have := HG.out; omega)))
  have HBp_6 := Lib.hid (HBp_5.out.keep (ho.heap HBp_5.out.lt (by have := HG.out; omega)))
  clear ho hr
  have c7 := HBp_6.out.cell 0
  have f7 := HBp_6.out.frozen 0
  have HO7 := Lib.hid (HO6.out.new (r := w.heap.size + 1) (by have := HG.out; omega) 0 (.string nm))
  have HR7 := Lib.hid (HR6.out.set (r := w.heap.size + 1) (by have := HG.out; omega) 0 (.string nm))
  have HBr_7 := Lib.hid (HBr_6.out.keep (Below.heap_setCell u6 ⟨w.heap.size + 1, 0, none⟩ (.string nm) _ (by show w.heap.size ≠ w.heap.size + 1; have := HG.out; omega)))
  have HBp_7 : Hid (Ob (u6.setCell ⟨w.heap.size + 1, 0, none⟩ (.string nm)) (w.heap.size + 1) 28 #[.string nm, .bool true, .int .i64 0, .slice none 0 0, .slice none 0 0, .slice none 0 0, .slice none 0 0]) := Lib.hid (by have := HBp_6.out.put 0 (.string nm); simpa using this)
  go_wp2_with fail
  go_at_call 90
  refine (pmust_lit HR7.out [w_denyover, w_permitover, w_first, w_only, w_denyunless, w_permitunless] #[.string ⟨#[100, 101, 110, 121, 111, 118, 101, 114]⟩, .string ⟨#[112, 101, 114, 109, 105, 116, 111, 118, 101, 114]⟩, .string ⟨#[102, 105, 114, 115, 116]⟩, .string ⟨#[111, 110, 108, 121]⟩, .string ⟨#[100, 101, 110, 121, 117, 110, 108, 101, 115, 115]⟩, .string ⟨#[112, 101, 114, 109, 105, 116, 117, 110, 108, 101, 115, 115]⟩] 6 rfl rfl (by omega) (by first | rfl | (simp; done) | (simp [World.setCell]; done))).mono ?_
  rintro x u8 ⟨hx, ho, hr⟩
  obtain rfl : x = .returned (.int .i64 (al : Int)) := by rw [hx, E3.out] <;> rfl
  rw [E3.out] at hr
  clear hx
  have HO8 := Lib.hid (HO7.out.trans ho)
  have HR8 := Lib.hid hr
  have HBr_8 := Lib.hid (HBr_7.out.keep (ho.heap HBr_7.out.lt (by have := HG.out; omega)))
  have HBp_8 := Lib.hid (HBp_7.out.keep (ho.heap HBp_7.out.lt (by have := HG.out; omega)))
  clear ho hr
  have c9 := HBp_8.out.cell 2
  have f9 := HBp_8.out.frozen 2
  have HO9 := Lib.hid (HO8.out.new (r := w.heap.size + 1) (by have := HG.out; omega) 2 (.int .i64 (al : Int)))
  have HR9 := Lib.hid (HR8.out.set (r := w.heap.size + 1) (by have := HG.out; omega) 2 (.int .i64 (al : Int)))
  have HBr_9 := Lib.hid (HBr_8.out.keep (Below.heap_setCell u8 ⟨w.heap.size + 1, 2, none⟩ (.int .i64 (al : Int)) _ (by show w.heap.size ≠ w.heap.size + 1; have := HG.out; omega)))
  have HBp_9 : Hid (Ob (u8.setCell ⟨w.heap.size + 1, 2, none⟩ (.int .i64 (al : Int))) (w.heap.size + 1) 28 #[.string nm, .bool true, .int .i64 (al : Int), .slice none 0 0, .slice none 0 0, .slice none 0 0, .slice none 0 0]) := Lib.hid (by have := HBp_8.out.put 2 (.int .i64 (al : Int)); simpa using this)
  go_wp2_with fail
  go_at_call 92
  refine (ptarget_any HR9.out).mono ?_
  rintro x u10 ⟨A1, n1, c1, rfl, ho, hr, ht1⟩
  rw [E4.out] at hr ht1
  have HO10 := Lib.hid (HO9.out.trans ho)
  have HR10 := Lib.hid hr
  have HBr_10 := Lib.hid (HBr_9.out.keep (ho.heap HBr_9.out.lt (by have := HG.out; omega)))
  have HBp_10 := Lib.hid (HBp_9.out.keep (ho.heap HBp_9.out.lt (by have := HG.out; omega)))
  have HTt1_10 := Lib.hid (ht1.keep (Kept.refl _ _) (R' := fun b => w.heap.size + 2 ≤ b) (fun b hb _ => by have hb : ((u8.setCell ⟨w.heap.size + 1, 2, none⟩ (.int .i64 (al : Int)))).heap.size ≤ b := hb; have := HBp_9.out.lt; show w.heap.size + 2 ≤ b; omega))
  clear ho hr ht1
  have c11 := HBp_10.out.cell 3
  have f11 := HBp_10.out.frozen 3
  have HO11 := Lib.hid (HO10.out.new (r := w.heap.size + 1) (by have := HG.out; omega) 3 (.slice A1 n1 c1))
  have HR11 := Lib.hid (HR10.out.set (r := w.heap.size + 1) (by have := HG.out; omega) 3 (.slice A1 n1 c1))
  have HBr_11 := Lib.hid (HBr_10.out.keep (Below.heap_setCell u10 ⟨w.heap.size + 1, 3, none⟩ (.slice A1 n1 c1) _ (by show w.heap.size ≠ w.heap.size + 1; have := HG.out; omega)))
  have HBp_11 : Hid (Ob (u10.setCell ⟨w.heap.size + 1, 3, none⟩ (.slice A1 n1 c1)) (w.heap.size + 1) 28 #[.string nm, .bool true, .int .i64 (al : Int), .slice A1 n1 c1, .slice none 0 0, .slice none 0 0, .slice none 0 0]) := Lib.hid (by have := HBp_10.out.put 3 (.slice A1 n1 c1); simpa using this)
  have HTt1_11 := Lib.hid (HTt1_10.out.keep (Only.kept9 ((Only.refl (r := w.heap.size + 1) (w := u10)).setCell (p := ⟨w.heap.size + 1, 3, none⟩) rfl (.slice A1 n1 c1)) (fun b hb => by have hb : w.heap.size + 2 ≤ b := hb; show b ≠ w.heap.size + 1; omega)) (fun _ h _ => h))
  go_wp2_with fail
  go_at_call 90
  refine (pmust_lit HR11.out [m_lb] #[.string ⟨#[123]⟩] 1 rfl rfl (by omega) (by first | rfl | (simp; done) | (simp [World.setCell]; done))).mono ?_
  rintro x u12 ⟨rfl, ho, hr⟩
  rw [E5.out] at hr
  have HO12 := Lib.hid (HO11.out.trans ho)
  have HR12 := Lib.hid hr
  have HBr_12 := Lib.hid (HBr_11.out.keep (ho.heap HBr_11.out.lt (by have := HG.out; omega)))
  have HBp_12 := Lib.hid (HBp_11.out.keep (ho.heap HBp_11.out.lt (by have := HG.out; omega)))
  have HTt1_12 := Lib.hid (HTt1_11.out.keep (ho.kept9 (fun b hb => by have := HG.out; have hb : w.heap.size + 2 ≤ b := hb; show b ≠ g; omega)) (fun _ h _ => h))
  clear ho hr
  have c13_1 := HBp_12.out.cell 1
  go_wp2_with fail
  go_at_call 93
  refine (pkids_any HR12.out HSM.out HD.out.2 HIH.out (dd + 1) HD.out.1).mono ?_
  rintro x u14 ⟨A3, n3, c3, rfl, ho, hr, ht3⟩
  rw [← HIN.out.2.2] at hr
  rw [← HIN.out.2.1] at ht3
  have HO14 := Lib.hid (HO12.out.trans ho)
  have HR14 := Lib.hid hr
  have HBr_14 := Lib.hid (HBr_12.out.keep (ho.heap HBr_12.out.lt (by have := HG.out; omega)))
  have HBp_14 := Lib.hid (HBp_12.out.keep (ho.heap HBp_12.out.lt (by have := HG.out; omega)))
  have HTt1_14 := Lib.hid (HTt1_12.out.keep (ho.kept9 (fun b hb => by have := HG.out; have hb : w.heap.size + 2 ≤ b := hb; show b ≠ g; omega)) (fun _ h _ => h))
  have HTt3_14 := Lib.hid (ht3.keep (Kept.refl _ _) (R' := fun b => w.heap.size + 2 ≤ b) (fun b hb _ => by have hb : (u12).heap.size ≤ b := hb; have := HBp_12.out.lt; show w.heap.size + 2 ≤ b; omega))
  clear ho hr ht3
  have c15 := HBp_14.out.cell 5
  have f15 := HBp_14.out.frozen 5
  have HO15 := Lib.hid (HO14.out.new (r := w.heap.size + 1) (by have := HG.out; omega) 5 (.slice A3 n3 c3))
  have HR15 := Lib.hid (HR14.out.set (r := w.heap.size + 1) (by have := HG.out; omega) 5 (.slice A3 n3 c3))
  have HBr_15 := Lib.hid (HBr_14.out.keep (Below.heap_setCell u14 ⟨w.heap.size + 1, 5, none⟩ (.slice A3 n3 c3) _ (by show w.heap.size ≠ w.heap.size + 1; have := HG.out; omega)))
  have HBp_15 : Hid (Ob (u14.setCell ⟨w.heap.size + 1, 5, none⟩ (.slice A3 n3 c3)) (w.heap.size + 1) 28 #[.string nm, .bool true, .int .i64 (al : Int), .slice A1 n1 c1, .slice none 0 0, .slice A3 n3 c3, .slice none 0 0]) := Lib.hid (by have := HBp_14.out.put 5 (.slice A3 n3 c3); simpa using this)
  have HTt1_15 := Lib.hid (HTt1_14.out.keep (Only.kept9 ((Only.refl (r := w.heap.size + 1) (w := u14)).setCell (p := ⟨w.heap.size + 1, 5, none⟩) rfl (.slice A3 n3 c3)) (fun b hb => by have hb : w.heap.size + 2 ≤ b := hb; show b ≠ w.heap.size + 1; omega)) (fun _ h _ => h))
  have HTt3_15 := Lib.hid (HTt3_14.out.keep (Only.kept9 ((Only.refl (r := w.heap.size + 1) (w := u14)).setCell (p := ⟨w.heap.size + 1, 5, none⟩) rfl (.slice A3 n3 c3)) (fun b hb => by have hb : w.heap.size + 2 ≤ b := hb; show b ≠ w.heap.size + 1; omega)) (fun _ h _ => h))
  go_wp2_with fail
  go_at_call 90
  refine (pmust_lit HR15.out [m_rb] #[.string ⟨#[125]⟩] 1 rfl rfl (by omega) (by first | rfl | (simp; done) | (simp [World.setCell]; done))).mono ?_
  rintro x u16 ⟨rfl, ho, hr⟩
  rw [E7.out] at hr
  have HO16 := Lib.hid (HO15.out.trans ho)
  have HR16 := Lib.hid hr
  have HBr_16 := Lib.hid (HBr_15.out.keep (ho.heap HBr_15.out.lt (by have := HG.out; omega)))
  have HBp_16 := Lib.hid (HBp_15.out.keep (ho.heap HBp_15.out.lt (by have := HG.out; omega)))
  have HTt1_16 := Lib.hid (HTt1_15.out.keep (ho.kept9 (fun b hb => by have := HG.out; have hb : w.heap.size + 2 ≤ b := hb; show b ≠ g; omega)) (fun _ h _ => h))
  have HTt3_16 := Lib.hid (HTt3_15.out.keep (ho.kept9 (fun b hb => by have := HG.out; have hb : w.heap.size + 2 ≤ b := hb; show b ≠ g; omega)) (fun _ h _ => h))
  clear ho hr
  go_wp2_with fail
  go_at_call 95
  refine (pduts_any HR16.out).mono ?_
  rintro x u17 ⟨A4, n4, c4, rfl, ho, hr, ht4⟩
  rw [E8.out] at hr ht4
  have HO17 := Lib.hid (HO16.out.trans ho)
  have HR17 := Lib.hid hr
  have HBr_17 := Lib.hid (HBr_16.out.keep (ho.heap HBr_16.out.lt (by have := HG.out; omega)))
  have HBp_17 := Lib.hid (HBp_16.out.keep (ho.heap HBp_16.out.lt (by have := HG.out; omega)))
  have HTt1_17 := Lib.hid (HTt1_16.out.keep (ho.kept9 (fun b hb => by have := HG.out; have hb : w.heap.size + 2 ≤ b := hb; show b ≠ g; omega)) (fun _ h _ => h))
  have HTt3_17 := Lib.hid (HTt3_16.out.keep (ho.kept9 (fun b hb => by have := HG.out; have hb : w.heap.size + 2 ≤ b := hb; show b ≠ g; omega)) (fun _ h _ => h))
  have HTt4_17 := Lib.hid (ht4.keep (Kept.refl _ _) (R' := fun b => w.heap.size + 2 ≤ b) (fun b hb _ => by have hb : (u16).heap.size ≤ b := hb; have := HBp_16.out.lt; show w.heap.size + 2 ≤ b; omega))
  clear ho hr ht4
  have c18 := HBp_17.out.cell 6
  have f18 := HBp_17.out.frozen 6
  have HO18 := Lib.hid (HO17.out.new (r := w.heap.size + 1) (by have := HG.out; omega) 6 (.slice A4 n4 c4))
  have HR18 := Lib.hid (HR17.out.set (r := w.heap.size + 1) (by have := HG.out; omega) 6 (.slice A4 n4 c4))
  have HBr_18 := Lib.hid (HBr_17.out.keep (Below.heap_setCell u17 ⟨w.heap.size + 1, 6, none⟩ (.slice A4 n4 c4) _ (by show w.heap.size ≠ w.heap.size + 1; have := HG.out; omega)))
  have HBp_18 : Hid (Ob (u17.setCell ⟨w.heap.size + 1, 6, none⟩ (.slice A4 n4 c4)) (w.heap.size + 1) 28 #[.string nm, .bool true, .int .i64 (al : Int), .slice A1 n1 c1, .slice none 0 0, .slice A3 n3 c3, .slice A4 n4 c4]) := Lib.hid (by have := HBp_17.out.put 6 (.slice A4 n4 c4); simpa using this)
  have HTt1_18 := Lib.hid (HTt1_17.out.keep (Only.kept9 ((Only.refl (r := w.heap.size + 1) (w := u17)).setCell (p := ⟨w.heap.size + 1, 6, none⟩) rfl (.slice A4 n4 c4)) (fun b hb => by have hb : w.heap.size + 2 ≤ b := hb; show b ≠ w.heap.size + 1; omega)) (fun _ h _ => h))
  have HTt3_18 := Lib.hid (HTt3_17.out.keep (Only.kept9 ((Only.refl (r := w.heap.size + 1) (w := u17)).setCell (p := ⟨w.heap.size + 1, 6, none⟩) rfl (.slice A4 n4 c4)) (fun b hb => by have hb : w.heap.size + 2 ≤ b := hb; show b ≠ w.heap.size + 1; omega)) (fun _ h _ => h))
  have HTt4_18 := Lib.hid (HTt4_17.out.keep (Only.kept9 ((Only.refl (r := w.heap.size + 1) (w := u17)).setCell (p := ⟨w.heap.size + 1, 6, none⟩) rfl (.slice A4 n4 c4)) (fun b hb => by have hb : w.heap.size + 2 ≤ b := hb; show b ≠ w.heap.size + 1; omega)) (fun _ h _ => h))
  have c19_0 := HBp_18.out.cell 0
  have c19_1 := HBp_18.out.cell 1
  have c19_2 := HBp_18.out.cell 2
  have c19_3 := HBp_18.out.cell 3
  have c19_4 := HBp_18.out.cell 4
  have c19_5 := HBp_18.out.cell 5
  have c19_6 := HBp_18.out.cell 6
  have c20 := HBr_18.out.cell 0
  have f20 := HBr_18.out.frozen 0
  have HO20 := Lib.hid (HO18.out.new (r := w.heap.size) (by have := HG.out; omega) 0 (.string nm))
  have HR20 := Lib.hid (HR18.out.set (r := w.heap.size) (by have := HG.out; omega) 0 (.string nm))
  have HBr_20 : Hid (Ob ((u17.setCell ⟨w.heap.size + 1, 6, none⟩ (.slice A4 n4 c4)).setCell ⟨w.heap.size, 0, none⟩ (.string nm)) (w.heap.size) 28 #[.string nm, .bool false, .int .i64 0, .slice none 0 0, .slice none 0 0, .slice none 0 0, .slice none 0 0]) := Lib.hid (by have := HBr_18.out.put 0 (.string nm); simpa using this)
  have HBp_20 := Lib.hid (HBp_18.out.keep (Below.heap_setCell (u17.setCell ⟨w.heap.size + 1, 6, none⟩ (.slice A4 n4 c4)) ⟨w.heap.size, 0, none⟩ (.string nm) _ (by show w.heap.size + 1 ≠ w.heap.size; have := HG.out; omega)))
  have HTt1_20 := Lib.hid (HTt1_18.out.keep (Only.kept9 ((Only.refl (r := w.heap.size) (w := (u17.setCell ⟨w.heap.size + 1, 6, none⟩ (.slice A4 n4 c4)))).setCell (p := ⟨w.heap.size, 0, none⟩) rfl (.string nm)) (fun b hb => by have hb : w.heap.size + 2 ≤ b := hb; show b ≠ w.heap.size; omega)) (fun _ h _ => h))
  have HTt3_20 := Lib.hid (HTt3_18.out.keep (Only.kept9 ((Only.refl (r := w.heap.size) (w := (u17.setCell ⟨w.heap.size + 1, 6, none⟩ (.slice A4 n4 c4)))).setCell (p := ⟨w.heap.size, 0, none⟩) rfl (.string nm)) (fun b hb => by have hb : w.heap.size + 2 ≤ b := hb; show b ≠ w.heap.size; omega)) (fun _ h _ => h))
  have HTt4_20 := Lib.hid (HTt4_18.out.keep (Only.kept9 ((Only.refl (r := w.heap.size) (w := (u17.setCell ⟨w.heap.size + 1, 6, none⟩ (.slice A4 n4 c4)))).setCell (p := ⟨w.heap.size, 0, none⟩) rfl (.string nm)) (fun b hb => by have hb : w.heap.size + 2 ≤ b := hb; show b ≠ w.heap.size; omega)) (fun _ h _ => h))
  have c21 := HBr_20.out.cell 1
  have f21 := HBr_20.out.frozen 1
  have HO21 := Lib.hid (HO20.out.new (r := w.heap.size) (by have := HG.out; omega) 1 (.bool true))
  have HR21 := Lib.hid (HR20.out.set (r := w.heap.size) (by have := HG.out; omega) 1 (.bool true))
  have HBr_21 : Hid (Ob (((u17.setCell ⟨w.heap.size + 1, 6, none⟩ (.slice A4 n4 c4)).setCell ⟨w.heap.size, 0, none⟩ (.string nm)).setCell ⟨w.heap.size, 1, none⟩ (.bool true)) (w.heap.size) 28 #[.string nm, .bool true, .int .i64 0, .slice none 0 0, .slice none 0 0, .slice none 0 0, .slice none 0 0]) := Lib.hid (by have := HBr_20.out.put 1 (.bool true); simpa using this)
  have HBp_21 := Lib.hid (HBp_20.out.keep (Below.heap_setCell ((u17.setCell ⟨w.heap.size + 1, 6, none⟩ (.slice A4 n4 c4)).setCell ⟨w.heap.size, 0, none⟩ (.string nm)) ⟨w.heap.size, 1, none⟩ (.bool true) _ (by show w.heap.size + 1 ≠ w.heap.size; have := HG.out; omega)))
  have HTt1_21 := Lib.hid (HTt1_20.out.keep (Only.kept9 ((Only.refl (r := w.heap.size) (w := ((u17.setCell ⟨w.heap.size + 1, 6, none⟩ (.slice A4 n4 c4)).setCell ⟨w.heap.size, 0, none⟩ (.string nm)))).setCell (p := ⟨w.heap.size, 1, none⟩) rfl (.bool true)) (fun b hb => by have hb : w.heap.size + 2 ≤ b := hb; show b ≠ w.heap.size; omega)) (fun _ h _ => h))
  have HTt3_21 := Lib.hid (HTt3_20.out.keep (Only.kept9 ((Only.refl (r := w.heap.size) (w := ((u17.setCell ⟨w.heap.size + 1, 6, none⟩ (.slice A4 n4 c4)).setCell ⟨w.heap.size, 0, none⟩ (.string nm)))).setCell (p := ⟨w.heap.size, 1, none⟩) rfl (.bool true)) (fun b hb => by have hb : w.heap.size + 2 ≤ b := hb; show b ≠ w.heap.size; omega)) (fun _ h _ => h))
  have HTt4_21 := Lib.hid (HTt4_20.out.keep (Only.kept9 ((Only.refl (r := w.heap.size) (w := ((u17.setCell ⟨w.heap.size + 1, 6, none⟩ (.slice A4 n4 c4)).setCell ⟨w.heap.size, 0, none⟩ (.string nm)))).setCell (p := ⟨w.heap.size, 1, none⟩) rfl (.bool true)) (fun b hb => by have hb : w.heap.size + 2 ≤ b := hb; show b ≠ w.heap.size; omega)) (fun _ h _ => h))
  have c22 := HBr_21.out.cell 2
  have f22 := HBr_21.out.frozen 2
  have HO22 := Lib.hid (HO21.out.new (r := w.heap.size) (by have := HG.out; omega) 2 (.int .i64 (al : Int)))
  have HR22 := Lib.hid (HR21.out.set (r := w.heap.size) (by have := HG.out; omega) 2 (.int .i64 (al : Int)))
  have HBr_22 : Hid (Ob ((((u17.setCell ⟨w.heap.size + 1, 6, none⟩ (.slice A4 n4 c4)).setCell ⟨w.heap.size, 0, none⟩ (.string nm)).setCell ⟨w.heap.size, 1, none⟩ (.bool true)).setCell ⟨w.heap.size, 2, none⟩ (.int .i64 (al : Int))) (w.heap.size) 28 #[.string nm, .bool true, .int .i64 (al : Int), .slice none 0 0, .slice none 0 0, .slice none 0 0, .slice none 0 0]) := Lib.hid (by have := HBr_21.out.put 2 (.int .i64 (al : Int)); simpa using this)
  have HBp_22 := Lib.hid (HBp_21.out.keep (Below.heap_setCell (((u17.setCell ⟨w.heap.size + 1, 6, none⟩ (.slice A4 n4 c4)).setCell ⟨w.heap.size, 0, none⟩ (.string nm)).setCell ⟨w.heap.size, 1, none⟩ (.bool true)) ⟨w.heap.size, 2, none⟩ (.int .i64 (al : Int)) _ (by show w.heap.size + 1 ≠ w.heap.size; have := HG.out; omega)))
  have HTt1_22 := Lib.hid (HTt1_21.out.keep (Only.kept9 ((Only.refl (r := w.heap.size) (w := (((u17.setCell ⟨w.heap.size + 1, 6, none⟩ (.slice A4 n4 c4)).setCell ⟨w.heap.size, 0, none⟩ (.string nm)).setCell ⟨w.heap.size, 1, none⟩ (.bool true)))).setCell (p := ⟨w.heap.size, 2, none⟩) rfl (.int .i64 (al : Int))) (fun b hb => by have hb : w.heap.size + 2 ≤ b := hb; show b ≠ w.heap.size; omega)) (fun _ h _ => h))
  have HTt3_22 := Lib.hid (HTt3_21.out.keep (Only.kept9 ((Only.refl (r := w.heap.size) (w := (((u17.setCell ⟨w.heap.size + 1, 6, none⟩ (.slice A4 n4 c4)).setCell ⟨w.heap.size, 0, none⟩ (.string nm)).setCell ⟨w.heap.size, 1, none⟩ (.bool true)))).setCell (p := ⟨w.heap.size, 2, none⟩) rfl (.int .i64 (al : Int))) (fun b hb => by have hb : w.heap.size + 2 ≤ b := hb; show b ≠ w.heap.size; omega)) (fun _ h _ => h))
  have HTt4_22 := Lib.hid (HTt4_21.out.keep (Only.kept9 ((Only.refl (r := w.heap.size) (w := (((u17.setCell ⟨w.heap.size + 1, 6, none⟩ (.slice A4 n4 c4)).setCell ⟨w.heap.size, 0, none⟩ (.string nm)).setCell ⟨w.heap.size, 1, none⟩ (.bool true)))).setCell (p := ⟨w.heap.size, 2, none⟩) rfl (.int .i64 (al : Int))) (fun b hb => by have hb : w.heap.size + 2 ≤ b := hb; show b ≠ w.heap.size; omega)) (fun _ h _ => h))
  have c23 := HBr_22.out.cell 3
  have f23 := HBr_22.out.frozen 3
  have HO23 := Lib.hid (HO22.out.new (r := w.heap.size) (by have := HG.out; omega) 3 (.slice A1 n1 c1))
  have HR23 := Lib.hid (HR22.out.set (r := w.heap.size) (by have := HG.out; omega) 3 (.slice A1 n1 c1))
  have HBr_23 : Hid (Ob (((((u17.setCell ⟨w.heap.size + 1, 6, none⟩ (.slice A4 n4 c4)).setCell ⟨w.heap.size, 0, none⟩ (.string nm)).setCell ⟨w.heap.size, 1, none⟩ (.bool true)).setCell ⟨w.heap.size, 2, none⟩ (.int .i64 (al : Int))).setCell ⟨w.heap.size, 3, none⟩ (.slice A1 n1 c1)) (w.heap.size) 28 #[.string nm, .bool true, .int .i64 (al : Int), .slice A1 n1 c1, .slice none 0 0, .slice none 0 0, .slice none 0 0]) := Lib.hid (by have := HBr_22.out.put 3 (.slice A1 n1 c1); simpa using this)
  have HBp_23 := Lib.hid (HBp_22.out.keep (Below.heap_setCell ((((u17.setCell ⟨w.heap.size + 1, 6, none⟩ (.slice A4 n4 c4)).setCell ⟨w.heap.size, 0, none⟩ (.string nm)).setCell ⟨w.heap.size, 1, none⟩ (.bool true)).setCell ⟨w.heap.size, 2, none⟩ (.int .i64 (al : Int))) ⟨w.heap.size, 3, none⟩ (.slice A1 n1 c1) _ (by show w.heap.size + 1 ≠ w.heap.size; have := HG.out; omega)))
  have HTt1_23 := Lib.hid (HTt1_22.out.keep (Only.kept9 ((Only.refl (r := w.heap.size) (w := ((((u17.setCell ⟨w.heap.size + 1, 6, none⟩ (.slice A4 n4 c4)).setCell ⟨w.heap.size, 0, none⟩ (.string nm)).setCell ⟨w.heap.size, 1, none⟩ (.bool true)).setCell ⟨w.heap.size, 2, none⟩ (.int .i64 (al : Int))))).setCell (p := ⟨w.heap.size, 3, none⟩) rfl (.slice A1 n1 c1)) (fun b hb => by have hb : w.heap.size + 2 ≤ b := hb; show b ≠ w.heap.size; omega)) (fun _ h _ => h))
  have HTt3_23 := Lib.hid (HTt3_22.out.keep (Only.kept9 ((Only.refl (r := w.heap.size) (w := ((((u17.setCell ⟨w.heap.size + 1, 6, none⟩ (.slice A4 n4 c4)).setCell ⟨w.heap.size, 0, none⟩ (.string nm)).setCell ⟨w.heap.size, 1, none⟩ (.bool true)).setCell ⟨w.heap.size, 2, none⟩ (.int .i64 (al : Int))))).setCell (p := ⟨w.heap.size, 3, none⟩) rfl (.slice A1 n1 c1)) (fun b hb => by have hb : w.heap.size + 2 ≤ b := hb; show b ≠ w.heap.size; omega)) (fun _ h _ => h))
  have HTt4_23 := Lib.hid (HTt4_22.out.keep (Only.kept9 ((Only.refl (r := w.heap.size) (w := ((((u17.setCell ⟨w.heap.size + 1, 6, none⟩ (.slice A4 n4 c4)).setCell ⟨w.heap.size, 0, none⟩ (.string nm)).setCell ⟨w.heap.size, 1, none⟩ (.bool true)).setCell ⟨w.heap.size, 2, none⟩ (.int .i64 (al : Int))))).setCell (p := ⟨w.heap.size, 3, none⟩) rfl (.slice A1 n1 c1)) (fun b hb => by have hb : w.heap.size + 2 ≤ b := hb; show b ≠ w.heap.size; omega)) (fun _ h _ => h))
  have c24 := HBr_23.out.cell 4
  have f24 := HBr_23.out.frozen 4
  have HO24 := Lib.hid (HO23.out.new (r := w.heap.size) (by have := HG.out; omega) 4 (.slice none 0 0))
  have HR24 := Lib.hid (HR23.out.set (r := w.heap.size) (by have := HG.out; omega) 4 (.slice none 0 0))
  have HBr_24 : Hid (Ob ((((((u17.setCell ⟨w.heap.size + 1, 6, none⟩ (.slice A4 n4 c4)).setCell ⟨w.heap.size, 0, none⟩ (.string nm)).setCell ⟨w.heap.size, 1, none⟩ (.bool true)).setCell ⟨w.heap.size, 2, none⟩ (.int .i64 (al : Int))).setCell ⟨w.heap.size, 3, none⟩ (.slice A1 n1 c1)).setCell ⟨w.heap.size, 4, none⟩ (.slice none 0 0)) (w.heap.size) 28 #[.string nm, .bool true, .int .i64 (al : Int), .slice A1 n1 c1, .slice none 0 0, .slice none 0 0, .slice none 0 0]) := Lib.hid (by have := HBr_23.out.put 4 (.slice none 0 0); simpa using this)
  have HBp_24 := Lib.hid (HBp_23.out.keep (Below.heap_setCell (((((u17.setCell ⟨w.heap.size + 1, 6, none⟩ (.slice A4 n4 c4)).setCell ⟨w.heap.size, 0, none⟩ (.string nm)).setCell ⟨w.heap.size, 1, none⟩ (.bool true)).setCell ⟨w.heap.size, 2, none⟩ (.int .i64 (al : Int))).setCell ⟨w.heap.size, 3, none⟩ (.slice A1 n1 c1)) ⟨w.heap.size, 4, none⟩ (.slice none 0 0) _ (by show w.heap.size + 1 ≠ w.heap.size; have := HG.out; omega)))
  have HTt1_24 := Lib.hid (HTt1_23.out.keep (Only.kept9 ((Only.refl (r := w.heap.size) (w := (((((u17.setCell ⟨w.heap.size + 1, 6, none⟩ (.slice A4 n4 c4)).setCell ⟨w.heap.size, 0, none⟩ (.string nm)).setCell ⟨w.heap.size, 1, none⟩ (.bool true)).setCell ⟨w.heap.size, 2, none⟩ (.int .i64 (al : Int))).setCell ⟨w.heap.size, 3, none⟩ (.slice A1 n1 c1)))).setCell (p := ⟨w.heap.size, 4, none⟩) rfl (.slice none 0 0)) (fun b hb => by have hb : w.heap.size + 2 ≤ b := hb; show b ≠ w.heap.size; omega)) (fun _ h _ => h))
  have HTt3_24 := Lib.hid (HTt3_23.out.keep (Only.kept9 ((Only.refl (r := w.heap.size) (w := (((((u17.setCell ⟨w.heap.size + 1, 6, none⟩ (.slice A4 n4 c4)).setCell ⟨w.heap.size, 0, none⟩ (.string nm)).setCell ⟨w.heap.size, 1, none⟩ (.bool true)).setCell ⟨w.heap.size, 2, none⟩ (.int .i64 (al : Int))).setCell ⟨w.heap.size, 3, none⟩ (.slice A1 n1 c1)))).setCell (p := ⟨w.heap.size, 4, none⟩) rfl (.slice none 0 0)) (fun b hb => by have hb : w.heap.size + 2 ≤ b := hb; show b ≠ w.heap.size; omega)) (fun _ h _ => h))
  have HTt4_24 := Lib.hid (HTt4_23.out.keep (Only.kept9 ((Only.refl (r := w.heap.size) (w := (((((u17.setCell ⟨w.heap.size + 1, 6, none⟩ (.slice A4 n4 c4)).setCell ⟨w.heap.size, 0, none⟩ (.string nm)).setCell ⟨w.heap.size, 1, none⟩ (.bool true)).setCell ⟨w.heap.size, 2, none⟩ (.int .i64 (al : Int))).setCell ⟨w.heap.size, 3, none⟩ (.slice A1 n1 c1)))).setCell (p := ⟨w.heap.size, 4, none⟩) rfl (.slice none 0 0)) (fun b hb => by have hb : w.heap.size + 2 ≤ b := hb; show b ≠ w.heap.size; omega)) (fun _ h _ => h))
  have c25 := HBr_24.out.cell 5
  have f25 := HBr_24.out.frozen 5
  have HO25 := Lib.hid (HO24.out.new (r := w.heap.size) (by have := HG.out; omega) 5 (.slice A3 n3 c3))
  have HR25 := Lib.hid (HR24.out.set (r := w.heap.size) (by have := HG.out; omega) 5 (.slice A3 n3 c3))
  have HBr_25 : Hid (Ob (((((((u17.setCell ⟨w.heap.size + 1, 6, none⟩ (.slice A4 n4 c4)).setCell ⟨w.heap.size, 0, none⟩ (.string nm)).setCell ⟨w.heap.size, 1, none⟩ (.bool true)).setCell ⟨w.heap.size, 2, none⟩ (.int .i64 (al : Int))).setCell ⟨w.heap.size, 3, none⟩ (.slice A1 n1 c1)).setCell ⟨w.heap.size, 4, none⟩ (.slice none 0 0)).setCell ⟨w.heap.size, 5, none⟩ (.slice A3 n3 c3)) (w.heap.size) 28 #[.string nm, .bool true, .int .i64 (al : Int), .slice A1 n1 c1, .slice none 0 0, .slice A3 n3 c3, .slice none 0 0]) := Lib.hid (by have := HBr_24.out.put 5 (.slice A3 n3 c3); simpa using this)
  have HBp_25 := Lib.hid (HBp_24.out.keep (Below.heap_setCell ((((((u17.setCell ⟨w.heap.size + 1, 6, none⟩ (.slice A4 n4 c4)).setCell ⟨w.heap.size, 0, none⟩ (.string nm)).setCell ⟨w.heap.size, 1, none⟩ (.bool true)).setCell ⟨w.heap.size, 2, none⟩ (.int .i64 (al : Int))).setCell ⟨w.heap.size, 3, none⟩ (.slice A1 n1 c1)).setCell ⟨w.heap.size, 4, none⟩ (.slice none 0 0)) ⟨w.heap.size, 5, none⟩ (.slice A3 n3 c3) _ (by show w.heap.size + 1 ≠ w.heap.size; have := HG.out; omega)))
  have HTt1_25 := Lib.hid (HTt1_24.out.keep (Only.kept9 ((Only.refl (r := w.heap.size) (w := ((((((u17.setCell ⟨w.heap.size + 1, 6, none⟩ (.slice A4 n4 c4)).setCell ⟨w.heap.size, 0, none⟩ (.string nm)).setCell ⟨w.heap.size, 1, none⟩ (.bool true)).setCell ⟨w.heap.size, 2, none⟩ (.int .i64 (al : Int))).setCell ⟨w.heap.size, 3, none⟩ (.slice A1 n1 c1)).setCell ⟨w.heap.size, 4, none⟩ (.slice none 0 0)))).setCell (p := ⟨w.heap.size, 5, none⟩) rfl (.slice A3 n3 c3)) (fun b hb => by have hb : w.heap.size + 2 ≤ b := hb; show b ≠ w.heap.size; omega)) (fun _ h _ => h))
  have HTt3_25 := Lib.hid (HTt3_24.out.keep (Only.kept9 ((Only.refl (r := w.heap.size) (w := ((((((u17.setCell ⟨w.heap.size + 1, 6, none⟩ (.slice A4 n4 c4)).setCell ⟨w.heap.size, 0, none⟩ (.string nm)).setCell ⟨w.heap.size, 1, none⟩ (.bool true)).setCell ⟨w.heap.size, 2, none⟩ (.int .i64 (al : Int))).setCell ⟨w.heap.size, 3, none⟩ (.slice A1 n1 c1)).setCell ⟨w.heap.size, 4, none⟩ (.slice none 0 0)))).setCell (p := ⟨w.heap.size, 5, none⟩) rfl (.slice A3 n3 c3)) (fun b hb => by have hb : w.heap.size + 2 ≤ b := hb; show b ≠ w.heap.size; omega)) (fun _ h _ => h))
  have HTt4_25 := Lib.hid (HTt4_24.out.keep (Only.kept9 ((Only.refl (r := w.heap.size) (w := ((((((u17.setCell ⟨w.heap.size + 1, 6, none⟩ (.slice A4 n4 c4)).setCell ⟨w.heap.size, 0, none⟩ (.string nm)).setCell ⟨w.heap.size, 1, none⟩ (.bool true)).setCell ⟨w.heap.size, 2, none⟩ (.int .i64 (al : Int))).setCell ⟨w.heap.size, 3, none⟩ (.slice A1 n1 c1)).setCell ⟨w.heap.size, 4, none⟩ (.slice none 0 0)))).setCell (p := ⟨w.heap.size, 5, none⟩) rfl (.slice A3 n3 c3)) (fun b hb => by have hb : w.heap.size + 2 ≤ b := hb; show b ≠ w.heap.size; omega)) (fun _ h _ => h))
  have c26 := HBr_25.out.cell 6
  have f26 := HBr_25.out.frozen 6
  have HO26 := Lib.hid (HO25.out.new (r := w.heap.size) (by have := HG.out; omega) 6 (.slice A4 n4 c4))
  have HR26 := Lib.hid (HR25.out.set (r := w.heap.size) (by have := HG.out; omega) 6 (.slice A4 n4 c4))
  have HBr_26 : Hid (Ob ((((((((u17.setCell ⟨w.heap.size + 1, 6, none⟩ (.slice A4 n4 c4)).setCell ⟨w.heap.size, 0, none⟩ (.string nm)).setCell ⟨w.heap.size, 1, none⟩ (.bool true)).setCell ⟨w.heap.size, 2, none⟩ (.int .i64 (al : Int))).setCell ⟨w.heap.size, 3, none⟩ (.slice A1 n1 c1)).setCell ⟨w.heap.size, 4, none⟩ (.slice none 0 0)).setCell ⟨w.heap.size, 5, none⟩ (.slice A3 n3 c3)).setCell ⟨w.heap.size, 6, none⟩ (.slice A4 n4 c4)) (w.heap.size) 28 #[.string nm, .bool true, .int .i64 (al : Int), .slice A1 n1 c1, .slice none 0 0, .slice A3 n3 c3, .slice A4 n4 c4]) := Lib.hid (by have := HBr_25.out.put 6 (.slice A4 n4 c4); simpa using this)
  have HBp_26 := Lib.hid (HBp_25.out.keep (Below.heap_setCell (((((((u17.setCell ⟨w.heap.size + 1, 6, none⟩ (.slice A4 n4 c4)).setCell ⟨w.heap.size, 0, none⟩ (.string nm)).setCell ⟨w.heap.size, 1, none⟩ (.bool true)).setCell ⟨w.heap.size, 2, none⟩ (.int .i64 (al : Int))).setCell ⟨w.heap.size, 3, none⟩ (.slice A1 n1 c1)).setCell ⟨w.heap.size, 4, none⟩ (.slice none 0 0)).setCell ⟨w.heap.size, 5, none⟩ (.slice A3 n3 c3)) ⟨w.heap.size, 6, none⟩ (.slice A4 n4 c4) _ (by show w.heap.size + 1 ≠ w.heap.size; have := HG.out; omega)))
  have HTt1_26 := Lib.hid (HTt1_25.out.keep (Only.kept9 ((Only.refl (r := w.heap.size) (w := (((((((u17.setCell ⟨w.heap.size + 1, 6, none⟩ (.slice A4 n4 c4)).setCell ⟨w.heap.size, 0, none⟩ (.string nm)).setCell ⟨w.heap.size, 1, none⟩ (.bool true)).setCell ⟨w.heap.size, 2, none⟩ (.int .i64 (al : Int))).setCell ⟨w.heap.size, 3, none⟩ (.slice A1 n1 c1)).setCell ⟨w.heap.size, 4, none⟩ (.slice none 0 0)).setCell ⟨w.heap.size, 5, none⟩ (.slice A3 n3 c3)))).setCell (p := ⟨w.heap.size, 6, none⟩) rfl (.slice A4 n4 c4)) (fun b hb => by have hb : w.heap.size + 2 ≤ b := hb; show b ≠ w.heap.size; omega)) (fun _ h _ => h))
  have HTt3_26 := Lib.hid (HTt3_25.out.keep (Only.kept9 ((Only.refl (r := w.heap.size) (w := (((((((u17.setCell ⟨w.heap.size + 1, 6, none⟩ (.slice A4 n4 c4)).setCell ⟨w.heap.size, 0, none⟩ (.string nm)).setCell ⟨w.heap.size, 1, none⟩ (.bool true)).setCell ⟨w.heap.size, 2, none⟩ (.int .i64 (al : Int))).setCell ⟨w.heap.size, 3, none⟩ (.slice A1 n1 c1)).setCell ⟨w.heap.size, 4, none⟩ (.slice none 0 0)).setCell ⟨w.heap.size, 5, none⟩ (.slice A3 n3 c3)))).setCell (p := ⟨w.heap.size, 6, none⟩) rfl (.slice A4 n4 c4)) (fun b hb => by have hb : w.heap.size + 2 ≤ b := hb; show b ≠ w.heap.size; omega)) (fun _ h _ => h))
  have HTt4_26 := Lib.hid (HTt4_25.out.keep (Only.kept9 ((Only.refl (r := w.heap.size) (w := (((((((u17.setCell ⟨w.heap.size + 1, 6, none⟩ (.slice A4 n4 c4)).setCell ⟨w.heap.size, 0, none⟩ (.string nm)).setCell ⟨w.heap.size, 1, none⟩ (.bool true)).setCell ⟨w.heap.size, 2, none⟩ (.int .i64 (al : Int))).setCell ⟨w.heap.size, 3, none⟩ (.slice A1 n1 c1)).setCell ⟨w.heap.size, 4, none⟩ (.slice none 0 0)).setCell ⟨w.heap.size, 5, none⟩ (.slice A3 n3 c3)))).setCell (p := ⟨w.heap.size, 6, none⟩) rfl (.slice A4 n4 c4)) (fun b hb => by have hb : w.heap.size + 2 ≤ b := hb; show b ≠ w.heap.size; omega)) (fun _ h _ => h))
  go_wp2_with fail
  refine bodyPost_ret (policy_ret rfl rfl HBr_26.out rfl) rfl ?_
  rw [HIN.out.1]
  exact ⟨_, rfl, HO26.out, HR26.out, A1, n1, c1, none, 0, 0, A3, n3, c3, A4, n4, c4, rfl, A1, n1, c1, none, 0, 0, A3, n3, c3, A4, n4, c4, rfl, HNM.out, HAL.out, HTt1_26.out.keep (Kept.refl _ _) (fun b hb _ => by have hb : w.heap.size + 2 ≤ b := hb; show w.heap.size ≤ b; omega), Rw.nil_ _ _ _ _, Pls.keep HTt3_26.out (Kept.refl _ _) (fun b hb _ => by have hb : w.heap.size + 2 ≤ b := hb; show w.heap.size ≤ b; omega), HTt4_26.out.keep (Kept.refl _ _) (fun b hb _ => by have hb : w.heap.size + 2 ≤ b := hb; show w.heap.size ≤ b; omega)⟩
 ·have HIN : Hid (rr = (rulesR s5.rest.length [] s5).1 ∧ kk = [] ∧ s6 = (rulesR s5.rest.length [] s5).2) := by
   show _ ∧ _ ∧ _
   unfold inR at e6
   rw [if_neg hi] at e6
   injection e6 with x1 x2
   injection x2 with x2 x3
   exact ⟨x1.symm, x2.symm, x3.symm⟩
  have hqi : decide (i = 2) = false := decide_eq_false hi
  rw [hqi] at hq
  have E0 : Hid (mostR dd 4 s = s0) := by rw [hdd]; exact Lib.hid e0
  have E1 := Lib.hid e1
  have E2 := Lib.hid e2
  have E3 := Lib.hid e3
  have E4 := Lib.hid e4
  have E5 := Lib.hid e5
  have E7 := Lib.hid e7
  have E8 := Lib.hid e8
  have HG : Hid (g < w.heap.size) := h.lt
  have HBr_1 : Hid (Ob (w.alloc (.cells #[.string ⟨#[]⟩, .bool false, .int .i64 0, .slice none 0 0, .slice none 0 0, .slice none 0 0, .slice none 0 0] 28)) (w.heap.size) 28 #[.string ⟨#[]⟩, .bool false, .int .i64 0, .slice none 0 0, .slice none 0 0, .slice none 0 0, .slice none 0 0]) := Lib.hid (by have := Ob.made w 28 #[.string ⟨#[]⟩, .bool false, .int .i64 0, .slice none 0 0, .slice none 0 0, .slice none 0 0, .slice none 0 0]; simpa using this)
  have HBr_2 := Lib.hid (HBr_1.out.keep (Below.heap_alloc (w.alloc (.cells #[.string ⟨#[]⟩, .bool false, .int .i64 0, .slice none 0 0, .slice none 0 0, .slice none 0 0, .slice none 0 0] 28)) (.cells #[.string ⟨#[]⟩, .bool false, .int .i64 0, .slice none 0 0, .slice none 0 0, .slice none 0 0, .slice none 0 0] 28) _ HBr_1.out.lt))
  have HBp_2 : Hid (Ob ((w.alloc (.cells #[.string ⟨#[]⟩, .bool false, .int .i64 0, .slice none 0 0, .slice none 0 0, .slice none 0 0, .slice none 0 0] 28)).alloc (.cells #[.string ⟨#[]⟩, .bool false, .int .i64 0, .slice none 0 0, .slice none 0 0, .slice none 0 0, .slice none 0 0] 28)) (w.heap.size + 1) 28 #[.string ⟨#[]⟩, .bool false, .int .i64 0, .slice none 0 0, .slice none 0 0, .slice none 0 0, .slice none 0 0]) := Lib.hid (by have := Ob.made (w.alloc (.cells #[.string ⟨#[]⟩, .bool false, .int .i64 0, .slice none 0 0, .slice none 0 0, .slice none 0 0, .slice none 0 0] 28)) 28 #[.string ⟨#[]⟩, .bool false, .int .i64 0, .slice none 0 0, .slice none 0 0, .slice none 0 0, .slice none 0 0]; simpa using this)
  have HR0 := Lib.hid ((h.alloc (.cells #[.string ⟨#[]⟩, .bool false, .int .i64 0, .slice none 0 0, .slice none 0 0, .slice none 0 0, .slice none 0 0] 28)).alloc (.cells #[.string ⟨#[]⟩, .bool false, .int .i64 0, .slice none 0 0, .slice none 0 0, .slice none 0 0, .slice none 0 0] 28))
  have HO0 := Lib.hid (((Only.refl (r := g) (w := w)).al (.cells #[.string ⟨#[]⟩, .bool false, .int .i64 0, .slice none 0 0, .slice none 0 0, .slice none 0 0, .slice none 0 0] 28)).al (.cells #[.string ⟨#[]⟩, .bool false, .int .i64 0, .slice none 0 0, .slice none 0 0, .slice none 0 0, .slice none 0 0] 28))
  clear h hsum e0 e1 e2 e3 e4 e5 e6 e7 e8 ih HI0 hf4 hdd hi
  go_enter Tryz.func61, Tryz.ntmps61
  go_wp2_with fail
  go_at_call 89
  refine (pmost_any HR0.out dd 4).mono ?_
  rintro x u3 ⟨rfl, ho, hr⟩
  rw [E0.out] at hr
  have HO3 := Lib.hid (HO0.out.trans ho)
  have HR3 := Lib.hid hr
  have HBr_3 := Lib.hid (HBr_2.out.keep (ho.heap HBr_2.out.lt (by have := HG.out; omega)))
  have HBp_3 := Lib.hid (HBp_2.out.keep (ho.heap HBp_2.out.lt (by have := HG.out; omega)))
  clear ho hr
  go_wp2_with fail
  go_at_call 90
  refine (pmust_lit HR3.out [w_policy, w_set] #[.string ⟨#[112, 111, 108, 105, 99, 121]⟩, .string ⟨#[115, 101, 116]⟩] 2 rfl rfl (by omega) (by first | rfl | (simp; done) | (simp [World.setCell]; done))).mono ?_
  rintro x u4 ⟨hx, ho, hr⟩
  obtain rfl : x = .returned (.int .i64 (i : Int)) := by rw [hx, E1.out] <;> rfl
  rw [E1.out] at hr
  clear hx
  have HO4 := Lib.hid (HO3.out.trans ho)
  have HR4 := Lib.hid hr
  have HBr_4 := Lib.hid (HBr_3.out.keep (ho.heap HBr_3.out.lt (by have := HG.out; omega)))
  have HBp_4 := Lib.hid (HBp_3.out.keep (ho.heap HBp_3.out.lt (by have := HG.out; omega)))
  clear ho hr
  have c5 := HBp_4.out.cell 1
  have f5 := HBp_4.out.frozen 1
  have HO5 := Lib.hid (HO4.out.new (r := w.heap.size + 1) (by have := HG.out; omega) 1 (.bool false))
  have HR5 := Lib.hid (HR4.out.set (r := w.heap.size + 1) (by have := HG.out; omega) 1 (.bool false))
  have HBr_5 := Lib.hid (HBr_4.out.keep (Below.heap_setCell u4 ⟨w.heap.size + 1, 1, none⟩ (.bool false) _ (by show w.heap.size ≠ w.heap.size + 1; have := HG.out; omega)))
  have HBp_5 : Hid (Ob (u4.setCell ⟨w.heap.size + 1, 1, none⟩ (.bool false)) (w.heap.size + 1) 28 #[.string ⟨#[]⟩, .bool false, .int .i64 0, .slice none 0 0, .slice none 0 0, .slice none 0 0, .slice none 0 0]) := Lib.hid (by have := HBp_4.out.put 1 (.bool false); simpa using this)
  go_wp2_with fail
  go_at_call 91
  refine (pname_any HR5.out).mono ?_
  rintro x u6 ⟨hx, ho, hr⟩
  obtain rfl : x = .returned (.string nm) := by rw [hx, E2.out] <;> rfl
  rw [E2.out] at hr
  clear hx
  have HO6 := Lib.hid (HO5.out.trans ho)
  have HR6 := Lib.hid hr
  have HBr_6 := Lib.hid (HBr_5.out.keep (ho.heap HBr_5.out.lt (by have := HG.out; omega)))
  have HBp_6 := Lib.hid (HBp_5.out.keep (ho.heap HBp_5.out.lt (by have := HG.out; omega)))
  clear ho hr
  have c7 := HBp_6.out.cell 0
  have f7 := HBp_6.out.frozen 0
  have HO7 := Lib.hid (HO6.out.new (r := w.heap.size + 1) (by have := HG.out; omega) 0 (.string nm))
  have HR7 := Lib.hid (HR6.out.set (r := w.heap.size + 1) (by have := HG.out; omega) 0 (.string nm))
  have HBr_7 := Lib.hid (HBr_6.out.keep (Below.heap_setCell u6 ⟨w.heap.size + 1, 0, none⟩ (.string nm) _ (by show w.heap.size ≠ w.heap.size + 1; have := HG.out; omega)))
  have HBp_7 : Hid (Ob (u6.setCell ⟨w.heap.size + 1, 0, none⟩ (.string nm)) (w.heap.size + 1) 28 #[.string nm, .bool false, .int .i64 0, .slice none 0 0, .slice none 0 0, .slice none 0 0, .slice none 0 0]) := Lib.hid (by have := HBp_6.out.put 0 (.string nm); simpa using this)
  go_wp2_with fail
  go_at_call 90
  refine (pmust_lit HR7.out [w_denyover, w_permitover, w_first, w_only, w_denyunless, w_permitunless] #[.string ⟨#[100, 101, 110, 121, 111, 118, 101, 114]⟩, .string ⟨#[112, 101, 114, 109, 105, 116, 111, 118, 101, 114]⟩, .string ⟨#[102, 105, 114, 115, 116]⟩, .string ⟨#[111, 110, 108, 121]⟩, .string ⟨#[100, 101, 110, 121, 117, 110, 108, 101, 115, 115]⟩, .string ⟨#[112, 101, 114, 109, 105, 116, 117, 110, 108, 101, 115, 115]⟩] 6 rfl rfl (by omega) (by first | rfl | (simp; done) | (simp [World.setCell]; done))).mono ?_
  rintro x u8 ⟨hx, ho, hr⟩
  obtain rfl : x = .returned (.int .i64 (al : Int)) := by rw [hx, E3.out] <;> rfl
  rw [E3.out] at hr
  clear hx
  have HO8 := Lib.hid (HO7.out.trans ho)
  have HR8 := Lib.hid hr
  have HBr_8 := Lib.hid (HBr_7.out.keep (ho.heap HBr_7.out.lt (by have := HG.out; omega)))
  have HBp_8 := Lib.hid (HBp_7.out.keep (ho.heap HBp_7.out.lt (by have := HG.out; omega)))
  clear ho hr
  have c9 := HBp_8.out.cell 2
  have f9 := HBp_8.out.frozen 2
  have HO9 := Lib.hid (HO8.out.new (r := w.heap.size + 1) (by have := HG.out; omega) 2 (.int .i64 (al : Int)))
  have HR9 := Lib.hid (HR8.out.set (r := w.heap.size + 1) (by have := HG.out; omega) 2 (.int .i64 (al : Int)))
  have HBr_9 := Lib.hid (HBr_8.out.keep (Below.heap_setCell u8 ⟨w.heap.size + 1, 2, none⟩ (.int .i64 (al : Int)) _ (by show w.heap.size ≠ w.heap.size + 1; have := HG.out; omega)))
  have HBp_9 : Hid (Ob (u8.setCell ⟨w.heap.size + 1, 2, none⟩ (.int .i64 (al : Int))) (w.heap.size + 1) 28 #[.string nm, .bool false, .int .i64 (al : Int), .slice none 0 0, .slice none 0 0, .slice none 0 0, .slice none 0 0]) := Lib.hid (by have := HBp_8.out.put 2 (.int .i64 (al : Int)); simpa using this)
  go_wp2_with fail
  go_at_call 92
  refine (ptarget_any HR9.out).mono ?_
  rintro x u10 ⟨A1, n1, c1, rfl, ho, hr, ht1⟩
  rw [E4.out] at hr ht1
  have HO10 := Lib.hid (HO9.out.trans ho)
  have HR10 := Lib.hid hr
  have HBr_10 := Lib.hid (HBr_9.out.keep (ho.heap HBr_9.out.lt (by have := HG.out; omega)))
  have HBp_10 := Lib.hid (HBp_9.out.keep (ho.heap HBp_9.out.lt (by have := HG.out; omega)))
  have HTt1_10 := Lib.hid (ht1.keep (Kept.refl _ _) (R' := fun b => w.heap.size + 2 ≤ b) (fun b hb _ => by have hb : ((u8.setCell ⟨w.heap.size + 1, 2, none⟩ (.int .i64 (al : Int)))).heap.size ≤ b := hb; have := HBp_9.out.lt; show w.heap.size + 2 ≤ b; omega))
  clear ho hr ht1
  have c11 := HBp_10.out.cell 3
  have f11 := HBp_10.out.frozen 3
  have HO11 := Lib.hid (HO10.out.new (r := w.heap.size + 1) (by have := HG.out; omega) 3 (.slice A1 n1 c1))
  have HR11 := Lib.hid (HR10.out.set (r := w.heap.size + 1) (by have := HG.out; omega) 3 (.slice A1 n1 c1))
  have HBr_11 := Lib.hid (HBr_10.out.keep (Below.heap_setCell u10 ⟨w.heap.size + 1, 3, none⟩ (.slice A1 n1 c1) _ (by show w.heap.size ≠ w.heap.size + 1; have := HG.out; omega)))
  have HBp_11 : Hid (Ob (u10.setCell ⟨w.heap.size + 1, 3, none⟩ (.slice A1 n1 c1)) (w.heap.size + 1) 28 #[.string nm, .bool false, .int .i64 (al : Int), .slice A1 n1 c1, .slice none 0 0, .slice none 0 0, .slice none 0 0]) := Lib.hid (by have := HBp_10.out.put 3 (.slice A1 n1 c1); simpa using this)
  have HTt1_11 := Lib.hid (HTt1_10.out.keep (Only.kept9 ((Only.refl (r := w.heap.size + 1) (w := u10)).setCell (p := ⟨w.heap.size + 1, 3, none⟩) rfl (.slice A1 n1 c1)) (fun b hb => by have hb : w.heap.size + 2 ≤ b := hb; show b ≠ w.heap.size + 1; omega)) (fun _ h _ => h))
  go_wp2_with fail
  go_at_call 90
  refine (pmust_lit HR11.out [m_lb] #[.string ⟨#[123]⟩] 1 rfl rfl (by omega) (by first | rfl | (simp; done) | (simp [World.setCell]; done))).mono ?_
  rintro x u12 ⟨rfl, ho, hr⟩
  rw [E5.out] at hr
  have HO12 := Lib.hid (HO11.out.trans ho)
  have HR12 := Lib.hid hr
  have HBr_12 := Lib.hid (HBr_11.out.keep (ho.heap HBr_11.out.lt (by have := HG.out; omega)))
  have HBp_12 := Lib.hid (HBp_11.out.keep (ho.heap HBp_11.out.lt (by have := HG.out; omega)))
  have HTt1_12 := Lib.hid (HTt1_11.out.keep (ho.kept9 (fun b hb => by have := HG.out; have hb : w.heap.size + 2 ≤ b := hb; show b ≠ g; omega)) (fun _ h _ => h))
  clear ho hr
  have c13_1 := HBp_12.out.cell 1
  go_wp2_with fail
  go_at_call 94
  refine (prules_any HR12.out HSM.out).mono ?_
  rintro x u14 ⟨A3, n3, c3, rfl, ho, hr, ht3⟩
  rw [← HIN.out.2.2] at hr
  rw [← HIN.out.1] at ht3
  have HO14 := Lib.hid (HO12.out.trans ho)
  have HR14 := Lib.hid hr
  have HBr_14 := Lib.hid (HBr_12.out.keep (ho.heap HBr_12.out.lt (by have := HG.out; omega)))
  have HBp_14 := Lib.hid (HBp_12.out.keep (ho.heap HBp_12.out.lt (by have := HG.out; omega)))
  have HTt1_14 := Lib.hid (HTt1_12.out.keep (ho.kept9 (fun b hb => by have := HG.out; have hb : w.heap.size + 2 ≤ b := hb; show b ≠ g; omega)) (fun _ h _ => h))
  have HTt3_14 := Lib.hid (ht3.keep (Kept.refl _ _) (R' := fun b => w.heap.size + 2 ≤ b) (fun b hb _ => by have hb : (u12).heap.size ≤ b := hb; have := HBp_12.out.lt; show w.heap.size + 2 ≤ b; omega))
  clear ho hr ht3
  have c15 := HBp_14.out.cell 4
  have f15 := HBp_14.out.frozen 4
  have HO15 := Lib.hid (HO14.out.new (r := w.heap.size + 1) (by have := HG.out; omega) 4 (.slice A3 n3 c3))
  have HR15 := Lib.hid (HR14.out.set (r := w.heap.size + 1) (by have := HG.out; omega) 4 (.slice A3 n3 c3))
  have HBr_15 := Lib.hid (HBr_14.out.keep (Below.heap_setCell u14 ⟨w.heap.size + 1, 4, none⟩ (.slice A3 n3 c3) _ (by show w.heap.size ≠ w.heap.size + 1; have := HG.out; omega)))
  have HBp_15 : Hid (Ob (u14.setCell ⟨w.heap.size + 1, 4, none⟩ (.slice A3 n3 c3)) (w.heap.size + 1) 28 #[.string nm, .bool false, .int .i64 (al : Int), .slice A1 n1 c1, .slice A3 n3 c3, .slice none 0 0, .slice none 0 0]) := Lib.hid (by have := HBp_14.out.put 4 (.slice A3 n3 c3); simpa using this)
  have HTt1_15 := Lib.hid (HTt1_14.out.keep (Only.kept9 ((Only.refl (r := w.heap.size + 1) (w := u14)).setCell (p := ⟨w.heap.size + 1, 4, none⟩) rfl (.slice A3 n3 c3)) (fun b hb => by have hb : w.heap.size + 2 ≤ b := hb; show b ≠ w.heap.size + 1; omega)) (fun _ h _ => h))
  have HTt3_15 := Lib.hid (HTt3_14.out.keep (Only.kept9 ((Only.refl (r := w.heap.size + 1) (w := u14)).setCell (p := ⟨w.heap.size + 1, 4, none⟩) rfl (.slice A3 n3 c3)) (fun b hb => by have hb : w.heap.size + 2 ≤ b := hb; show b ≠ w.heap.size + 1; omega)) (fun _ h _ => h))
  go_wp2_with fail
  go_at_call 90
  refine (pmust_lit HR15.out [m_rb] #[.string ⟨#[125]⟩] 1 rfl rfl (by omega) (by first | rfl | (simp; done) | (simp [World.setCell]; done))).mono ?_
  rintro x u16 ⟨rfl, ho, hr⟩
  rw [E7.out] at hr
  have HO16 := Lib.hid (HO15.out.trans ho)
  have HR16 := Lib.hid hr
  have HBr_16 := Lib.hid (HBr_15.out.keep (ho.heap HBr_15.out.lt (by have := HG.out; omega)))
  have HBp_16 := Lib.hid (HBp_15.out.keep (ho.heap HBp_15.out.lt (by have := HG.out; omega)))
  have HTt1_16 := Lib.hid (HTt1_15.out.keep (ho.kept9 (fun b hb => by have := HG.out; have hb : w.heap.size + 2 ≤ b := hb; show b ≠ g; omega)) (fun _ h _ => h))
  have HTt3_16 := Lib.hid (HTt3_15.out.keep (ho.kept9 (fun b hb => by have := HG.out; have hb : w.heap.size + 2 ≤ b := hb; show b ≠ g; omega)) (fun _ h _ => h))
  clear ho hr
  go_wp2_with fail
  go_at_call 95
  refine (pduts_any HR16.out).mono ?_
  rintro x u17 ⟨A4, n4, c4, rfl, ho, hr, ht4⟩
  rw [E8.out] at hr ht4
  have HO17 := Lib.hid (HO16.out.trans ho)
  have HR17 := Lib.hid hr
  have HBr_17 := Lib.hid (HBr_16.out.keep (ho.heap HBr_16.out.lt (by have := HG.out; omega)))
  have HBp_17 := Lib.hid (HBp_16.out.keep (ho.heap HBp_16.out.lt (by have := HG.out; omega)))
  have HTt1_17 := Lib.hid (HTt1_16.out.keep (ho.kept9 (fun b hb => by have := HG.out; have hb : w.heap.size + 2 ≤ b := hb; show b ≠ g; omega)) (fun _ h _ => h))
  have HTt3_17 := Lib.hid (HTt3_16.out.keep (ho.kept9 (fun b hb => by have := HG.out; have hb : w.heap.size + 2 ≤ b := hb; show b ≠ g; omega)) (fun _ h _ => h))
  have HTt4_17 := Lib.hid (ht4.keep (Kept.refl _ _) (R' := fun b => w.heap.size + 2 ≤ b) (fun b hb _ => by have hb : (u16).heap.size ≤ b := hb; have := HBp_16.out.lt; show w.heap.size + 2 ≤ b; omega))
  clear ho hr ht4
  have c18 := HBp_17.out.cell 6
  have f18 := HBp_17.out.frozen 6
  have HO18 := Lib.hid (HO17.out.new (r := w.heap.size + 1) (by have := HG.out; omega) 6 (.slice A4 n4 c4))
  have HR18 := Lib.hid (HR17.out.set (r := w.heap.size + 1) (by have := HG.out; omega) 6 (.slice A4 n4 c4))
  have HBr_18 := Lib.hid (HBr_17.out.keep (Below.heap_setCell u17 ⟨w.heap.size + 1, 6, none⟩ (.slice A4 n4 c4) _ (by show w.heap.size ≠ w.heap.size + 1; have := HG.out; omega)))
  have HBp_18 : Hid (Ob (u17.setCell ⟨w.heap.size + 1, 6, none⟩ (.slice A4 n4 c4)) (w.heap.size + 1) 28 #[.string nm, .bool false, .int .i64 (al : Int), .slice A1 n1 c1, .slice A3 n3 c3, .slice none 0 0, .slice A4 n4 c4]) := Lib.hid (by have := HBp_17.out.put 6 (.slice A4 n4 c4); simpa using this)
  have HTt1_18 := Lib.hid (HTt1_17.out.keep (Only.kept9 ((Only.refl (r := w.heap.size + 1) (w := u17)).setCell (p := ⟨w.heap.size + 1, 6, none⟩) rfl (.slice A4 n4 c4)) (fun b hb => by have hb : w.heap.size + 2 ≤ b := hb; show b ≠ w.heap.size + 1; omega)) (fun _ h _ => h))
  have HTt3_18 := Lib.hid (HTt3_17.out.keep (Only.kept9 ((Only.refl (r := w.heap.size + 1) (w := u17)).setCell (p := ⟨w.heap.size + 1, 6, none⟩) rfl (.slice A4 n4 c4)) (fun b hb => by have hb : w.heap.size + 2 ≤ b := hb; show b ≠ w.heap.size + 1; omega)) (fun _ h _ => h))
  have HTt4_18 := Lib.hid (HTt4_17.out.keep (Only.kept9 ((Only.refl (r := w.heap.size + 1) (w := u17)).setCell (p := ⟨w.heap.size + 1, 6, none⟩) rfl (.slice A4 n4 c4)) (fun b hb => by have hb : w.heap.size + 2 ≤ b := hb; show b ≠ w.heap.size + 1; omega)) (fun _ h _ => h))
  have c19_0 := HBp_18.out.cell 0
  have c19_1 := HBp_18.out.cell 1
  have c19_2 := HBp_18.out.cell 2
  have c19_3 := HBp_18.out.cell 3
  have c19_4 := HBp_18.out.cell 4
  have c19_5 := HBp_18.out.cell 5
  have c19_6 := HBp_18.out.cell 6
  have c20 := HBr_18.out.cell 0
  have f20 := HBr_18.out.frozen 0
  have HO20 := Lib.hid (HO18.out.new (r := w.heap.size) (by have := HG.out; omega) 0 (.string nm))
  have HR20 := Lib.hid (HR18.out.set (r := w.heap.size) (by have := HG.out; omega) 0 (.string nm))
  have HBr_20 : Hid (Ob ((u17.setCell ⟨w.heap.size + 1, 6, none⟩ (.slice A4 n4 c4)).setCell ⟨w.heap.size, 0, none⟩ (.string nm)) (w.heap.size) 28 #[.string nm, .bool false, .int .i64 0, .slice none 0 0, .slice none 0 0, .slice none 0 0, .slice none 0 0]) := Lib.hid (by have := HBr_18.out.put 0 (.string nm); simpa using this)
  have HBp_20 := Lib.hid (HBp_18.out.keep (Below.heap_setCell (u17.setCell ⟨w.heap.size + 1, 6, none⟩ (.slice A4 n4 c4)) ⟨w.heap.size, 0, none⟩ (.string nm) _ (by show w.heap.size + 1 ≠ w.heap.size; have := HG.out; omega)))
  have HTt1_20 := Lib.hid (HTt1_18.out.keep (Only.kept9 ((Only.refl (r := w.heap.size) (w := (u17.setCell ⟨w.heap.size + 1, 6, none⟩ (.slice A4 n4 c4)))).setCell (p := ⟨w.heap.size, 0, none⟩) rfl (.string nm)) (fun b hb => by have hb : w.heap.size + 2 ≤ b := hb; show b ≠ w.heap.size; omega)) (fun _ h _ => h))
  have HTt3_20 := Lib.hid (HTt3_18.out.keep (Only.kept9 ((Only.refl (r := w.heap.size) (w := (u17.setCell ⟨w.heap.size + 1, 6, none⟩ (.slice A4 n4 c4)))).setCell (p := ⟨w.heap.size, 0, none⟩) rfl (.string nm)) (fun b hb => by have hb : w.heap.size + 2 ≤ b := hb; show b ≠ w.heap.size; omega)) (fun _ h _ => h))
  have HTt4_20 := Lib.hid (HTt4_18.out.keep (Only.kept9 ((Only.refl (r := w.heap.size) (w := (u17.setCell ⟨w.heap.size + 1, 6, none⟩ (.slice A4 n4 c4)))).setCell (p := ⟨w.heap.size, 0, none⟩) rfl (.string nm)) (fun b hb => by have hb : w.heap.size + 2 ≤ b := hb; show b ≠ w.heap.size; omega)) (fun _ h _ => h))
  have c21 := HBr_20.out.cell 1
  have f21 := HBr_20.out.frozen 1
  have HO21 := Lib.hid (HO20.out.new (r := w.heap.size) (by have := HG.out; omega) 1 (.bool false))
  have HR21 := Lib.hid (HR20.out.set (r := w.heap.size) (by have := HG.out; omega) 1 (.bool false))
  have HBr_21 : Hid (Ob (((u17.setCell ⟨w.heap.size + 1, 6, none⟩ (.slice A4 n4 c4)).setCell ⟨w.heap.size, 0, none⟩ (.string nm)).setCell ⟨w.heap.size, 1, none⟩ (.bool false)) (w.heap.size) 28 #[.string nm, .bool false, .int .i64 0, .slice none 0 0, .slice none 0 0, .slice none 0 0, .slice none 0 0]) := Lib.hid (by have := HBr_20.out.put 1 (.bool false); simpa using this)
  have HBp_21 := Lib.hid (HBp_20.out.keep (Below.heap_setCell ((u17.setCell ⟨w.heap.size + 1, 6, none⟩ (.slice A4 n4 c4)).setCell ⟨w.heap.size, 0, none⟩ (.string nm)) ⟨w.heap.size, 1, none⟩ (.bool false) _ (by show w.heap.size + 1 ≠ w.heap.size; have := HG.out; omega)))
  have HTt1_21 := Lib.hid (HTt1_20.out.keep (Only.kept9 ((Only.refl (r := w.heap.size) (w := ((u17.setCell ⟨w.heap.size + 1, 6, none⟩ (.slice A4 n4 c4)).setCell ⟨w.heap.size, 0, none⟩ (.string nm)))).setCell (p := ⟨w.heap.size, 1, none⟩) rfl (.bool false)) (fun b hb => by have hb : w.heap.size + 2 ≤ b := hb; show b ≠ w.heap.size; omega)) (fun _ h _ => h))
  have HTt3_21 := Lib.hid (HTt3_20.out.keep (Only.kept9 ((Only.refl (r := w.heap.size) (w := ((u17.setCell ⟨w.heap.size + 1, 6, none⟩ (.slice A4 n4 c4)).setCell ⟨w.heap.size, 0, none⟩ (.string nm)))).setCell (p := ⟨w.heap.size, 1, none⟩) rfl (.bool false)) (fun b hb => by have hb : w.heap.size + 2 ≤ b := hb; show b ≠ w.heap.size; omega)) (fun _ h _ => h))
  have HTt4_21 := Lib.hid (HTt4_20.out.keep (Only.kept9 ((Only.refl (r := w.heap.size) (w := ((u17.setCell ⟨w.heap.size + 1, 6, none⟩ (.slice A4 n4 c4)).setCell ⟨w.heap.size, 0, none⟩ (.string nm)))).setCell (p := ⟨w.heap.size, 1, none⟩) rfl (.bool false)) (fun b hb => by have hb : w.heap.size + 2 ≤ b := hb; show b ≠ w.heap.size; omega)) (fun _ h _ => h))
  have c22 := HBr_21.out.cell 2
  have f22 := HBr_21.out.frozen 2
  have HO22 := Lib.hid (HO21.out.new (r := w.heap.size) (by have := HG.out; omega) 2 (.int .i64 (al : Int)))
  have HR22 := Lib.hid (HR21.out.set (r := w.heap.size) (by have := HG.out; omega) 2 (.int .i64 (al : Int)))
  have HBr_22 : Hid (Ob ((((u17.setCell ⟨w.heap.size + 1, 6, none⟩ (.slice A4 n4 c4)).setCell ⟨w.heap.size, 0, none⟩ (.string nm)).setCell ⟨w.heap.size, 1, none⟩ (.bool false)).setCell ⟨w.heap.size, 2, none⟩ (.int .i64 (al : Int))) (w.heap.size) 28 #[.string nm, .bool false, .int .i64 (al : Int), .slice none 0 0, .slice none 0 0, .slice none 0 0, .slice none 0 0]) := Lib.hid (by have := HBr_21.out.put 2 (.int .i64 (al : Int)); simpa using this)
  have HBp_22 := Lib.hid (HBp_21.out.keep (Below.heap_setCell (((u17.setCell ⟨w.heap.size + 1, 6, none⟩ (.slice A4 n4 c4)).setCell ⟨w.heap.size, 0, none⟩ (.string nm)).setCell ⟨w.heap.size, 1, none⟩ (.bool false)) ⟨w.heap.size, 2, none⟩ (.int .i64 (al : Int)) _ (by show w.heap.size + 1 ≠ w.heap.size; have := HG.out; omega)))
  have HTt1_22 := Lib.hid (HTt1_21.out.keep (Only.kept9 ((Only.refl (r := w.heap.size) (w := (((u17.setCell ⟨w.heap.size + 1, 6, none⟩ (.slice A4 n4 c4)).setCell ⟨w.heap.size, 0, none⟩ (.string nm)).setCell ⟨w.heap.size, 1, none⟩ (.bool false)))).setCell (p := ⟨w.heap.size, 2, none⟩) rfl (.int .i64 (al : Int))) (fun b hb => by have hb : w.heap.size + 2 ≤ b := hb; show b ≠ w.heap.size; omega)) (fun _ h _ => h))
  have HTt3_22 := Lib.hid (HTt3_21.out.keep (Only.kept9 ((Only.refl (r := w.heap.size) (w := (((u17.setCell ⟨w.heap.size + 1, 6, none⟩ (.slice A4 n4 c4)).setCell ⟨w.heap.size, 0, none⟩ (.string nm)).setCell ⟨w.heap.size, 1, none⟩ (.bool false)))).setCell (p := ⟨w.heap.size, 2, none⟩) rfl (.int .i64 (al : Int))) (fun b hb => by have hb : w.heap.size + 2 ≤ b := hb; show b ≠ w.heap.size; omega)) (fun _ h _ => h))
  have HTt4_22 := Lib.hid (HTt4_21.out.keep (Only.kept9 ((Only.refl (r := w.heap.size) (w := (((u17.setCell ⟨w.heap.size + 1, 6, none⟩ (.slice A4 n4 c4)).setCell ⟨w.heap.size, 0, none⟩ (.string nm)).setCell ⟨w.heap.size, 1, none⟩ (.bool false)))).setCell (p := ⟨w.heap.size, 2, none⟩) rfl (.int .i64 (al : Int))) (fun b hb => by have hb : w.heap.size + 2 ≤ b := hb; show b ≠ w.heap.size; omega)) (fun _ h _ => h))
  have c23 := HBr_22.out.cell 3
  have f23 := HBr_22.out.frozen 3
  have HO23 := Lib.hid (HO22.out.new (r := w.heap.size) (by have := HG.out; omega) 3 (.slice A1 n1 c1))
  have HR23 := Lib.hid (HR22.out.set (r := w.heap.size) (by have := HG.out; omega) 3 (.slice A1 n1 c1))
  have HBr_23 : Hid (Ob (((((u17.setCell ⟨w.heap.size + 1, 6, none⟩ (.slice A4 n4 c4)).setCell ⟨w.heap.size, 0, none⟩ (.string nm)).setCell ⟨w.heap.size, 1, none⟩ (.bool false)).setCell ⟨w.heap.size, 2, none⟩ (.int .i64 (al : Int))).setCell ⟨w.heap.size, 3, none⟩ (.slice A1 n1 c1)) (w.heap.size) 28 #[.string nm, .bool false, .int .i64 (al : Int), .slice A1 n1 c1, .slice none 0 0, .slice none 0 0, .slice none 0 0]) := Lib.hid (by have := HBr_22.out.put 3 (.slice A1 n1 c1); simpa using this)
  have HBp_23 := Lib.hid (HBp_22.out.keep (Below.heap_setCell ((((u17.setCell ⟨w.heap.size + 1, 6, none⟩ (.slice A4 n4 c4)).setCell ⟨w.heap.size, 0, none⟩ (.string nm)).setCell ⟨w.heap.size, 1, none⟩ (.bool false)).setCell ⟨w.heap.size, 2, none⟩ (.int .i64 (al : Int))) ⟨w.heap.size, 3, none⟩ (.slice A1 n1 c1) _ (by show w.heap.size + 1 ≠ w.heap.size; have := HG.out; omega)))
  have HTt1_23 := Lib.hid (HTt1_22.out.keep (Only.kept9 ((Only.refl (r := w.heap.size) (w := ((((u17.setCell ⟨w.heap.size + 1, 6, none⟩ (.slice A4 n4 c4)).setCell ⟨w.heap.size, 0, none⟩ (.string nm)).setCell ⟨w.heap.size, 1, none⟩ (.bool false)).setCell ⟨w.heap.size, 2, none⟩ (.int .i64 (al : Int))))).setCell (p := ⟨w.heap.size, 3, none⟩) rfl (.slice A1 n1 c1)) (fun b hb => by have hb : w.heap.size + 2 ≤ b := hb; show b ≠ w.heap.size; omega)) (fun _ h _ => h))
  have HTt3_23 := Lib.hid (HTt3_22.out.keep (Only.kept9 ((Only.refl (r := w.heap.size) (w := ((((u17.setCell ⟨w.heap.size + 1, 6, none⟩ (.slice A4 n4 c4)).setCell ⟨w.heap.size, 0, none⟩ (.string nm)).setCell ⟨w.heap.size, 1, none⟩ (.bool false)).setCell ⟨w.heap.size, 2, none⟩ (.int .i64 (al : Int))))).setCell (p := ⟨w.heap.size, 3, none⟩) rfl (.slice A1 n1 c1)) (fun b hb => by have hb : w.heap.size + 2 ≤ b := hb; show b ≠ w.heap.size; omega)) (fun _ h _ => h))
  have HTt4_23 := Lib.hid (HTt4_22.out.keep (Only.kept9 ((Only.refl (r := w.heap.size) (w := ((((u17.setCell ⟨w.heap.size + 1, 6, none⟩ (.slice A4 n4 c4)).setCell ⟨w.heap.size, 0, none⟩ (.string nm)).setCell ⟨w.heap.size, 1, none⟩ (.bool false)).setCell ⟨w.heap.size, 2, none⟩ (.int .i64 (al : Int))))).setCell (p := ⟨w.heap.size, 3, none⟩) rfl (.slice A1 n1 c1)) (fun b hb => by have hb : w.heap.size + 2 ≤ b := hb; show b ≠ w.heap.size; omega)) (fun _ h _ => h))
  have c24 := HBr_23.out.cell 4
  have f24 := HBr_23.out.frozen 4
  have HO24 := Lib.hid (HO23.out.new (r := w.heap.size) (by have := HG.out; omega) 4 (.slice A3 n3 c3))
  have HR24 := Lib.hid (HR23.out.set (r := w.heap.size) (by have := HG.out; omega) 4 (.slice A3 n3 c3))
  have HBr_24 : Hid (Ob ((((((u17.setCell ⟨w.heap.size + 1, 6, none⟩ (.slice A4 n4 c4)).setCell ⟨w.heap.size, 0, none⟩ (.string nm)).setCell ⟨w.heap.size, 1, none⟩ (.bool false)).setCell ⟨w.heap.size, 2, none⟩ (.int .i64 (al : Int))).setCell ⟨w.heap.size, 3, none⟩ (.slice A1 n1 c1)).setCell ⟨w.heap.size, 4, none⟩ (.slice A3 n3 c3)) (w.heap.size) 28 #[.string nm, .bool false, .int .i64 (al : Int), .slice A1 n1 c1, .slice A3 n3 c3, .slice none 0 0, .slice none 0 0]) := Lib.hid (by have := HBr_23.out.put 4 (.slice A3 n3 c3); simpa using this)
  have HBp_24 := Lib.hid (HBp_23.out.keep (Below.heap_setCell (((((u17.setCell ⟨w.heap.size + 1, 6, none⟩ (.slice A4 n4 c4)).setCell ⟨w.heap.size, 0, none⟩ (.string nm)).setCell ⟨w.heap.size, 1, none⟩ (.bool false)).setCell ⟨w.heap.size, 2, none⟩ (.int .i64 (al : Int))).setCell ⟨w.heap.size, 3, none⟩ (.slice A1 n1 c1)) ⟨w.heap.size, 4, none⟩ (.slice A3 n3 c3) _ (by show w.heap.size + 1 ≠ w.heap.size; have := HG.out; omega)))
  have HTt1_24 := Lib.hid (HTt1_23.out.keep (Only.kept9 ((Only.refl (r := w.heap.size) (w := (((((u17.setCell ⟨w.heap.size + 1, 6, none⟩ (.slice A4 n4 c4)).setCell ⟨w.heap.size, 0, none⟩ (.string nm)).setCell ⟨w.heap.size, 1, none⟩ (.bool false)).setCell ⟨w.heap.size, 2, none⟩ (.int .i64 (al : Int))).setCell ⟨w.heap.size, 3, none⟩ (.slice A1 n1 c1)))).setCell (p := ⟨w.heap.size, 4, none⟩) rfl (.slice A3 n3 c3)) (fun b hb => by have hb : w.heap.size + 2 ≤ b := hb; show b ≠ w.heap.size; omega)) (fun _ h _ => h))
  have HTt3_24 := Lib.hid (HTt3_23.out.keep (Only.kept9 ((Only.refl (r := w.heap.size) (w := (((((u17.setCell ⟨w.heap.size + 1, 6, none⟩ (.slice A4 n4 c4)).setCell ⟨w.heap.size, 0, none⟩ (.string nm)).setCell ⟨w.heap.size, 1, none⟩ (.bool false)).setCell ⟨w.heap.size, 2, none⟩ (.int .i64 (al : Int))).setCell ⟨w.heap.size, 3, none⟩ (.slice A1 n1 c1)))).setCell (p := ⟨w.heap.size, 4, none⟩) rfl (.slice A3 n3 c3)) (fun b hb => by have hb : w.heap.size + 2 ≤ b := hb; show b ≠ w.heap.size; omega)) (fun _ h _ => h))
  have HTt4_24 := Lib.hid (HTt4_23.out.keep (Only.kept9 ((Only.refl (r := w.heap.size) (w := (((((u17.setCell ⟨w.heap.size + 1, 6, none⟩ (.slice A4 n4 c4)).setCell ⟨w.heap.size, 0, none⟩ (.string nm)).setCell ⟨w.heap.size, 1, none⟩ (.bool false)).setCell ⟨w.heap.size, 2, none⟩ (.int .i64 (al : Int))).setCell ⟨w.heap.size, 3, none⟩ (.slice A1 n1 c1)))).setCell (p := ⟨w.heap.size, 4, none⟩) rfl (.slice A3 n3 c3)) (fun b hb => by have hb : w.heap.size + 2 ≤ b := hb; show b ≠ w.heap.size; omega)) (fun _ h _ => h))
  have c25 := HBr_24.out.cell 5
  have f25 := HBr_24.out.frozen 5
  have HO25 := Lib.hid (HO24.out.new (r := w.heap.size) (by have := HG.out; omega) 5 (.slice none 0 0))
  have HR25 := Lib.hid (HR24.out.set (r := w.heap.size) (by have := HG.out; omega) 5 (.slice none 0 0))
  have HBr_25 : Hid (Ob (((((((u17.setCell ⟨w.heap.size + 1, 6, none⟩ (.slice A4 n4 c4)).setCell ⟨w.heap.size, 0, none⟩ (.string nm)).setCell ⟨w.heap.size, 1, none⟩ (.bool false)).setCell ⟨w.heap.size, 2, none⟩ (.int .i64 (al : Int))).setCell ⟨w.heap.size, 3, none⟩ (.slice A1 n1 c1)).setCell ⟨w.heap.size, 4, none⟩ (.slice A3 n3 c3)).setCell ⟨w.heap.size, 5, none⟩ (.slice none 0 0)) (w.heap.size) 28 #[.string nm, .bool false, .int .i64 (al : Int), .slice A1 n1 c1, .slice A3 n3 c3, .slice none 0 0, .slice none 0 0]) := Lib.hid (by have := HBr_24.out.put 5 (.slice none 0 0); simpa using this)
  have HBp_25 := Lib.hid (HBp_24.out.keep (Below.heap_setCell ((((((u17.setCell ⟨w.heap.size + 1, 6, none⟩ (.slice A4 n4 c4)).setCell ⟨w.heap.size, 0, none⟩ (.string nm)).setCell ⟨w.heap.size, 1, none⟩ (.bool false)).setCell ⟨w.heap.size, 2, none⟩ (.int .i64 (al : Int))).setCell ⟨w.heap.size, 3, none⟩ (.slice A1 n1 c1)).setCell ⟨w.heap.size, 4, none⟩ (.slice A3 n3 c3)) ⟨w.heap.size, 5, none⟩ (.slice none 0 0) _ (by show w.heap.size + 1 ≠ w.heap.size; have := HG.out; omega)))
  have HTt1_25 := Lib.hid (HTt1_24.out.keep (Only.kept9 ((Only.refl (r := w.heap.size) (w := ((((((u17.setCell ⟨w.heap.size + 1, 6, none⟩ (.slice A4 n4 c4)).setCell ⟨w.heap.size, 0, none⟩ (.string nm)).setCell ⟨w.heap.size, 1, none⟩ (.bool false)).setCell ⟨w.heap.size, 2, none⟩ (.int .i64 (al : Int))).setCell ⟨w.heap.size, 3, none⟩ (.slice A1 n1 c1)).setCell ⟨w.heap.size, 4, none⟩ (.slice A3 n3 c3)))).setCell (p := ⟨w.heap.size, 5, none⟩) rfl (.slice none 0 0)) (fun b hb => by have hb : w.heap.size + 2 ≤ b := hb; show b ≠ w.heap.size; omega)) (fun _ h _ => h))
  have HTt3_25 := Lib.hid (HTt3_24.out.keep (Only.kept9 ((Only.refl (r := w.heap.size) (w := ((((((u17.setCell ⟨w.heap.size + 1, 6, none⟩ (.slice A4 n4 c4)).setCell ⟨w.heap.size, 0, none⟩ (.string nm)).setCell ⟨w.heap.size, 1, none⟩ (.bool false)).setCell ⟨w.heap.size, 2, none⟩ (.int .i64 (al : Int))).setCell ⟨w.heap.size, 3, none⟩ (.slice A1 n1 c1)).setCell ⟨w.heap.size, 4, none⟩ (.slice A3 n3 c3)))).setCell (p := ⟨w.heap.size, 5, none⟩) rfl (.slice none 0 0)) (fun b hb => by have hb : w.heap.size + 2 ≤ b := hb; show b ≠ w.heap.size; omega)) (fun _ h _ => h))
  have HTt4_25 := Lib.hid (HTt4_24.out.keep (Only.kept9 ((Only.refl (r := w.heap.size) (w := ((((((u17.setCell ⟨w.heap.size + 1, 6, none⟩ (.slice A4 n4 c4)).setCell ⟨w.heap.size, 0, none⟩ (.string nm)).setCell ⟨w.heap.size, 1, none⟩ (.bool false)).setCell ⟨w.heap.size, 2, none⟩ (.int .i64 (al : Int))).setCell ⟨w.heap.size, 3, none⟩ (.slice A1 n1 c1)).setCell ⟨w.heap.size, 4, none⟩ (.slice A3 n3 c3)))).setCell (p := ⟨w.heap.size, 5, none⟩) rfl (.slice none 0 0)) (fun b hb => by have hb : w.heap.size + 2 ≤ b := hb; show b ≠ w.heap.size; omega)) (fun _ h _ => h))
  have c26 := HBr_25.out.cell 6
  have f26 := HBr_25.out.frozen 6
  have HO26 := Lib.hid (HO25.out.new (r := w.heap.size) (by have := HG.out; omega) 6 (.slice A4 n4 c4))
  have HR26 := Lib.hid (HR25.out.set (r := w.heap.size) (by have := HG.out; omega) 6 (.slice A4 n4 c4))
  have HBr_26 : Hid (Ob ((((((((u17.setCell ⟨w.heap.size + 1, 6, none⟩ (.slice A4 n4 c4)).setCell ⟨w.heap.size, 0, none⟩ (.string nm)).setCell ⟨w.heap.size, 1, none⟩ (.bool false)).setCell ⟨w.heap.size, 2, none⟩ (.int .i64 (al : Int))).setCell ⟨w.heap.size, 3, none⟩ (.slice A1 n1 c1)).setCell ⟨w.heap.size, 4, none⟩ (.slice A3 n3 c3)).setCell ⟨w.heap.size, 5, none⟩ (.slice none 0 0)).setCell ⟨w.heap.size, 6, none⟩ (.slice A4 n4 c4)) (w.heap.size) 28 #[.string nm, .bool false, .int .i64 (al : Int), .slice A1 n1 c1, .slice A3 n3 c3, .slice none 0 0, .slice A4 n4 c4]) := Lib.hid (by have := HBr_25.out.put 6 (.slice A4 n4 c4); simpa using this)
  have HBp_26 := Lib.hid (HBp_25.out.keep (Below.heap_setCell (((((((u17.setCell ⟨w.heap.size + 1, 6, none⟩ (.slice A4 n4 c4)).setCell ⟨w.heap.size, 0, none⟩ (.string nm)).setCell ⟨w.heap.size, 1, none⟩ (.bool false)).setCell ⟨w.heap.size, 2, none⟩ (.int .i64 (al : Int))).setCell ⟨w.heap.size, 3, none⟩ (.slice A1 n1 c1)).setCell ⟨w.heap.size, 4, none⟩ (.slice A3 n3 c3)).setCell ⟨w.heap.size, 5, none⟩ (.slice none 0 0)) ⟨w.heap.size, 6, none⟩ (.slice A4 n4 c4) _ (by show w.heap.size + 1 ≠ w.heap.size; have := HG.out; omega)))
  have HTt1_26 := Lib.hid (HTt1_25.out.keep (Only.kept9 ((Only.refl (r := w.heap.size) (w := (((((((u17.setCell ⟨w.heap.size + 1, 6, none⟩ (.slice A4 n4 c4)).setCell ⟨w.heap.size, 0, none⟩ (.string nm)).setCell ⟨w.heap.size, 1, none⟩ (.bool false)).setCell ⟨w.heap.size, 2, none⟩ (.int .i64 (al : Int))).setCell ⟨w.heap.size, 3, none⟩ (.slice A1 n1 c1)).setCell ⟨w.heap.size, 4, none⟩ (.slice A3 n3 c3)).setCell ⟨w.heap.size, 5, none⟩ (.slice none 0 0)))).setCell (p := ⟨w.heap.size, 6, none⟩) rfl (.slice A4 n4 c4)) (fun b hb => by have hb : w.heap.size + 2 ≤ b := hb; show b ≠ w.heap.size; omega)) (fun _ h _ => h))
  have HTt3_26 := Lib.hid (HTt3_25.out.keep (Only.kept9 ((Only.refl (r := w.heap.size) (w := (((((((u17.setCell ⟨w.heap.size + 1, 6, none⟩ (.slice A4 n4 c4)).setCell ⟨w.heap.size, 0, none⟩ (.string nm)).setCell ⟨w.heap.size, 1, none⟩ (.bool false)).setCell ⟨w.heap.size, 2, none⟩ (.int .i64 (al : Int))).setCell ⟨w.heap.size, 3, none⟩ (.slice A1 n1 c1)).setCell ⟨w.heap.size, 4, none⟩ (.slice A3 n3 c3)).setCell ⟨w.heap.size, 5, none⟩ (.slice none 0 0)))).setCell (p := ⟨w.heap.size, 6, none⟩) rfl (.slice A4 n4 c4)) (fun b hb => by have hb : w.heap.size + 2 ≤ b := hb; show b ≠ w.heap.size; omega)) (fun _ h _ => h))
  have HTt4_26 := Lib.hid (HTt4_25.out.keep (Only.kept9 ((Only.refl (r := w.heap.size) (w := (((((((u17.setCell ⟨w.heap.size + 1, 6, none⟩ (.slice A4 n4 c4)).setCell ⟨w.heap.size, 0, none⟩ (.string nm)).setCell ⟨w.heap.size, 1, none⟩ (.bool false)).setCell ⟨w.heap.size, 2, none⟩ (.int .i64 (al : Int))).setCell ⟨w.heap.size, 3, none⟩ (.slice A1 n1 c1)).setCell ⟨w.heap.size, 4, none⟩ (.slice A3 n3 c3)).setCell ⟨w.heap.size, 5, none⟩ (.slice none 0 0)))).setCell (p := ⟨w.heap.size, 6, none⟩) rfl (.slice A4 n4 c4)) (fun b hb => by have hb : w.heap.size + 2 ≤ b := hb; show b ≠ w.heap.size; omega)) (fun _ h _ => h))
  go_wp2_with fail
  refine bodyPost_ret (policy_ret rfl rfl HBr_26.out rfl) rfl ?_
  rw [HIN.out.2.1, hqi]
  exact ⟨_, rfl, HO26.out, HR26.out, A1, n1, c1, A3, n3, c3, none, 0, 0, A4, n4, c4, rfl, A1, n1, c1, A3, n3, c3, none, 0, 0, A4, n4, c4, rfl, HNM.out, HAL.out, HTt1_26.out.keep (Kept.refl _ _) (fun b hb _ => by have hb : w.heap.size + 2 ≤ b := hb; show w.heap.size ≤ b; omega), HTt3_26.out.keep (Kept.refl _ _) (fun b hb _ => by have hb : w.heap.size + 2 ≤ b := hb; show w.heap.size ≤ b; omega), Rw.nil_ _ _ _ _, HTt4_26.out.keep (Kept.refl _ _) (fun b hb _ => by have hb : w.heap.size + 2 ≤ b := hb; show w.heap.size ≤ b; omega)⟩
theorem pol_read_all : ∀ f, f ≤ 4 → POk L g f
  | 0, _ => pol_read 0 (fun f' e => by omega)
  | f + 1, h => pol_read (f + 1) (fun f' e => by obtain rfl : f = f' := by omega
                                                 exact pol_read_all f (by omega))
end
end Go.Proofs.YtmoglaknmlhpgaaGreatDoor
