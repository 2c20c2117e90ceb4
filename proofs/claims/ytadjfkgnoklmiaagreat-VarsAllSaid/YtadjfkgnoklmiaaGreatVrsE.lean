/- Several texts in one: Parse10, LexBits, LexPast, ConvText, LexOne, LexClone, LexOneS, LexNumM, LexNum, LexNumS, LexText, Toks, Scopes, LexAllF, LexAll7, LexAll0, LexAll1, LexAll2, LexAll5, LexAll6. -/
import Derived.Test.YtadjfkgnoklmiaaGreatVrsD
import Derived.Test.YtadjfkgnoklmiaaGreatVrsC
import Derived.Test.YtadjfkgnoklmiaaGreatVrsA
import Derived.Laws.BytesArg
import Derived.Test.YtadjfkgnoklmiaaGreatVrsB
import Derived.Lib.Strings
import Derived.Lib.Walk
import Derived.Lib.BufferWrite
import Derived.Lib.UnsafeStr
import Derived.Laws.MakeOwn
import Derived.OwnWalk
import Derived.Deep.RegionLaw
import Derived.Laws.OwnMore
import Derived.Maps.AppendAt
import Derived.ScopeJumps
import Derived.WalkMore
import Derived.Deep.Cut
/- The parser: policies. -/
namespace Go.Proofs.YtadjfkgnoklmiaaGreat
set_option linter.unusedVariables false
open Go.RowKit

theorem policy_ret {fn : Func} {t : Tmp} {tmps : Array Value} {w : World} {g : Nat} {cs : Array Value} (h : fn.results = #[.cell t 28]) (hp : tmps.getD t undef = .pointer (some ⟨g, 0, none⟩)) (hg : Ob w g 28 cs) (h3 : cs.size = 7) :
    (results fn tmps).run Tryz.prog w = .ok (.agg cs) w := results_cell_row h tmps w g _ _ (0, 0) _ hp hg Tryz.underlying28 rfl (by rw [h3]; kernel_rfl)
def PolOf (w w' : World) (f : Nat) (p : Pol) (x : Value) : Prop := ∃ A1 n1 c1 A2 n2 c2 A3 n3 c3 A4 n4 c4, x = .agg #[.string p.id, .bool p.set, .int .i64 p.alg, .slice A1 n1 c1, .slice A2 n2 c2, .slice A3 n3 c3, .slice A4 n4 c4] ∧
  PolAt w' (fun b => w.heap.size ≤ b) f [.string p.id, .bool p.set, .int .i64 p.alg, .slice A1 n1 c1, .slice A2 n2 c2, .slice A3 n3 c3, .slice A4 n4 c4] p
def POk (L g f : Nat) : Prop := ∀ (w : World) (s : Pz) (dd : Int), dd = 5 - (f : Int) → f ≤ 4 → Rd L w g s → s.met + s.rest.length ≤ 5990 →
  Calls Tryz.prog 46 #[.pointer (some ⟨g, 0, none⟩), .int .i64 dd] w fun x w' => ∃ y, x = .returned y ∧ Only g w w' ∧ Rd L w' g (polR (f + 1) s).2 ∧ PolOf w w' (f + 1) (polR (f + 1) s).1 y
theorem kidsR_stop {po : Pz → Pol × Pz} {n : Nat} {l : List Pol} {s : Pz} (h : seesR [w_policy, w_set] s = 0) : kidsR po (n + 1) l s = (l, s) := by
  unfold kidsR
  rw [if_pos h]
theorem kidsR_succ {po : Pz → Pol × Pz} {n : Nat} {l : List Pol} {s s1 s3 : Pz} {u : Pol} {m : Int} (h : seesR [w_policy, w_set] s ≠ 0) (hm : (l.length : Int) + 1 = m) (h1 : mostR m 16 s = s1) (h3 : po s1 = (u, s3)) : kidsR po (n + 1) l s = kidsR po n (l ++ [u]) s3 := by
  conv => lhs; unfold kidsR
  rw [if_neg h]
  simp only [hm, h1, h3]
section
variable {L g : Nat} {w : World} {s : Pz}
set_option maxHeartbeats 3200000 in
theorem pkids_any (h : Rd L w g s) (hsum : s.met + s.rest.length ≤ 5990) {f' : Nat} (hf : f' ≤ 3) (ih : POk L g f') (dd : Int) (hdd : dd = 5 - (f' : Int)) : Calls Tryz.prog 77 #[.pointer (some ⟨g, 0, none⟩), .int .i64 dd] w fun x w' => ∃ A n c, x = .returned (.slice A n c) ∧ Only g w w' ∧ Rd L w' g (kidsR (polR (f' + 1)) s.rest.length [] s).2 ∧ Pls w' (fun b => w.heap.size ≤ b) (f' + 1) A n c (kidsR (polR (f' + 1)) s.rest.length [] s).1 := by
  have HG0 : Hid (g < w.heap.size) := h.lt
  have HL0 : Hid (s.rest.length ≤ 5000) := h.ok.2.2.1.1
  have HH := Lib.hid h
  have HS := Lib.hid hsum
  have HIH : Hid (∀ (w : World) (s : Pz), Rd L w g s → s.met + s.rest.length ≤ 5990 →
      Calls Tryz.prog 46 #[.pointer (some ⟨g, 0, none⟩), .int .i64 dd] w fun x w' => ∃ y, x = .returned y ∧ Only g w w' ∧ Rd L w' g (polR (f' + 1) s).2 ∧ PolOf w w' (f' + 1) (polR (f' + 1) s).1 y) := fun w s h hs => ih w s dd hdd (by omega) h hs
  obtain ⟨z, hz⟩ : ∃ z, z = kidsR (polR (f' + 1)) s.rest.length [] s := ⟨_, rfl⟩
  have HZ : Hid (z = kidsR (polR (f' + 1)) s.rest.length [] s) := hz
  rw [← hz]
  have HPG := Lib.hid (pol_go (L := L) f')
  clear h hz hsum ih hdd
  go_enter Tryz.func77, Tryz.ntmps77
  go_wp2
  go_loopw [5] (fun v wr => ∃ (k : Nat) (A : Option Addr) (c : Nat) (l : List Pol) (s' : Pz) (q : Nat), v = .slice A k c ∧ Only g w wr ∧ Rd L wr g s' ∧ Gr 7 (fun w R => PolAt w R (f' + 1)) wr w.heap.size 28 A k c l ∧ k + s'.rest.length ≤ s.rest.length ∧ s'.rest.length ≤ q ∧ s'.met + s'.rest.length ≤ 5990 ∧ kidsR (polR (f' + 1)) q l s' = z) (fun v wr => restN wr g)
  case atStart => exact ⟨0, none, 0, [], s, s.rest.length, rfl, Only.refl, HH.out, Gr.nil _ _ (Nat.le_refl _), by omega, Nat.le_refl _, HS.out, HZ.out.symm⟩
  case round =>
    obtain ⟨k, A, c, l, s', q, rfl, ho, hr, hg, hk, hq, hs, he⟩ := hrel
    have HOw := Lib.hid ho
    have HR0 := Lib.hid hr
    have HGr := Lib.hid hg
    have HK := Lib.hid hk
    have HQ := Lib.hid hq
    have HSM := Lib.hid hs
    have hq1 := hr.ok.pos
    obtain ⟨q, rfl⟩ : ∃ q', q = q' + 1 := ⟨q - 1, by omega⟩
    have HRN := Lib.hid hr.restN
    by_cases hi : seesR [w_policy, w_set] s' = 0
    · have HE := Lib.hid ((kidsR_stop hi).symm.trans he)
      have HI := Lib.hid hi
      clear ho hr hg hk hq hs he hi hq1
      go_wp2_with fail
      go_at_call 116
      refine (psees_lit HR0.out [w_policy, w_set] #[.string ⟨#[112, 111, 108, 105, 99, 121]⟩, .string ⟨#[115, 101, 116]⟩] 2 rfl rfl (by omega) rfl).mono ?_
      rintro x u1 ⟨hx, hb⟩
      obtain rfl : x = .returned (.int .i64 ((0 : Nat) : Int)) := by rw [hx, HI.out] <;> rfl
      have HB := Lib.hid hb
      clear hx hb
      go_wp2_with fail
      go_ret
      rw [← HE.out]
      exact ⟨A, k, c, rfl, HOw.out.then_ HB.out, HR0.out.then_ HB.out, Pls.keep ((Gr.below (keeps_pol (f' + 1)) HGr.out HB.out).rw (keeps_pol (f' + 1)) (by have := HL0.out; have := HK.out; omega)) (Kept.refl _ _) (fun _ h _ => h)⟩
    · obtain ⟨s1, e1⟩ : ∃ y, mostR ((k : Int) + 1) 16 s' = y := ⟨_, rfl⟩
      obtain ⟨u, s3, e3⟩ : ∃ x y, polR (f' + 1) s1 = (x, y) := ⟨_, _, rfl⟩
      have HE := Lib.hid ((kidsR_succ hi (by rw [hg.len]) e1 e3).symm.trans he)
      obtain ⟨r4, r5, r6⟩ := round_kid HPG.out hr.ok hs hi ((k : Int) + 1)
      have r7 := most_sum hr.ok ((k : Int) + 1) 16
      rw [e1] at r7
      rw [e1, e3] at r4 r5 r6
      have HTL : Hid (s3.rest.length + 1 ≤ s'.rest.length ∧ s3.met + s3.rest.length ≤ s'.met + s'.rest.length ∧ s1.met + s1.rest.length ≤ 5990) := ⟨r5, r6, by omega⟩
      have hk63 : k < 1000000 := by have := HL0.out; omega
      have HI := Lib.hid (show 0 < seesR [w_policy, w_set] s' by omega)
      have E1 := Lib.hid e1
      have E3 := Lib.hid e3
      clear ho hr hg hk hq hs he hi hq1 e1 e3 r4 r5 r6 r7
      generalize hsv : seesR [w_policy, w_set] s' = sv at *
      have HSV := Lib.hid hsv
      have hsv2 : decide ((0 : Int) < (sv : Int)) = true := decide_eq_true (by have := HI.out; omega)
      clear hsv
      go_wp2_with fail
      go_at_call 116
      refine (psees_lit HR0.out [w_policy, w_set] #[.string ⟨#[112, 111, 108, 105, 99, 121]⟩, .string ⟨#[115, 101, 116]⟩] 2 rfl rfl (by omega) rfl).mono ?_
      rintro x u1 ⟨hx, hb⟩
      obtain rfl : x = .returned (.int .i64 (sv : Int)) := by rw [hx, HSV.out] <;> rfl
      have HR1 := Lib.hid (HR0.out.then_ hb)
      have G1 := Lib.hid (Gr.below (keeps_pol (f' + 1)) HGr.out hb)
      have O1 := Lib.hid (HOw.out.then_ hb)
      clear hx hb
      go_wp2_with fail
      go_at_call 73
      refine (pmost_any HR1.out ((k : Int) + 1) 16).mono ?_
      rintro x u2 ⟨rfl, ho, hr⟩
      rw [E1.out] at hr
      have O3 := Lib.hid (O1.out.trans ho)
      have HR3 := Lib.hid hr
      have G3 := Lib.hid (Gr.only (keeps_pol (f' + 1)) G1.out ho HG0.out)
      clear ho hr
      go_wp2_with fail
      go_at_call 46
      refine (HIH.out _ s1 HR3.out HTL.out.2.2).mono ?_
      rintro x u4 ⟨y, rfl, ho, hr, A1, n1, c1, A2, n2, c2, A3, n3, c3, A4, n4, c4, rfl, hp⟩
      rw [E3.out] at hr hp
      rw [E3.out]
      have hgr := Gr.only (keeps_pol (f' + 1)) G3.out ho HG0.out
      have ap : ∀ b, u2.heap.size ≤ b → Nb w.heap.size (.slice A k c) b := fun b hb => G3.out.apart b hb
      obtain ⟨A5, c5, u5, r5, g5, b5⟩ := push_pol hgr (PolAt.keep (Kept.refl _ _) (fun b hb _ => ap b hb) hp) hk63
      have O5 := Lib.hid ((O3.out.trans ho).below_at b5)
      have HR5 := Lib.hid (hr.below b5 HG0.out)
      have R5 := Lib.hid r5
      have G5 := Lib.hid g5
      clear ho hr hp hgr ap r5 g5 b5
      go_wp2_with (at_builtin; refine wpList_append_run (o := ⟨some 20, _, _, _, _, _⟩) rfl _ _ _ _ rfl rfl rfl R5.out ?_)
      go_roundw
      case rel => exact ⟨k + 1, A5, c5, l ++ [u], s3, q, rfl, O5.out, HR5.out, G5.out, by have := HTL.out; have := HK.out; omega, by have := HTL.out; have := HQ.out; omega, by have := HTL.out; have := HSM.out; omega, HE.out⟩
      case measure => rw [HR5.out.restN, HRN.out]; have := HTL.out; omega
theorem mustR_in (ws : List ByteArray) (s : Pz) (h : ws.length ≤ 100) : InI ((mustR ws s).1 : Int) := by
  have := mustR_le ws s
  exact in_small (by omega) (by omega)
set_option maxHeartbeats 6400000 in
theorem pol_read (f : Nat) (ih : ∀ f', f = f' + 1 → POk L g f') : POk L g f := by
  intro w s dd hdd hf4 h hsum
  obtain ⟨s0, e0⟩ : ∃ y, mostR (5 - (f : Int)) 4 s = y := ⟨_, rfl⟩
  obtain ⟨i, s1, e1⟩ : ∃ x y, mustR [w_policy, w_set] s0 = (x, y) := ⟨_, _, rfl⟩
  obtain ⟨nm, s2, e2⟩ : ∃ x y, nameR s1 = (x, y) := ⟨_, _, rfl⟩
  obtain ⟨al, s3, e3⟩ : ∃ x y, mustR w_algs s2 = (x, y) := ⟨_, _, rfl⟩
  obtain ⟨tt, s4, e4⟩ : ∃ x y, targetR s3 = (x, y) := ⟨_, _, rfl⟩
  obtain ⟨j5, s5, e5⟩ : ∃ x y, mustR [m_lb] s4 = (x, y) := ⟨_, _, rfl⟩
  obtain ⟨rr, kk, s6, e6⟩ : ∃ x y z, inR f i s5 = (x, y, z) := ⟨_, _, _, rfl⟩
  obtain ⟨j7, s7, e7⟩ : ∃ x y, mustR [m_rb] s6 = (x, y) := ⟨_, _, rfl⟩
  obtain ⟨oo, s8, e8⟩ : ∃ x y, dutsR s7 = (x, y) := ⟨_, _, rfl⟩
  have G0 : Go2 L s s0 := .of (e0 ▸ most_go h.ok _ _) (e0 ▸ mostR_met _ _ _)
  have k0 := G0.1.1
  have G1 : Go2 L s0 s1 := .of (by have := must_go k0 [w_policy, w_set]; rwa [e1] at this) (by have := mustR_met [w_policy, w_set] s0; rwa [e1] at this)
  have k1 := G1.1.1
  have G2 : Go2 L s1 s2 := .of (by have := name_go k1; rwa [e2] at this) (by have := nameR_met s1; rwa [e2] at this)
  have k2 := G2.1.1
  have G3 : Go2 L s2 s3 := .of (by have := must_go k2 w_algs; rwa [e3] at this) (by have := mustR_met w_algs s2; rwa [e3] at this)
  have k3 := G3.1.1
  have G4 : Go2 L s3 s4 := .of (by have := target_go k3; rwa [e4] at this) (by have := targetR_met s3; rwa [e4] at this)
  have k4 := G4.1.1
  have G5 : Go2 L s4 s5 := .of (by have := must_go k4 [m_lb]; rwa [e5] at this) (by have := mustR_met [m_lb] s4; rwa [e5] at this)
  have HSM : Hid (s5.met + s5.rest.length ≤ 5990) := by show _ ≤ _; have := G0.2; have := G1.2; have := G2.2; have := G3.2; have := G4.2; have := G5.2; omega
  have HNM : Hid (nm.size ≤ maxLen) := by have := nameR_size k1; rw [e2] at this; exact this
  have HAL : Hid (InI (al : Int)) := by have := mustR_in w_algs s2 (by decide); rw [e3] at this; exact this
  have HI0 : f = 0 → i ≠ 2 := by
    rintro rfl hi
    have h5 : s0.rest.length = 1 := by
      rw [← e0]
      unfold mostR
      rw [if_pos (by omega)]
      exact failR_len _ _ h.ok
    have := must_one k0 h5 [w_policy, w_set]
    rw [e1] at this
    simp only at this
    omega
  have hq := eq2 i
  rw [polR_eq f s e0 e1 e2 e3 e4 e5 e6 e7 e8]
  clear G0 G1 G2 G3 G4 G5 k0 k1 k2 k3 k4
  by_cases hi : i = 2
  · obtain ⟨f', rfl⟩ : ∃ f', f = f' + 1 := ⟨f - 1, by have : f ≠ 0 := fun e => HI0 e hi; omega⟩
    have HIH := Lib.hid (ih f' rfl)
    have HIN : Hid (rr = [] ∧ kk = (kidsR (polR (f' + 1)) s5.rest.length [] s5).1 ∧ s6 = (kidsR (polR (f' + 1)) s5.rest.length [] s5).2) := by
      show _ ∧ _ ∧ _
      unfold inR at e6
      rw [if_pos hi] at e6
      injection e6 with x1 x2
      exact ⟨x1.symm, by rw [x2], by rw [x2]⟩
    subst hi
    have hd1 : -100 ≤ dd := by omega
    have hd2 : dd ≤ 100 := by omega
    have HD : Hid (dd + 1 = 5 - (f' : Int) ∧ f' ≤ 3) := ⟨by omega, by omega⟩
    have hq : ((2 : Int) == 2) = true := rfl
    have E0 : Hid (mostR dd 4 s = s0) := by rw [hdd]; exact Lib.hid e0
    have E1 := Lib.hid e1
    have E2 := Lib.hid e2
    have E3 := Lib.hid e3
    have E4 := Lib.hid e4
    have E5 := Lib.hid e5
    have E7 := Lib.hid e7
    have E8 := Lib.hid e8
    have HG : Hid (g < w.heap.size) := h.lt
    have HBr_1 : Hid (Ob (w.alloc (.cells #[.string ⟨#[]⟩, .bool false, .int .i64 0, .slice none 0 0, .slice none 0 0, .slice none 0 0, .slice none 0 0] 28)) (w.heap.size) 28 #[.string ⟨#[]⟩, .bool false, .int .i64 0, .slice none 0 0, .slice none 0 0, .slice none 0 0, .slice none 0 0]) := Lib.hid (by have := Ob.made w 28 #[.string ⟨#[]⟩, .bool false, .int .i64 0, .slice none 0 0, .slice none 0 0, .slice none 0 0, .slice none 0 0]; simpa using this)
    have HBr_2 := Lib.hid (HBr_1.out.keep (Below.heap_alloc (w.alloc (.cells #[.string ⟨#[]⟩, .bool false, .int .i64 0, .slice none 0 0, .slice none 0 0, .slice none 0 0, .slice none 0 0] 28)) (.cells #[.string ⟨#[]⟩, .bool false, .int .i64 0, .slice none 0 0, .slice none 0 0, .slice none 0 0, .slice none 0 0] 28) _ HBr_1.out.lt))
    have HBp_2 : Hid (Ob ((w.alloc (.cells #[.string ⟨#[]⟩, .bool false, .int .i64 0, .slice none 0 0, .slice none 0 0, .slice none 0 0, .slice none 0 0] 28)).alloc (.cells #[.string ⟨#[]⟩, .bool false, .int .i64 0, .slice none 0 0, .slice none 0 0, .slice none 0 0, .slice none 0 0] 28)) (w.heap.size + 1) 28 #[.string ⟨#[]⟩, .bool false, .int .i64 0, .slice none 0 0, .slice none 0 0, .slice none 0 0, .slice none 0 0]) := Lib.hid (by have := Ob.made (w.alloc (.cells #[.string ⟨#[]⟩, .bool false, .int .i64 0, .slice none 0 0, .slice none 0 0, .slice none 0 0, .slice none 0 0] 28)) 28 #[.string ⟨#[]⟩, .bool false, .int .i64 0, .slice none 0 0, .slice none 0 0, .slice none 0 0, .slice none 0 0]; simpa using this)
    have HR0 := Lib.hid ((h.alloc (.cells #[.string ⟨#[]⟩, .bool false, .int .i64 0, .slice none 0 0, .slice none 0 0, .slice none 0 0, .slice none 0 0] 28)).alloc (.cells #[.string ⟨#[]⟩, .bool false, .int .i64 0, .slice none 0 0, .slice none 0 0, .slice none 0 0, .slice none 0 0] 28))
    have HO0 := Lib.hid (((Only.refl (r := g) (w := w)).al (.cells #[.string ⟨#[]⟩, .bool false, .int .i64 0, .slice none 0 0, .slice none 0 0, .slice none 0 0, .slice none 0 0] 28)).al (.cells #[.string ⟨#[]⟩, .bool false, .int .i64 0, .slice none 0 0, .slice none 0 0, .slice none 0 0, .slice none 0 0] 28))
    clear h hsum e0 e1 e2 e3 e4 e5 e6 e7 e8 ih HI0 hf4 hdd
    go_enter Tryz.func46, Tryz.ntmps46
    go_wp2_with fail
    go_at_call 73
    refine (pmost_any HR0.out dd 4).mono ?_
    rintro x u3 ⟨rfl, ho, hr⟩
    rw [E0.out] at hr
    have HO3 := Lib.hid (HO0.out.trans ho)
    have HR3 := Lib.hid hr
    have HBr_3 := Lib.hid (HBr_2.out.keep (ho.heap HBr_2.out.lt (by have := HG.out; omega)))
    have HBp_3 := Lib.hid (HBp_2.out.keep (ho.heap HBp_2.out.lt (by have := HG.out; omega)))
    clear ho hr
    go_wp2_with fail
    go_at_call 74
    refine (pmust_lit HR3.out [w_policy, w_set] #[.string ⟨#[112, 111, 108, 105, 99, 121]⟩, .string ⟨#[115, 101, 116]⟩] 2 rfl rfl (by omega) (by first | rfl | (simp; done) | (simp [World.setCell]; done))).mono ?_
    rintro x u4 ⟨hx, ho, hr⟩
    obtain rfl : x = .returned (.int .i64 ((2 : Nat) : Int)) := by rw [hx, E1.out] <;> rfl
    rw [E1.out] at hr
    clear hx
    have HO4 := Lib.hid (HO3.out.trans ho)
    have HR4 := Lib.hid hr
    have HBr_4 := Lib.hid (HBr_3.out.keep (ho.heap HBr_3.out.lt (by have := HG.out; omega)))
    have HBp_4 := Lib.hid (HBp_3.out.keep (ho.heap HBp_3.out.lt (by have := HG.out; omega)))
    clear ho hr
    have c5 := HBp_4.out.cell 1
    have f5 := HBp_4.out.frozen 1
    have HO5 := Lib.hid (HO4.out.new (r := w.heap.size + 1) (by have := HG.out; omega) 1 (.bool true))
    have HR5 := Lib.hid (HR4.out.set (r := w.heap.size + 1) (by have := HG.out; omega) 1 (.bool true))
    have HBr_5 := Lib.hid (HBr_4.out.keep (Below.heap_setCell u4 ⟨w.heap.size + 1, 1, none⟩ (.bool true) _ (by show w.heap.size ≠ w.heap.size + 1; have := HG.out; omega)))
    have HBp_5 : Hid (Ob (u4.setCell ⟨w.heap.size + 1, 1, none⟩ (.bool true)) (w.heap.size + 1) 28 #[.string ⟨#[]⟩, .bool true, .int .i64 0, .slice none 0 0, .slice none 0 0, .slice none 0 0, .slice none 0 0]) := Lib.hid (by have := HBp_4.out.put 1 (.bool true); simpa using this)
    go_wp2_with fail
    go_at_call 75
    refine (pname_any HR5.out).mono ?_
    rintro x u6 ⟨hx, ho, hr⟩
    obtain rfl : x = .returned (.string nm) := by rw [hx, E2.out] <;> rfl
    rw [E2.out] at hr
    clear hx
    have HO6 := Lib.hid (HO5.out.trans ho)
    have HR6 := Lib.hid hr
    have HBr_6 := Lib.hid (HBr_5.out.keep (ho.heap HBr_5.out.lt (by have := HG.out; omega)))
    have HBp_6 := Lib.hid (HBp_5.out.keep (ho.heap HBp_5.out.lt (by have := HG.out; omega)))
    clear ho hr
    have c7 := HBp_6.out.cell 0
    have f7 := HBp_6.out.frozen 0
    have HO7 := Lib.hid (HO6.out.new (r := w.heap.size + 1) (by have := HG.out; omega) 0 (.string nm))
    have HR7 := Lib.hid (HR6.out.set (r := w.heap.size + 1) (by have := HG.out; omega) 0 (.string nm))
    have HBr_7 := Lib.hid (HBr_6.out.keep (Below.heap_setCell u6 ⟨w.heap.size + 1, 0, none⟩ (.string nm) _ (by show w.heap.size ≠ w.heap.size + 1; have := HG.out; omega)))
    have HBp_7 : Hid (Ob (u6.setCell ⟨w.heap.size + 1, 0, none⟩ (.string nm)) (w.heap.size + 1) 28 #[.string nm, .bool true, .int .i64 0, .slice none 0 0, .slice none 0 0, .slice none 0 0, .slice none 0 0]) := Lib.hid (by have := HBp_6.out.put 0 (.string nm); simpa using this)
    go_wp2_with fail
    go_at_call 74
    refine (pmust_lit HR7.out [w_denyover, w_permitover, w_first, w_only, w_denyunless, w_permitunless] #[.string ⟨#[100, 101, 110, 121, 111, 118, 101, 114]⟩, .string ⟨#[112, 101, 114, 109, 105, 116, 111, 118, 101, 114]⟩, .string ⟨#[102, 105, 114, 115, 116]⟩, .string ⟨#[111, 110, 108, 121]⟩, .string ⟨#[100, 101, 110, 121, 117, 110, 108, 101, 115, 115]⟩, .string ⟨#[112, 101, 114, 109, 105, 116, 117, 110, 108, 101, 115, 115]⟩] 6 rfl rfl (by omega) (by first | rfl | (simp; done) | (simp [World.setCell]; done))).mono ?_
    rintro x u8 ⟨hx, ho, hr⟩
    obtain rfl : x = .returned (.int .i64 (al : Int)) := by rw [hx, E3.out] <;> rfl
    rw [E3.out] at hr
    clear hx
    have HO8 := Lib.hid (HO7.out.trans ho)
    have HR8 := Lib.hid hr
    have HBr_8 := Lib.hid (HBr_7.out.keep (ho.heap HBr_7.out.lt (by have := HG.out; omega)))
    have HBp_8 := Lib.hid (HBp_7.out.keep (ho.heap HBp_7.out.lt (by have := HG.out; omega)))
    clear ho hr
    have c9 := HBp_8.out.cell 2
    have f9 := HBp_8.out.frozen 2
    have HO9 := Lib.hid (HO8.out.new (r := w.heap.size + 1) (by have := HG.out; omega) 2 (.int .i64 (al : Int)))
    have HR9 := Lib.hid (HR8.out.set (r := w.heap.size + 1) (by have := HG.out; omega) 2 (.int .i64 (al : Int)))
    have HBr_9 := Lib.hid (HBr_8.out.keep (Below.heap_setCell u8 ⟨w.heap.size + 1, 2, none⟩ (.int .i64 (al : Int)) _ (by show w.heap.size ≠ w.heap.size + 1; have := HG.out; omega)))
    have HBp_9 : Hid (Ob (u8.setCell ⟨w.heap.size + 1, 2, none⟩ (.int .i64 (al : Int))) (w.heap.size + 1) 28 #[.string nm, .bool true, .int .i64 (al : Int), .slice none 0 0, .slice none 0 0, .slice none 0 0, .slice none 0 0]) := Lib.hid (by have := HBp_8.out.put 2 (.int .i64 (al : Int)); simpa using this)
    go_wp2_with fail
    go_at_call 76
    refine (ptarget_any HR9.out).mono ?_
    rintro x u10 ⟨A1, n1, c1, rfl, ho, hr, ht1⟩
    rw [E4.out] at hr ht1
    have HO10 := Lib.hid (HO9.out.trans ho)
    have HR10 := Lib.hid hr
    have HBr_10 := Lib.hid (HBr_9.out.keep (ho.heap HBr_9.out.lt (by have := HG.out; omega)))
    have HBp_10 := Lib.hid (HBp_9.out.keep (ho.heap HBp_9.out.lt (by have := HG.out; omega)))
    have HTt1_10 := Lib.hid (ht1.keep (Kept.refl _ _) (R' := fun b => w.heap.size + 2 ≤ b) (fun b hb _ => by have hb : ((u8.setCell ⟨w.heap.size + 1, 2, none⟩ (.int .i64 (al : Int)))).heap.size ≤ b := hb; have := HBp_9.out.lt; show w.heap.size + 2 ≤ b; omega))
    clear ho hr ht1
    have c11 := HBp_10.out.cell 3
    have f11 := HBp_10.out.frozen 3
    have HO11 := Lib.hid (HO10.out.new (r := w.heap.size + 1) (by have := HG.out; omega) 3 (.slice A1 n1 c1))
    have HR11 := Lib.hid (HR10.out.set (r := w.heap.size + 1) (by have := HG.out; omega) 3 (.slice A1 n1 c1))
    have HBr_11 := Lib.hid (HBr_10.out.keep (Below.heap_setCell u10 ⟨w.heap.size + 1, 3, none⟩ (.slice A1 n1 c1) _ (by show w.heap.size ≠ w.heap.size + 1; have := HG.out; omega)))
    have HBp_11 : Hid (Ob (u10.setCell ⟨w.heap.size + 1, 3, none⟩ (.slice A1 n1 c1)) (w.heap.size + 1) 28 #[.string nm, .bool true, .int .i64 (al : Int), .slice A1 n1 c1, .slice none 0 0, .slice none 0 0, .slice none 0 0]) := Lib.hid (by have := HBp_10.out.put 3 (.slice A1 n1 c1); simpa using this)
    have HTt1_11 := Lib.hid (HTt1_10.out.keep (Only.kept9 ((Only.refl (r := w.heap.size + 1) (w := u10)).setCell (p := ⟨w.heap.size + 1, 3, none⟩) rfl (.slice A1 n1 c1)) (fun b hb => by have hb : w.heap.size + 2 ≤ b := hb; show b ≠ w.heap.size + 1; omega)) (fun _ h _ => h))
    go_wp2_with fail
    go_at_call 74
    refine (pmust_lit HR11.out [m_lb] #[.string ⟨#[123]⟩] 1 rfl rfl (by omega) (by first | rfl | (simp; done) | (simp [World.setCell]; done))).mono ?_
    rintro x u12 ⟨rfl, ho, hr⟩
    rw [E5.out] at hr
    have HO12 := Lib.hid (HO11.out.trans ho)
    have HR12 := Lib.hid hr
    have HBr_12 := Lib.hid (HBr_11.out.keep (ho.heap HBr_11.out.lt (by have := HG.out; omega)))
    have HBp_12 := Lib.hid (HBp_11.out.keep (ho.heap HBp_11.out.lt (by have := HG.out; omega)))
    have HTt1_12 := Lib.hid (HTt1_11.out.keep (ho.kept9 (fun b hb => by have := HG.out; have hb : w.heap.size + 2 ≤ b := hb; show b ≠ g; omega)) (fun _ h _ => h))
    clear ho hr
    have c13_1 := HBp_12.out.cell 1
    go_wp2_with fail
    go_at_call 77
    refine (pkids_any HR12.out HSM.out HD.out.2 HIH.out (dd + 1) HD.out.1).mono ?_
    rintro x u14 ⟨A3, n3, c3, rfl, ho, hr, ht3⟩
    rw [← HIN.out.2.2] at hr
    rw [← HIN.out.2.1] at ht3
    have HO14 := Lib.hid (HO12.out.trans ho)
    have HR14 := Lib.hid hr
    have HBr_14 := Lib.hid (HBr_12.out.keep (ho.heap HBr_12.out.lt (by have := HG.out; omega)))
    have HBp_14 := Lib.hid (HBp_12.out.keep (ho.heap HBp_12.out.lt (by have := HG.out; omega)))
    have HTt1_14 := Lib.hid (HTt1_12.out.keep (ho.kept9 (fun b hb => by have := HG.out; have hb : w.heap.size + 2 ≤ b := hb; show b ≠ g; omega)) (fun _ h _ => h))
    have HTt3_14 := Lib.hid (ht3.keep (Kept.refl _ _) (R' := fun b => w.heap.size + 2 ≤ b) (fun b hb _ => by have hb : (u12).heap.size ≤ b := hb; have := HBp_12.out.lt; show w.heap.size + 2 ≤ b; omega))
    clear ho hr ht3
    have c15 := HBp_14.out.cell 5
    have f15 := HBp_14.out.frozen 5
    have HO15 := Lib.hid (HO14.out.new (r := w.heap.size + 1) (by have := HG.out; omega) 5 (.slice A3 n3 c3))
    have HR15 := Lib.hid (HR14.out.set (r := w.heap.size + 1) (by have := HG.out; omega) 5 (.slice A3 n3 c3))
    have HBr_15 := Lib.hid (HBr_14.out.keep (Below.heap_setCell u14 ⟨w.heap.size + 1, 5, none⟩ (.slice A3 n3 c3) _ (by show w.heap.size ≠ w.heap.size + 1; have := HG.out; omega)))
    have HBp_15 : Hid (Ob (u14.setCell ⟨w.heap.size + 1, 5, none⟩ (.slice A3 n3 c3)) (w.heap.size + 1) 28 #[.string nm, .bool true, .int .i64 (al : Int), .slice A1 n1 c1, .slice none 0 0, .slice A3 n3 c3, .slice none 0 0]) := Lib.hid (by have := HBp_14.out.put 5 (.slice A3 n3 c3); simpa using this)
    have HTt1_15 := Lib.hid (HTt1_14.out.keep (Only.kept9 ((Only.refl (r := w.heap.size + 1) (w := u14)).setCell (p := ⟨w.heap.size + 1, 5, none⟩) rfl (.slice A3 n3 c3)) (fun b hb => by have hb : w.heap.size + 2 ≤ b := hb; show b ≠ w.heap.size + 1; omega)) (fun _ h _ => h))
    have HTt3_15 := Lib.hid (HTt3_14.out.keep (Only.kept9 ((Only.refl (r := w.heap.size + 1) (w := u14)).setCell (p := ⟨w.heap.size + 1, 5, none⟩) rfl (.slice A3 n3 c3)) (fun b hb => by have hb : w.heap.size + 2 ≤ b := hb; show b ≠ w.heap.size + 1; omega)) (fun _ h _ => h))
    go_wp2_with fail
    go_at_call 74
    refine (pmust_lit HR15.out [m_rb] #[.string ⟨#[125]⟩] 1 rfl rfl (by omega) (by first | rfl | (simp; done) | (simp [World.setCell]; done))).mono ?_
    rintro x u16 ⟨rfl, ho, hr⟩
    rw [E7.out] at hr
    have HO16 := Lib.hid (HO15.out.trans ho)
    have HR16 := Lib.hid hr
    have HBr_16 := Lib.hid (HBr_15.out.keep (ho.heap HBr_15.out.lt (by have := HG.out; omega)))
    have HBp_16 := Lib.hid (HBp_15.out.keep (ho.heap HBp_15.out.lt (by have := HG.out; omega)))
    have HTt1_16 := Lib.hid (HTt1_15.out.keep (ho.kept9 (fun b hb => by have := HG.out; have hb : w.heap.size + 2 ≤ b := hb; show b ≠ g; omega)) (fun _ h _ => h))
    have HTt3_16 := Lib.hid (HTt3_15.out.keep (ho.kept9 (fun b hb => by have := HG.out; have hb : w.heap.size + 2 ≤ b := hb; show b ≠ g; omega)) (fun _ h _ => h))
    clear ho hr
    go_wp2_with fail
    go_at_call 79
    refine (pduts_any HR16.out).mono ?_
    rintro x u17 ⟨A4, n4, c4, rfl, ho, hr, ht4⟩
    rw [E8.out] at hr ht4
    have HO17 := Lib.hid (HO16.out.trans ho)
    have HR17 := Lib.hid hr
    have HBr_17 := Lib.hid (HBr_16.out.keep (ho.heap HBr_16.out.lt (by have := HG.out; omega)))
    have HBp_17 := Lib.hid (HBp_16.out.keep (ho.heap HBp_16.out.lt (by have := HG.out; omega)))
    have HTt1_17 := Lib.hid (HTt1_16.out.keep (ho.kept9 (fun b hb => by have := HG.out; have hb : w.heap.size + 2 ≤ b := hb; show b ≠ g; omega)) (fun _ h _ => h))
    have HTt3_17 := Lib.hid (HTt3_16.out.keep (ho.kept9 (fun b hb => by have := HG.out; have hb : w.heap.size + 2 ≤ b := hb; show b ≠ g; omega)) (fun _ h _ => h))
    have HTt4_17 := Lib.hid (ht4.keep (Kept.refl _ _) (R' := fun b => w.heap.size + 2 ≤ b) (fun b hb _ => by have hb : (u16).heap.size ≤ b := hb; have := HBp_16.out.lt; show w.heap.size + 2 ≤ b; omega))
    clear ho hr ht4
    have c18 := HBp_17.out.cell 6
    have f18 := HBp_17.out.frozen 6
    have HO18 := Lib.hid (HO17.out.new (r := w.heap.size + 1) (by have := HG.out; omega) 6 (.slice A4 n4 c4))
    have HR18 := Lib.hid (HR17.out.set (r := w.heap.size + 1) (by have := HG.out; omega) 6 (.slice A4 n4 c4))
    have HBr_18 := Lib.hid (HBr_17.out.keep (Below.heap_setCell u17 ⟨w.heap.size + 1, 6, none⟩ (.slice A4 n4 c4) _ (by show w.heap.size ≠ w.heap.size + 1; have := HG.out; omega)))
    have HBp_18 : Hid (Ob (u17.setCell ⟨w.heap.size + 1, 6, none⟩ (.slice A4 n4 c4)) (w.heap.size + 1) 28 #[.string nm, .bool true, .int .i64 (al : Int), .slice A1 n1 c1, .slice none 0 0, .slice A3 n3 c3, .slice A4 n4 c4]) := Lib.hid (by have := HBp_17.out.put 6 (.slice A4 n4 c4); simpa using this)
    have HTt1_18 := Lib.hid (HTt1_17.out.keep (Only.kept9 ((Only.refl (r := w.heap.size + 1) (w := u17)).setCell (p := ⟨w.heap.size + 1, 6, none⟩) rfl (.slice A4 n4 c4)) (fun b hb => by have hb : w.heap.size + 2 ≤ b := hb; show b ≠ w.heap.size + 1; omega)) (fun _ h _ => h))
    have HTt3_18 := Lib.hid (HTt3_17.out.keep (Only.kept9 ((Only.refl (r := w.heap.size + 1) (w := u17)).setCell (p := ⟨w.heap.size + 1, 6, none⟩) rfl (.slice A4 n4 c4)) (fun b hb => by have hb : w.heap.size + 2 ≤ b := hb; show b ≠ w.heap.size + 1; omega)) (fun _ h _ => h))
    have HTt4_18 := Lib.hid (HTt4_17.out.keep (Only.kept9 ((Only.refl (r := w.heap.size + 1) (w := u17)).setCell (p := ⟨w.heap.size + 1, 6, none⟩) rfl (.slice A4 n4 c4)) (fun b hb => by have hb : w.heap.size + 2 ≤ b := hb; show b ≠ w.heap.size + 1; omega)) (fun _ h _ => h))
    have c19_0 := HBp_18.out.cell 0
    have c19_1 := HBp_18.out.cell 1
    have c19_2 := HBp_18.out.cell 2
    have c19_3 := HBp_18.out.cell 3
    have c19_4 := HBp_18.out.cell 4
    have c19_5 := HBp_18.out.cell 5
    have c19_6 := HBp_18.out.cell 6
    have c20 := HBr_18.out.cell 0
    have f20 := HBr_18.out.frozen 0
    have HO20 := Lib.hid (HO18.out.new (r := w.heap.size) (by have := HG.out; omega) 0 (.string nm))
    have HR20 := Lib.hid (HR18.out.set (r := w.heap.size) (by have := HG.out; omega) 0 (.string nm))
    have HBr_20 : Hid (Ob ((u17.setCell ⟨w.heap.size + 1, 6, none⟩ (.slice A4 n4 c4)).setCell ⟨w.heap.size, 0, none⟩ (.string nm)) (w.heap.size) 28 #[.string nm, .bool false, .int .i64 0, .slice none 0 0, .slice none 0 0, .slice none 0 0, .slice none 0 0]) := Lib.hid (by have := HBr_18.out.put 0 (.string nm); simpa using this)
    have HBp_20 := Lib.hid (HBp_18.out.keep (Below.heap_setCell (u17.setCell ⟨w.heap.size + 1, 6, none⟩ (.slice A4 n4 c4)) ⟨w.heap.size, 0, none⟩ (.string nm) _ (by show w.heap.size + 1 ≠ w.heap.size; have := HG.out; omega)))
    have HTt1_20 := Lib.hid (HTt1_18.out.keep (Only.kept9 ((Only.refl (r := w.heap.size) (w := (u17.setCell ⟨w.heap.size + 1, 6, none⟩ (.slice A4 n4 c4)))).setCell (p := ⟨w.heap.size, 0, none⟩) rfl (.string nm)) (fun b hb => by have hb : w.heap.size + 2 ≤ b := hb; show b ≠ w.heap.size; omega)) (fun _ h _ => h))
    have HTt3_20 := Lib.hid (HTt3_18.out.keep (Only.kept9 ((Only.refl (r := w.heap.size) (w := (u17.setCell ⟨w.heap.size + 1, 6, none⟩ (.slice A4 n4 c4)))).setCell (p := ⟨w.heap.size, 0, none⟩) rfl (.string nm)) (fun b hb => by have hb : w.heap.size + 2 ≤ b := hb; show b ≠ w.heap.size; omega)) (fun _ h _ => h))
    have HTt4_20 := Lib.hid (HTt4_18.out.keep (Only.kept9 ((Only.refl (r := w.heap.size) (w := (u17.setCell ⟨w.heap.size + 1, 6, none⟩ (.slice A4 n4 c4)))).setCell (p := ⟨w.heap.size, 0, none⟩) rfl (.string nm)) (fun b hb => by have hb : w.heap.size + 2 ≤ b := hb; show b ≠ w.heap.size; omega)) (fun _ h _ => h))
    have c21 := HBr_20.out.cell 1
    have f21 := HBr_20.out.frozen 1
    have HO21 := Lib.hid (HO20.out.new (r := w.heap.size) (by have := HG.out; omega) 1 (.bool true))
    have HR21 := Lib.hid (HR20.out.set (r := w.heap.size) (by have := HG.out; omega) 1 (.bool true))
    have HBr_21 : Hid (Ob (((u17.setCell ⟨w.heap.size + 1, 6, none⟩ (.slice A4 n4 c4)).setCell ⟨w.heap.size, 0, none⟩ (.string nm)).setCell ⟨w.heap.size, 1, none⟩ (.bool true)) (w.heap.size) 28 #[.string nm, .bool true, .int .i64 0, .slice none 0 0, .slice none 0 0, .slice none 0 0, .slice none 0 0]) := Lib.hid (by have := HBr_20.out.put 1 (.bool true); simpa using this)
    have HBp_21 := Lib.hid (HBp_20.out.keep (Below.heap_setCell ((u17.setCell ⟨w.heap.size + 1, 6, none⟩ (.slice A4 n4 c4)).setCell ⟨w.heap.size, 0, none⟩ (.string nm)) ⟨w.heap.size, 1, none⟩ (.bool true) _ (by show w.heap.size + 1 ≠ w.heap.size; have := HG.out; omega)))
    have HTt1_21 := Lib.hid (HTt1_20.out.keep (Only.kept9 ((Only.refl (r := w.heap.size) (w := ((u17.setCell ⟨w.heap.size + 1, 6, none⟩ (.slice A4 n4 c4)).setCell ⟨w.heap.size, 0, none⟩ (.string nm)))).setCell (p := ⟨w.heap.size, 1, none⟩) rfl (.bool true)) (fun b hb => by have hb : w.heap.size + 2 ≤ b := hb; show b ≠ w.heap.size; omega)) (fun _ h _ => h))
    have HTt3_21 := Lib.hid (HTt3_20.out.keep (Only.kept9 ((Only.refl (r := w.heap.size) (w := ((u17.setCell ⟨w.heap.size + 1, 6, none⟩ (.slice A4 n4 c4)).setCell ⟨w.heap.size, 0, none⟩ (.string nm)))).setCell (p := ⟨w.heap.size, 1, none⟩) rfl (.bool true)) (fun b hb => by have hb : w.heap.size + 2 ≤ b := hb; show b ≠ w.heap.size; omega)) (fun _ h _ => h))
    have HTt4_21 := Lib.hid (HTt4_20.out.keep (Only.kept9 ((Only.refl (r := w.heap.size) (w := ((u17.setCell ⟨w.heap.size + 1, 6, none⟩ (.slice A4 n4 c4)).setCell ⟨w.heap.size, 0, none⟩ (.string nm)))).setCell (p := ⟨w.heap.size, 1, none⟩) rfl (.bool true)) (fun b hb => by have hb : w.heap.size + 2 ≤ b := hb; show b ≠ w.heap.size; omega)) (fun _ h _ => h))
    have c22 := HBr_21.out.cell 2
    have f22 := HBr_21.out.frozen 2
    have HO22 := Lib.hid (HO21.out.new (r := w.heap.size) (by have := HG.out; omega) 2 (.int .i64 (al : Int)))
    have HR22 := Lib.hid (HR21.out.set (r := w.heap.size) (by have := HG.out; omega) 2 (.int .i64 (al : Int)))
    have HBr_22 : Hid (Ob ((((u17.setCell ⟨w.heap.size + 1, 6, none⟩ (.slice A4 n4 c4)).setCell ⟨w.heap.size, 0, none⟩ (.string nm)).setCell ⟨w.heap.size, 1, none⟩ (.bool true)).setCell ⟨w.heap.size, 2, none⟩ (.int .i64 (al : Int))) (w.heap.size) 28 #[.string nm, .bool true, .int .i64 (al : Int), .slice none 0 0, .slice none 0 0, .slice none 0 0, .slice none 0 0]) := Lib.hid (by have := HBr_21.out.put 2 (.int .i64 (al : Int)); simpa using this)
    have HBp_22 := Lib.hid (HBp_21.out.keep (Below.heap_setCell (((u17.setCell ⟨w.heap.size + 1, 6, none⟩ (.slice A4 n4 c4)).setCell ⟨w.heap.size, 0, none⟩ (.string nm)).setCell ⟨w.heap.size, 1, none⟩ (.bool true)) ⟨w.heap.size, 2, none⟩ (.int .i64 (al : Int)) _ (by show w.heap.size + 1 ≠ w.heap.size; have := HG.out; omega)))
    have HTt1_22 := Lib.hid (HTt1_21.out.keep (Only.kept9 ((Only.refl (r := w.heap.size) (w := (((u17.setCell ⟨w.heap.size + 1, 6, none⟩ (.slice A4 n4 c4)).setCell ⟨w.heap.size, 0, none⟩ (.string nm)).setCell ⟨w.heap.size, 1, none⟩ (.bool true)))).setCell (p := ⟨w.heap.size, 2, none⟩) rfl (.int .i64 (al : Int))) (fun b hb => by have hb : w.heap.size + 2 ≤ b := hb; show b ≠ w.heap.size; omega)) (fun _ h _ => h))
    have HTt3_22 := Lib.hid (HTt3_21.out.keep (Only.kept9 ((Only.refl (r := w.heap.size) (w := (((u17.setCell ⟨w.heap.size + 1, 6, none⟩ (.slice A4 n4 c4)).setCell ⟨w.heap.size, 0, none⟩ (.string nm)).setCell ⟨w.heap.size, 1, none⟩ (.bool true)))).setCell (p := ⟨w.heap.size, 2, none⟩) rfl (.int .i64 (al : Int))) (fun b hb => by have hb : w.heap.size + 2 ≤ b := hb; show b ≠ w.heap.size; omega)) (fun _ h _ => h))
    have HTt4_22 := Lib.hid (HTt4_21.out.keep (Only.kept9 ((Only.refl (r := w.heap.size) (w := (((u17.setCell ⟨w.heap.size + 1, 6, none⟩ (.slice A4 n4 c4)).setCell ⟨w.heap.size, 0, none⟩ (.string nm)).setCell ⟨w.heap.size, 1, none⟩ (.bool true)))).setCell (p := ⟨w.heap.size, 2, none⟩) rfl (.int .i64 (al : Int))) (fun b hb => by have hb : w.heap.size + 2 ≤ b := hb; show b ≠ w.heap.size; omega)) (fun _ h _ => h))
    have c23 := HBr_22.out.cell 3
    have f23 := HBr_22.out.frozen 3
    have HO23 := Lib.hid (HO22.out.new (r := w.heap.size) (by have := HG.out; omega) 3 (.slice A1 n1 c1))
    have HR23 := Lib.hid (HR22.out.set (r := w.heap.size) (by have := HG.out; omega) 3 (.slice A1 n1 c1))
    have HBr_23 : Hid (Ob (((((u17.setCell ⟨w.heap.size + 1, 6, none⟩ (.slice A4 n4 c4)).setCell ⟨w.heap.size, 0, none⟩ (.string nm)).setCell ⟨w.heap.size, 1, none⟩ (.bool true)).setCell ⟨w.heap.size, 2, none⟩ (.int .i64 (al : Int))).setCell ⟨w.heap.size, 3, none⟩ (.slice A1 n1 c1)) (w.heap.size) 28 #[.string nm, .bool true, .int .i64 (al : Int), .slice A1 n1 c1, .slice none 0 0, .slice none 0 0, .slice none 0 0]) := Lib.hid (by have := HBr_22.out.put 3 (.slice A1 n1 c1); simpa using this)
    have HBp_23 := Lib.hid (HBp_22.out.keep (Below.heap_setCell ((((u17.setCell ⟨w.heap.size + 1, 6, none⟩ (.slice A4 n4 c4)).setCell ⟨w.heap.size, 0, none⟩ (.string nm)).setCell ⟨w.heap.size, 1, none⟩ (.bool true)).setCell ⟨w.heap.size, 2, none⟩ (.int .i64 (al : Int))) ⟨w.heap.size, 3, none⟩ (.slice A1 n1 c1) _ (by show w.heap.size + 1 ≠ w.heap.size; have := HG.out; omega)))
    have HTt1_23 := Lib.hid (HTt1_22.out.keep (Only.kept9 ((Only.refl (r := w.heap.size) (w := ((((u17.setCell ⟨w.heap.size + 1, 6, none⟩ (.slice A4 n4 c4)).setCell ⟨w.heap.size, 0, none⟩ (.string nm)).setCell ⟨w.heap.size, 1, none⟩ (.bool true)).setCell ⟨w.heap.size, 2, none⟩ (.int .i64 (al : Int))))).setCell (p := ⟨w.heap.size, 3, none⟩) rfl (.slice A1 n1 c1)) (fun b hb => by have hb : w.heap.size + 2 ≤ b := hb; show b ≠ w.heap.size; omega)) (fun _ h _ => h))
    have HTt3_23 := Lib.hid (HTt3_22.out.keep (Only.kept9 ((Only.refl (r := w.heap.size) (w := ((((u17.setCell ⟨w.heap.size + 1, 6, none⟩ (.slice A4 n4 c4)).setCell ⟨w.heap.size, 0, none⟩ (.string nm)).setCell ⟨w.heap.size, 1, none⟩ (.bool true)).setCell ⟨w.heap.size, 2, none⟩ (.int .i64 (al : Int))))).setCell (p := ⟨w.heap.size, 3, none⟩) rfl (.slice A1 n1 c1)) (fun b hb => by have hb : w.heap.size + 2 ≤ b := hb; show b ≠ w.heap.size; omega)) (fun _ h _ => h))
    have HTt4_23 := Lib.hid (HTt4_22.out.keep (Only.kept9 ((Only.refl (r := w.heap.size) (w := ((((u17.setCell ⟨w.heap.size + 1, 6, none⟩ (.slice A4 n4 c4)).setCell ⟨w.heap.size, 0, none⟩ (.string nm)).setCell ⟨w.heap.size, 1, none⟩ (.bool true)).setCell ⟨w.heap.size, 2, none⟩ (.int .i64 (al : Int))))).setCell (p := ⟨w.heap.size, 3, none⟩) rfl (.slice A1 n1 c1)) (fun b hb => by have hb : w.heap.size + 2 ≤ b := hb; show b ≠ w.heap.size; omega)) (fun _ h _ => h))
    have c24 := HBr_23.out.cell 4
    have f24 := HBr_23.out.frozen 4
    have HO24 := Lib.hid (HO23.out.new (r := w.heap.size) (by have := HG.out; omega) 4 (.slice none 0 0))
    have HR24 := Lib.hid (HR23.out.set (r := w.heap.size) (by have := HG.out; omega) 4 (.slice none 0 0))
    have HBr_24 : Hid (Ob ((((((u17.setCell ⟨w.heap.size + 1, 6, none⟩ (.slice A4 n4 c4)).setCell ⟨w.heap.size, 0, none⟩ (.string nm)).setCell ⟨w.heap.size, 1, none⟩ (.bool true)).setCell ⟨w.heap.size, 2, none⟩ (.int .i64 (al : Int))).setCell ⟨w.heap.size, 3, none⟩ (.slice A1 n1 c1)).setCell ⟨w.heap.size, 4, none⟩ (.slice none 0 0)) (w.heap.size) 28 #[.string nm, .bool true, .int .i64 (al : Int), .slice A1 n1 c1, .slice none 0 0, .slice none 0 0, .slice none 0 0]) := Lib.hid (by have := HBr_23.out.put 4 (.slice none 0 0); simpa using this)
    have HBp_24 := Lib.hid (HBp_23.out.keep (Below.heap_setCell (((((u17.setCell ⟨w.heap.size + 1, 6, none⟩ (.slice A4 n4 c4)).setCell ⟨w.heap.size, 0, none⟩ (.string nm)).setCell ⟨w.heap.size, 1, none⟩ (.bool true)).setCell ⟨w.heap.size, 2, none⟩ (.int .i64 (al : Int))).setCell ⟨w.heap.size, 3, none⟩ (.slice A1 n1 c1)) ⟨w.heap.size, 4, none⟩ (.slice none 0 0) _ (by show w.heap.size + 1 ≠ w.heap.size; have := HG.out; omega)))
    have HTt1_24 := Lib.hid (HTt1_23.out.keep (Only.kept9 ((Only.refl (r := w.heap.size) (w := (((((u17.setCell ⟨w.heap.size + 1, 6, none⟩ (.slice A4 n4 c4)).setCell ⟨w.heap.size, 0, none⟩ (.string nm)).setCell ⟨w.heap.size, 1, none⟩ (.bool true)).setCell ⟨w.heap.size, 2, none⟩ (.int .i64 (al : Int))).setCell ⟨w.heap.size, 3, none⟩ (.slice A1 n1 c1)))).setCell (p := ⟨w.heap.size, 4, none⟩) rfl (.slice none 0 0)) (fun b hb => by have hb : w.heap.size + 2 ≤ b := hb; show b ≠ w.heap.size; omega)) (fun _ h _ => h))
    have HTt3_24 := Lib.hid (HTt3_23.out.keep (Only.kept9 ((Only.refl (r := w.heap.size) (w := (((((u17.setCell ⟨w.heap.size + 1, 6, none⟩ (.slice A4 n4 c4)).setCell ⟨w.heap.size, 0, none⟩ (.string nm)).setCell ⟨w.heap.size, 1, none⟩ (.bool true)).setCell ⟨w.heap.size, 2, none⟩ (.int .i64 (al : Int))).setCell ⟨w.heap.size, 3, none⟩ (.slice A1 n1 c1)))).setCell (p := ⟨w.heap.size, 4, none⟩) rfl (.slice none 0 0)) (fun b hb => by have hb : w.heap.size + 2 ≤ b := hb; show b ≠ w.heap.size; omega)) (fun _ h _ => h))
    have HTt4_24 := Lib.hid (HTt4_23.out.keep (Only.kept9 ((Only.refl (r := w.heap.size) (w := (((((u17.setCell ⟨w.heap.size + 1, 6, none⟩ (.slice A4 n4 c4)).setCell ⟨w.heap.size, 0, none⟩ (.string nm)).setCell ⟨w.heap.size, 1, none⟩ (.bool true)).setCell ⟨w.heap.size, 2, none⟩ (.int .i64 (al : Int))).setCell ⟨w.heap.size, 3, none⟩ (.slice A1 n1 c1)))).setCell (p := ⟨w.heap.size, 4, none⟩) rfl (.slice none 0 0)) (fun b hb => by have hb : w.heap.size + 2 ≤ b := hb; show b ≠ w.heap.size; omega)) (fun _ h _ => h))
    have c25 := HBr_24.out.cell 5
    have f25 := HBr_24.out.frozen 5
    have HO25 := Lib.hid (HO24.out.new (r := w.heap.size) (by have := HG.out; omega) 5 (.slice A3 n3 c3))
    have HR25 := Lib.hid (HR24.out.set (r := w.heap.size) (by have := HG.out; omega) 5 (.slice A3 n3 c3))
    have HBr_25 : Hid (Ob (((((((u17.setCell ⟨w.heap.size + 1, 6, none⟩ (.slice A4 n4 c4)).setCell ⟨w.heap.size, 0, none⟩ (.string nm)).setCell ⟨w.heap.size, 1, none⟩ (.bool true)).setCell ⟨w.heap.size, 2, none⟩ (.int .i64 (al : Int))).setCell ⟨w.heap.size, 3, none⟩ (.slice A1 n1 c1)).setCell ⟨w.heap.size, 4, none⟩ (.slice none 0 0)).setCell ⟨w.heap.size, 5, none⟩ (.slice A3 n3 c3)) (w.heap.size) 28 #[.string nm, .bool true, .int .i64 (al : Int), .slice A1 n1 c1, .slice none 0 0, .slice A3 n3 c3, .slice none 0 0]) := Lib.hid (by have := HBr_24.out.put 5 (.slice A3 n3 c3); simpa using this)
    have HBp_25 := Lib.hid (HBp_24.out.keep (Below.heap_setCell ((((((u17.setCell ⟨w.heap.size + 1, 6, none⟩ (.slice A4 n4 c4)).setCell ⟨w.heap.size, 0, none⟩ (.string nm)).setCell ⟨w.heap.size, 1, none⟩ (.bool true)).setCell ⟨w.heap.size, 2, none⟩ (.int .i64 (al : Int))).setCell ⟨w.heap.size, 3, none⟩ (.slice A1 n1 c1)).setCell ⟨w.heap.size, 4, none⟩ (.slice none 0 0)) ⟨w.heap.size, 5, none⟩ (.slice A3 n3 c3) _ (by show w.heap.size + 1 ≠ w.heap.size; have := HG.out; omega)))
    have HTt1_25 := Lib.hid (HTt1_24.out.keep (Only.kept9 ((Only.refl (r := w.heap.size) (w := ((((((u17.setCell ⟨w.heap.size + 1, 6, none⟩ (.slice A4 n4 c4)).setCell ⟨w.heap.size, 0, none⟩ (.string nm)).setCell ⟨w.heap.size, 1, none⟩ (.bool true)).setCell ⟨w.heap.size, 2, none⟩ (.int .i64 (al : Int))).setCell ⟨w.heap.size, 3, none⟩ (.slice A1 n1 c1)).setCell ⟨w.heap.size, 4, none⟩ (.slice none 0 0)))).setCell (p := ⟨w.heap.size, 5, none⟩) rfl (.slice A3 n3 c3)) (fun b hb => by have hb : w.heap.size + 2 ≤ b := hb; show b ≠ w.heap.size; omega)) (fun _ h _ => h))
    have HTt3_25 := Lib.hid (HTt3_24.out.keep (Only.kept9 ((Only.refl (r := w.heap.size) (w := ((((((u17.setCell ⟨w.heap.size + 1, 6, none⟩ (.slice A4 n4 c4)).setCell ⟨w.heap.size, 0, none⟩ (.string nm)).setCell ⟨w.heap.size, 1, none⟩ (.bool true)).setCell ⟨w.heap.size, 2, none⟩ (.int .i64 (al : Int))).setCell ⟨w.heap.size, 3, none⟩ (.slice A1 n1 c1)).setCell ⟨w.heap.size, 4, none⟩ (.slice none 0 0)))).setCell (p := ⟨w.heap.size, 5, none⟩) rfl (.slice A3 n3 c3)) (fun b hb => by have hb : w.heap.size + 2 ≤ b := hb; show b ≠ w.heap.size; omega)) (fun _ h _ => h))
    have HTt4_25 := Lib.hid (HTt4_24.out.keep (Only.kept9 ((Only.refl (r := w.heap.size) (w := ((((((u17.setCell ⟨w.heap.size + 1, 6, none⟩ (.slice A4 n4 c4)).setCell ⟨w.heap.size, 0, none⟩ (.string nm)).setCell ⟨w.heap.size, 1, none⟩ (.bool true)).setCell ⟨w.heap.size, 2, none⟩ (.int .i64 (al : Int))).setCell ⟨w.heap.size, 3, none⟩ (.slice A1 n1 c1)).setCell ⟨w.heap.size, 4, none⟩ (.slice none 0 0)))).setCell (p := ⟨w.heap.size, 5, none⟩) rfl (.slice A3 n3 c3)) (fun b hb => by have hb : w.heap.size + 2 ≤ b := hb; show b ≠ w.heap.size; omega)) (fun _ h _ => h))
    have c26 := HBr_25.out.cell 6
    have f26 := HBr_25.out.frozen 6
    have HO26 := Lib.hid (HO25.out.new (r := w.heap.size) (by have := HG.out; omega) 6 (.slice A4 n4 c4))
    have HR26 := Lib.hid (HR25.out.set (r := w.heap.size) (by have := HG.out; omega) 6 (.slice A4 n4 c4))
    have HBr_26 : Hid (Ob ((((((((u17.setCell ⟨w.heap.size + 1, 6, none⟩ (.slice A4 n4 c4)).setCell ⟨w.heap.size, 0, none⟩ (.string nm)).setCell ⟨w.heap.size, 1, none⟩ (.bool true)).setCell ⟨w.heap.size, 2, none⟩ (.int .i64 (al : Int))).setCell ⟨w.heap.size, 3, none⟩ (.slice A1 n1 c1)).setCell ⟨w.heap.size, 4, none⟩ (.slice none 0 0)).setCell ⟨w.heap.size, 5, none⟩ (.slice A3 n3 c3)).setCell ⟨w.heap.size, 6, none⟩ (.slice A4 n4 c4)) (w.heap.size) 28 #[.string nm, .bool true, .int .i64 (al : Int), .slice A1 n1 c1, .slice none 0 0, .slice A3 n3 c3, .slice A4 n4 c4]) := Lib.hid (by have := HBr_25.out.put 6 (.slice A4 n4 c4); simpa using this)
    have HBp_26 := Lib.hid (HBp_25.out.keep (Below.heap_setCell (((((((u17.setCell ⟨w.heap.size + 1, 6, none⟩ (.slice A4 n4 c4)).setCell ⟨w.heap.size, 0, none⟩ (.string nm)).setCell ⟨w.heap.size, 1, none⟩ (.bool true)).setCell ⟨w.heap.size, 2, none⟩ (.int .i64 (al : Int))).setCell ⟨w.heap.size, 3, none⟩ (.slice A1 n1 c1)).setCell ⟨w.heap.size, 4, none⟩ (.slice none 0 0)).setCell ⟨w.heap.size, 5, none⟩ (.slice A3 n3 c3)) ⟨w.heap.size, 6, none⟩ (.slice A4 n4 c4) _ (by show w.heap.size + 1 ≠ w.heap.size; have := HG.out; omega)))
    have HTt1_26 := Lib.hid (HTt1_25.out.keep (Only.kept9 ((Only.refl (r := w.heap.size) (w := (((((((u17.setCell ⟨w.heap.size + 1, 6, none⟩ (.slice A4 n4 c4)).setCell ⟨w.heap.size, 0, none⟩ (.string nm)).setCell ⟨w.heap.size, 1, none⟩ (.bool true)).setCell ⟨w.heap.size, 2, none⟩ (.int .i64 (al : Int))).setCell ⟨w.heap.size, 3, none⟩ (.slice A1 n1 c1)).setCell ⟨w.heap.size, 4, none⟩ (.slice none 0 0)).setCell ⟨w.heap.size, 5, none⟩ (.slice A3 n3 c3)))).setCell (p := ⟨w.heap.size, 6, none⟩) rfl (.slice A4 n4 c4)) (fun b hb => by have hb : w.heap.size + 2 ≤ b := hb; show b ≠ w.heap.size; omega)) (fun _ h _ => h))
    have HTt3_26 := Lib.hid (HTt3_25.out.keep (Only.kept9 ((Only.refl (r := w.heap.size) (w := (((((((u17.setCell ⟨w.heap.size + 1, 6, none⟩ (.slice A4 n4 c4)).setCell ⟨w.heap.size, 0, none⟩ (.string nm)).setCell ⟨w.heap.size, 1, none⟩ (.bool true)).setCell ⟨w.heap.size, 2, none⟩ (.int .i64 (al : Int))).setCell ⟨w.heap.size, 3, none⟩ (.slice A1 n1 c1)).setCell ⟨w.heap.size, 4, none⟩ (.slice none 0 0)).setCell ⟨w.heap.size, 5, none⟩ (.slice A3 n3 c3)))).setCell (p := ⟨w.heap.size, 6, none⟩) rfl (.slice A4 n4 c4)) (fun b hb => by have hb : w.heap.size + 2 ≤ b := hb; show b ≠ w.heap.size; omega)) (fun _ h _ => h))
    have HTt4_26 := Lib.hid (HTt4_25.out.keep (Only.kept9 ((Only.refl (r := w.heap.size) (w := (((((((u17.setCell ⟨w.heap.size + 1, 6, none⟩ (.slice A4 n4 c4)).setCell ⟨w.heap.size, 0, none⟩ (.string nm)).setCell ⟨w.heap.size, 1, none⟩ (.bool true)).setCell ⟨w.heap.size, 2, none⟩ (.int .i64 (al : Int))).setCell ⟨w.heap.size, 3, none⟩ (.slice A1 n1 c1)).setCell ⟨w.heap.size, 4, none⟩ (.slice none 0 0)).setCell ⟨w.heap.size, 5, none⟩ (.slice A3 n3 c3)))).setCell (p := ⟨w.heap.size, 6, none⟩) rfl (.slice A4 n4 c4)) (fun b hb => by have hb : w.heap.size + 2 ≤ b := hb; show b ≠ w.heap.size; omega)) (fun _ h _ => h))
    go_wp2_with fail
    refine bodyPost_ret (policy_ret rfl rfl HBr_26.out rfl) rfl ?_
    rw [HIN.out.1]
    exact ⟨_, rfl, HO26.out, HR26.out, A1, n1, c1, none, 0, 0, A3, n3, c3, A4, n4, c4, rfl, A1, n1, c1, none, 0, 0, A3, n3, c3, A4, n4, c4, rfl, HNM.out, HAL.out, HTt1_26.out.keep (Kept.refl _ _) (fun b hb _ => by have hb : w.heap.size + 2 ≤ b := hb; show w.heap.size ≤ b; omega), Rw.nil_ _ _ _ _, Pls.keep HTt3_26.out (Kept.refl _ _) (fun b hb _ => by have hb : w.heap.size + 2 ≤ b := hb; show w.heap.size ≤ b; omega), HTt4_26.out.keep (Kept.refl _ _) (fun b hb _ => by have hb : w.heap.size + 2 ≤ b := hb; show w.heap.size ≤ b; omega)⟩
  · have HIN : Hid (rr = (rulesR s5.rest.length [] s5).1 ∧ kk = [] ∧ s6 = (rulesR s5.rest.length [] s5).2) := by
      show _ ∧ _ ∧ _
      unfold inR at e6
      rw [if_neg hi] at e6
      injection e6 with x1 x2
      injection x2 with x2 x3
      exact ⟨x1.symm, x2.symm, x3.symm⟩
    have hqi : decide (i = 2) = false := decide_eq_false hi
    rw [hqi] at hq
    have E0 : Hid (mostR dd 4 s = s0) := by rw [hdd]; exact Lib.hid e0
    have E1 := Lib.hid e1
    have E2 := Lib.hid e2
    have E3 := Lib.hid e3
    have E4 := Lib.hid e4
    have E5 := Lib.hid e5
    have E7 := Lib.hid e7
    have E8 := Lib.hid e8
    have HG : Hid (g < w.heap.size) := h.lt
    have HBr_1 : Hid (Ob (w.alloc (.cells #[.string ⟨#[]⟩, .bool false, .int .i64 0, .slice none 0 0, .slice none 0 0, .slice none 0 0, .slice none 0 0] 28)) (w.heap.size) 28 #[.string ⟨#[]⟩, .bool false, .int .i64 0, .slice none 0 0, .slice none 0 0, .slice none 0 0, .slice none 0 0]) := Lib.hid (by have := Ob.made w 28 #[.string ⟨#[]⟩, .bool false, .int .i64 0, .slice none 0 0, .slice none 0 0, .slice none 0 0, .slice none 0 0]; simpa using this)
    have HBr_2 := Lib.hid (HBr_1.out.keep (Below.heap_alloc (w.alloc (.cells #[.string ⟨#[]⟩, .bool false, .int .i64 0, .slice none 0 0, .slice none 0 0, .slice none 0 0, .slice none 0 0] 28)) (.cells #[.string ⟨#[]⟩, .bool false, .int .i64 0, .slice none 0 0, .slice none 0 0, .slice none 0 0, .slice none 0 0] 28) _ HBr_1.out.lt))
    have HBp_2 : Hid (Ob ((w.alloc (.cells #[.string ⟨#[]⟩, .bool false, .int .i64 0, .slice none 0 0, .slice none 0 0, .slice none 0 0, .slice none 0 0] 28)).alloc (.cells #[.string ⟨#[]⟩, .bool false, .int .i64 0, .slice none 0 0, .slice none 0 0, .slice none 0 0, .slice none 0 0] 28)) (w.heap.size + 1) 28 #[.string ⟨#[]⟩, .bool false, .int .i64 0, .slice none 0 0, .slice none 0 0, .slice none 0 0, .slice none 0 0]) := Lib.hid (by have := Ob.made (w.alloc (.cells #[.string ⟨#[]⟩, .bool false, .int .i64 0, .slice none 0 0, .slice none 0 0, .slice none 0 0, .slice none 0 0] 28)) 28 #[.string ⟨#[]⟩, .bool false, .int .i64 0, .slice none 0 0, .slice none 0 0, .slice none 0 0, .slice none 0 0]; simpa using this)
    have HR0 := Lib.hid ((h.alloc (.cells #[.string ⟨#[]⟩, .bool false, .int .i64 0, .slice none 0 0, .slice none 0 0, .slice none 0 0, .slice none 0 0] 28)).alloc (.cells #[.string ⟨#[]⟩, .bool false, .int .i64 0, .slice none 0 0, .slice none 0 0, .slice none 0 0, .slice none 0 0] 28))
    have HO0 := Lib.hid (((Only.refl (r := g) (w := w)).al (.cells #[.string ⟨#[]⟩, .bool false, .int .i64 0, .slice none 0 0, .slice none 0 0, .slice none 0 0, .slice none 0 0] 28)).al (.cells #[.string ⟨#[]⟩, .bool false, .int .i64 0, .slice none 0 0, .slice none 0 0, .slice none 0 0, .slice none 0 0] 28))
    clear h hsum e0 e1 e2 e3 e4 e5 e6 e7 e8 ih HI0 hf4 hdd hi
    go_enter Tryz.func46, Tryz.ntmps46
    go_wp2_with fail
    go_at_call 73
    refine (pmost_any HR0.out dd 4).mono ?_
    rintro x u3 ⟨rfl, ho, hr⟩
    rw [E0.out] at hr
    have HO3 := Lib.hid (HO0.out.trans ho)
    have HR3 := Lib.hid hr
    have HBr_3 := Lib.hid (HBr_2.out.keep (ho.heap HBr_2.out.lt (by have := HG.out; omega)))
    have HBp_3 := Lib.hid (HBp_2.out.keep (ho.heap HBp_2.out.lt (by have := HG.out; omega)))
    clear ho hr
    go_wp2_with fail
    go_at_call 74
    refine (pmust_lit HR3.out [w_policy, w_set] #[.string ⟨#[112, 111, 108, 105, 99, 121]⟩, .string ⟨#[115, 101, 116]⟩] 2 rfl rfl (by omega) (by first | rfl | (simp; done) | (simp [World.setCell]; done))).mono ?_
    rintro x u4 ⟨hx, ho, hr⟩
    obtain rfl : x = .returned (.int .i64 (i : Int)) := by rw [hx, E1.out] <;> rfl
    rw [E1.out] at hr
    clear hx
    have HO4 := Lib.hid (HO3.out.trans ho)
    have HR4 := Lib.hid hr
    have HBr_4 := Lib.hid (HBr_3.out.keep (ho.heap HBr_3.out.lt (by have := HG.out; omega)))
    have HBp_4 := Lib.hid (HBp_3.out.keep (ho.heap HBp_3.out.lt (by have := HG.out; omega)))
    clear ho hr
    have c5 := HBp_4.out.cell 1
    have f5 := HBp_4.out.frozen 1
    have HO5 := Lib.hid (HO4.out.new (r := w.heap.size + 1) (by have := HG.out; omega) 1 (.bool false))
    have HR5 := Lib.hid (HR4.out.set (r := w.heap.size + 1) (by have := HG.out; omega) 1 (.bool false))
    have HBr_5 := Lib.hid (HBr_4.out.keep (Below.heap_setCell u4 ⟨w.heap.size + 1, 1, none⟩ (.bool false) _ (by show w.heap.size ≠ w.heap.size + 1; have := HG.out; omega)))
    have HBp_5 : Hid (Ob (u4.setCell ⟨w.heap.size + 1, 1, none⟩ (.bool false)) (w.heap.size + 1) 28 #[.string ⟨#[]⟩, .bool false, .int .i64 0, .slice none 0 0, .slice none 0 0, .slice none 0 0, .slice none 0 0]) := Lib.hid (by have := HBp_4.out.put 1 (.bool false); simpa using this)
    go_wp2_with fail
    go_at_call 75
    refine (pname_any HR5.out).mono ?_
    rintro x u6 ⟨hx, ho, hr⟩
    obtain rfl : x = .returned (.string nm) := by rw [hx, E2.out] <;> rfl
    rw [E2.out] at hr
    clear hx
    have HO6 := Lib.hid (HO5.out.trans ho)
    have HR6 := Lib.hid hr
    have HBr_6 := Lib.hid (HBr_5.out.keep (ho.heap HBr_5.out.lt (by have := HG.out; omega)))
    have HBp_6 := Lib.hid (HBp_5.out.keep (ho.heap HBp_5.out.lt (by have := HG.out; omega)))
    clear ho hr
    have c7 := HBp_6.out.cell 0
    have f7 := HBp_6.out.frozen 0
    have HO7 := Lib.hid (HO6.out.new (r := w.heap.size + 1) (by have := HG.out; omega) 0 (.string nm))
    have HR7 := Lib.hid (HR6.out.set (r := w.heap.size + 1) (by have := HG.out; omega) 0 (.string nm))
    have HBr_7 := Lib.hid (HBr_6.out.keep (Below.heap_setCell u6 ⟨w.heap.size + 1, 0, none⟩ (.string nm) _ (by show w.heap.size ≠ w.heap.size + 1; have := HG.out; omega)))
    have HBp_7 : Hid (Ob (u6.setCell ⟨w.heap.size + 1, 0, none⟩ (.string nm)) (w.heap.size + 1) 28 #[.string nm, .bool false, .int .i64 0, .slice none 0 0, .slice none 0 0, .slice none 0 0, .slice none 0 0]) := Lib.hid (by have := HBp_6.out.put 0 (.string nm); simpa using this)
    go_wp2_with fail
    go_at_call 74
    refine (pmust_lit HR7.out [w_denyover, w_permitover, w_first, w_only, w_denyunless, w_permitunless] #[.string ⟨#[100, 101, 110, 121, 111, 118, 101, 114]⟩, .string ⟨#[112, 101, 114, 109, 105, 116, 111, 118, 101, 114]⟩, .string ⟨#[102, 105, 114, 115, 116]⟩, .string ⟨#[111, 110, 108, 121]⟩, .string ⟨#[100, 101, 110, 121, 117, 110, 108, 101, 115, 115]⟩, .string ⟨#[112, 101, 114, 109, 105, 116, 117, 110, 108, 101, 115, 115]⟩] 6 rfl rfl (by omega) (by first | rfl | (simp; done) | (simp [World.setCell]; done))).mono ?_
    rintro x u8 ⟨hx, ho, hr⟩
    obtain rfl : x = .returned (.int .i64 (al : Int)) := by rw [hx, E3.out] <;> rfl
    rw [E3.out] at hr
    clear hx
    have HO8 := Lib.hid (HO7.out.trans ho)
    have HR8 := Lib.hid hr
    have HBr_8 := Lib.hid (HBr_7.out.keep (ho.heap HBr_7.out.lt (by have := HG.out; omega)))
    have HBp_8 := Lib.hid (HBp_7.out.keep (ho.heap HBp_7.out.lt (by have := HG.out; omega)))
    clear ho hr
    have c9 := HBp_8.out.cell 2
    have f9 := HBp_8.out.frozen 2
    have HO9 := Lib.hid (HO8.out.new (r := w.heap.size + 1) (by have := HG.out; omega) 2 (.int .i64 (al : Int)))
    have HR9 := Lib.hid (HR8.out.set (r := w.heap.size + 1) (by have := HG.out; omega) 2 (.int .i64 (al : Int)))
    have HBr_9 := Lib.hid (HBr_8.out.keep (Below.heap_setCell u8 ⟨w.heap.size + 1, 2, none⟩ (.int .i64 (al : Int)) _ (by show w.heap.size ≠ w.heap.size + 1; have := HG.out; omega)))
    have HBp_9 : Hid (Ob (u8.setCell ⟨w.heap.size + 1, 2, none⟩ (.int .i64 (al : Int))) (w.heap.size + 1) 28 #[.string nm, .bool false, .int .i64 (al : Int), .slice none 0 0, .slice none 0 0, .slice none 0 0, .slice none 0 0]) := Lib.hid (by have := HBp_8.out.put 2 (.int .i64 (al : Int)); simpa using this)
    go_wp2_with fail
    go_at_call 76
    refine (ptarget_any HR9.out).mono ?_
    rintro x u10 ⟨A1, n1, c1, rfl, ho, hr, ht1⟩
    rw [E4.out] at hr ht1
    have HO10 := Lib.hid (HO9.out.trans ho)
    have HR10 := Lib.hid hr
    have HBr_10 := Lib.hid (HBr_9.out.keep (ho.heap HBr_9.out.lt (by have := HG.out; omega)))
    have HBp_10 := Lib.hid (HBp_9.out.keep (ho.heap HBp_9.out.lt (by have := HG.out; omega)))
    have HTt1_10 := Lib.hid (ht1.keep (Kept.refl _ _) (R' := fun b => w.heap.size + 2 ≤ b) (fun b hb _ => by have hb : ((u8.setCell ⟨w.heap.size + 1, 2, none⟩ (.int .i64 (al : Int)))).heap.size ≤ b := hb; have := HBp_9.out.lt; show w.heap.size + 2 ≤ b; omega))
    clear ho hr ht1
    have c11 := HBp_10.out.cell 3
    have f11 := HBp_10.out.frozen 3
    have HO11 := Lib.hid (HO10.out.new (r := w.heap.size + 1) (by have := HG.out; omega) 3 (.slice A1 n1 c1))
    have HR11 := Lib.hid (HR10.out.set (r := w.heap.size + 1) (by have := HG.out; omega) 3 (.slice A1 n1 c1))
    have HBr_11 := Lib.hid (HBr_10.out.keep (Below.heap_setCell u10 ⟨w.heap.size + 1, 3, none⟩ (.slice A1 n1 c1) _ (by show w.heap.size ≠ w.heap.size + 1; have := HG.out; omega)))
    have HBp_11 : Hid (Ob (u10.setCell ⟨w.heap.size + 1, 3, none⟩ (.slice A1 n1 c1)) (w.heap.size + 1) 28 #[.string nm, .bool false, .int .i64 (al : Int), .slice A1 n1 c1, .slice none 0 0, .slice none 0 0, .slice none 0 0]) := Lib.hid (by have := HBp_10.out.put 3 (.slice A1 n1 c1); simpa using this)
    have HTt1_11 := Lib.hid (HTt1_10.out.keep (Only.kept9 ((Only.refl (r := w.heap.size + 1) (w := u10)).setCell (p := ⟨w.heap.size + 1, 3, none⟩) rfl (.slice A1 n1 c1)) (fun b hb => by have hb : w.heap.size + 2 ≤ b := hb; show b ≠ w.heap.size + 1; omega)) (fun _ h _ => h))
    go_wp2_with fail
    go_at_call 74
    refine (pmust_lit HR11.out [m_lb] #[.string ⟨#[123]⟩] 1 rfl rfl (by omega) (by first | rfl | (simp; done) | (simp [World.setCell]; done))).mono ?_
    rintro x u12 ⟨rfl, ho, hr⟩
    rw [E5.out] at hr
    have HO12 := Lib.hid (HO11.out.trans ho)
    have HR12 := Lib.hid hr
    have HBr_12 := Lib.hid (HBr_11.out.keep (ho.heap HBr_11.out.lt (by have := HG.out; omega)))
    have HBp_12 := Lib.hid (HBp_11.out.keep (ho.heap HBp_11.out.lt (by have := HG.out; omega)))
    have HTt1_12 := Lib.hid (HTt1_11.out.keep (ho.kept9 (fun b hb => by have := HG.out; have hb : w.heap.size + 2 ≤ b := hb; show b ≠ g; omega)) (fun _ h _ => h))
    clear ho hr
    have c13_1 := HBp_12.out.cell 1
    go_wp2_with fail
    go_at_call 78
    refine (prules_any HR12.out HSM.out).mono ?_
    rintro x u14 ⟨A3, n3, c3, rfl, ho, hr, ht3⟩
    rw [← HIN.out.2.2] at hr
    rw [← HIN.out.1] at ht3
    have HO14 := Lib.hid (HO12.out.trans ho)
    have HR14 := Lib.hid hr
    have HBr_14 := Lib.hid (HBr_12.out.keep (ho.heap HBr_12.out.lt (by have := HG.out; omega)))
    have HBp_14 := Lib.hid (HBp_12.out.keep (ho.heap HBp_12.out.lt (by have := HG.out; omega)))
    have HTt1_14 := Lib.hid (HTt1_12.out.keep (ho.kept9 (fun b hb => by have := HG.out; have hb : w.heap.size + 2 ≤ b := hb; show b ≠ g; omega)) (fun _ h _ => h))
    have HTt3_14 := Lib.hid (ht3.keep (Kept.refl _ _) (R' := fun b => w.heap.size + 2 ≤ b) (fun b hb _ => by have hb : (u12).heap.size ≤ b := hb; have := HBp_12.out.lt; show w.heap.size + 2 ≤ b; omega))
    clear ho hr ht3
    have c15 := HBp_14.out.cell 4
    have f15 := HBp_14.out.frozen 4
    have HO15 := Lib.hid (HO14.out.new (r := w.heap.size + 1) (by have := HG.out; omega) 4 (.slice A3 n3 c3))
    have HR15 := Lib.hid (HR14.out.set (r := w.heap.size + 1) (by have := HG.out; omega) 4 (.slice A3 n3 c3))
    have HBr_15 := Lib.hid (HBr_14.out.keep (Below.heap_setCell u14 ⟨w.heap.size + 1, 4, none⟩ (.slice A3 n3 c3) _ (by show w.heap.size ≠ w.heap.size + 1; have := HG.out; omega)))
    have HBp_15 : Hid (Ob (u14.setCell ⟨w.heap.size + 1, 4, none⟩ (.slice A3 n3 c3)) (w.heap.size + 1) 28 #[.string nm, .bool false, .int .i64 (al : Int), .slice A1 n1 c1, .slice A3 n3 c3, .slice none 0 0, .slice none 0 0]) := Lib.hid (by have := HBp_14.out.put 4 (.slice A3 n3 c3); simpa using this)
    have HTt1_15 := Lib.hid (HTt1_14.out.keep (Only.kept9 ((Only.refl (r := w.heap.size + 1) (w := u14)).setCell (p := ⟨w.heap.size + 1, 4, none⟩) rfl (.slice A3 n3 c3)) (fun b hb => by have hb : w.heap.size + 2 ≤ b := hb; show b ≠ w.heap.size + 1; omega)) (fun _ h _ => h))
    have HTt3_15 := Lib.hid (HTt3_14.out.keep (Only.kept9 ((Only.refl (r := w.heap.size + 1) (w := u14)).setCell (p := ⟨w.heap.size + 1, 4, none⟩) rfl (.slice A3 n3 c3)) (fun b hb => by have hb : w.heap.size + 2 ≤ b := hb; show b ≠ w.heap.size + 1; omega)) (fun _ h _ => h))
    go_wp2_with fail
    go_at_call 74
    refine (pmust_lit HR15.out [m_rb] #[.string ⟨#[125]⟩] 1 rfl rfl (by omega) (by first | rfl | (simp; done) | (simp [World.setCell]; done))).mono ?_
    rintro x u16 ⟨rfl, ho, hr⟩
    rw [E7.out] at hr
    have HO16 := Lib.hid (HO15.out.trans ho)
    have HR16 := Lib.hid hr
    have HBr_16 := Lib.hid (HBr_15.out.keep (ho.heap HBr_15.out.lt (by have := HG.out; omega)))
    have HBp_16 := Lib.hid (HBp_15.out.keep (ho.heap HBp_15.out.lt (by have := HG.out; omega)))
    have HTt1_16 := Lib.hid (HTt1_15.out.keep (ho.kept9 (fun b hb => by have := HG.out; have hb : w.heap.size + 2 ≤ b := hb; show b ≠ g; omega)) (fun _ h _ => h))
    have HTt3_16 := Lib.hid (HTt3_15.out.keep (ho.kept9 (fun b hb => by have := HG.out; have hb : w.heap.size + 2 ≤ b := hb; show b ≠ g; omega)) (fun _ h _ => h))
    clear ho hr
    go_wp2_with fail
    go_at_call 79
    refine (pduts_any HR16.out).mono ?_
    rintro x u17 ⟨A4, n4, c4, rfl, ho, hr, ht4⟩
    rw [E8.out] at hr ht4
    have HO17 := Lib.hid (HO16.out.trans ho)
    have HR17 := Lib.hid hr
    have HBr_17 := Lib.hid (HBr_16.out.keep (ho.heap HBr_16.out.lt (by have := HG.out; omega)))
    have HBp_17 := Lib.hid (HBp_16.out.keep (ho.heap HBp_16.out.lt (by have := HG.out; omega)))
    have HTt1_17 := Lib.hid (HTt1_16.out.keep (ho.kept9 (fun b hb => by have := HG.out; have hb : w.heap.size + 2 ≤ b := hb; show b ≠ g; omega)) (fun _ h _ => h))
    have HTt3_17 := Lib.hid (HTt3_16.out.keep (ho.kept9 (fun b hb => by have := HG.out; have hb : w.heap.size + 2 ≤ b := hb; show b ≠ g; omega)) (fun _ h _ => h))
    have HTt4_17 := Lib.hid (ht4.keep (Kept.refl _ _) (R' := fun b => w.heap.size + 2 ≤ b) (fun b hb _ => by have hb : (u16).heap.size ≤ b := hb; have := HBp_16.out.lt; show w.heap.size + 2 ≤ b; omega))
    clear ho hr ht4
    have c18 := HBp_17.out.cell 6
    have f18 := HBp_17.out.frozen 6
    have HO18 := Lib.hid (HO17.out.new (r := w.heap.size + 1) (by have := HG.out; omega) 6 (.slice A4 n4 c4))
    have HR18 := Lib.hid (HR17.out.set (r := w.heap.size + 1) (by have := HG.out; omega) 6 (.slice A4 n4 c4))
    have HBr_18 := Lib.hid (HBr_17.out.keep (Below.heap_setCell u17 ⟨w.heap.size + 1, 6, none⟩ (.slice A4 n4 c4) _ (by show w.heap.size ≠ w.heap.size + 1; have := HG.out; omega)))
    have HBp_18 : Hid (Ob (u17.setCell ⟨w.heap.size + 1, 6, none⟩ (.slice A4 n4 c4)) (w.heap.size + 1) 28 #[.string nm, .bool false, .int .i64 (al : Int), .slice A1 n1 c1, .slice A3 n3 c3, .slice none 0 0, .slice A4 n4 c4]) := Lib.hid (by have := HBp_17.out.put 6 (.slice A4 n4 c4); simpa using this)
    have HTt1_18 := Lib.hid (HTt1_17.out.keep (Only.kept9 ((Only.refl (r := w.heap.size + 1) (w := u17)).setCell (p := ⟨w.heap.size + 1, 6, none⟩) rfl (.slice A4 n4 c4)) (fun b hb => by have hb : w.heap.size + 2 ≤ b := hb; show b ≠ w.heap.size + 1; omega)) (fun _ h _ => h))
    have HTt3_18 := Lib.hid (HTt3_17.out.keep (Only.kept9 ((Only.refl (r := w.heap.size + 1) (w := u17)).setCell (p := ⟨w.heap.size + 1, 6, none⟩) rfl (.slice A4 n4 c4)) (fun b hb => by have hb : w.heap.size + 2 ≤ b := hb; show b ≠ w.heap.size + 1; omega)) (fun _ h _ => h))
    have HTt4_18 := Lib.hid (HTt4_17.out.keep (Only.kept9 ((Only.refl (r := w.heap.size + 1) (w := u17)).setCell (p := ⟨w.heap.size + 1, 6, none⟩) rfl (.slice A4 n4 c4)) (fun b hb => by have hb : w.heap.size + 2 ≤ b := hb; show b ≠ w.heap.size + 1; omega)) (fun _ h _ => h))
    have c19_0 := HBp_18.out.cell 0
    have c19_1 := HBp_18.out.cell 1
    have c19_2 := HBp_18.out.cell 2
    have c19_3 := HBp_18.out.cell 3
    have c19_4 := HBp_18.out.cell 4
    have c19_5 := HBp_18.out.cell 5
    have c19_6 := HBp_18.out.cell 6
    have c20 := HBr_18.out.cell 0
    have f20 := HBr_18.out.frozen 0
    have HO20 := Lib.hid (HO18.out.new (r := w.heap.size) (by have := HG.out; omega) 0 (.string nm))
    have HR20 := Lib.hid (HR18.out.set (r := w.heap.size) (by have := HG.out; omega) 0 (.string nm))
    have HBr_20 : Hid (Ob ((u17.setCell ⟨w.heap.size + 1, 6, none⟩ (.slice A4 n4 c4)).setCell ⟨w.heap.size, 0, none⟩ (.string nm)) (w.heap.size) 28 #[.string nm, .bool false, .int .i64 0, .slice none 0 0, .slice none 0 0, .slice none 0 0, .slice none 0 0]) := Lib.hid (by have := HBr_18.out.put 0 (.string nm); simpa using this)
    have HBp_20 := Lib.hid (HBp_18.out.keep (Below.heap_setCell (u17.setCell ⟨w.heap.size + 1, 6, none⟩ (.slice A4 n4 c4)) ⟨w.heap.size, 0, none⟩ (.string nm) _ (by show w.heap.size + 1 ≠ w.heap.size; have := HG.out; omega)))
    have HTt1_20 := Lib.hid (HTt1_18.out.keep (Only.kept9 ((Only.refl (r := w.heap.size) (w := (u17.setCell ⟨w.heap.size + 1, 6, none⟩ (.slice A4 n4 c4)))).setCell (p := ⟨w.heap.size, 0, none⟩) rfl (.string nm)) (fun b hb => by have hb : w.heap.size + 2 ≤ b := hb; show b ≠ w.heap.size; omega)) (fun _ h _ => h))
    have HTt3_20 := Lib.hid (HTt3_18.out.keep (Only.kept9 ((Only.refl (r := w.heap.size) (w := (u17.setCell ⟨w.heap.size + 1, 6, none⟩ (.slice A4 n4 c4)))).setCell (p := ⟨w.heap.size, 0, none⟩) rfl (.string nm)) (fun b hb => by have hb : w.heap.size + 2 ≤ b := hb; show b ≠ w.heap.size; omega)) (fun _ h _ => h))
    have HTt4_20 := Lib.hid (HTt4_18.out.keep (Only.kept9 ((Only.refl (r := w.heap.size) (w := (u17.setCell ⟨w.heap.size + 1, 6, none⟩ (.slice A4 n4 c4)))).setCell (p := ⟨w.heap.size, 0, none⟩) rfl (.string nm)) (fun b hb => by have hb : w.heap.size + 2 ≤ b := hb; show b ≠ w.heap.size; omega)) (fun _ h _ => h))
    have c21 := HBr_20.out.cell 1
    have f21 := HBr_20.out.frozen 1
    have HO21 := Lib.hid (HO20.out.new (r := w.heap.size) (by have := HG.out; omega) 1 (.bool false))
    have HR21 := Lib.hid (HR20.out.set (r := w.heap.size) (by have := HG.out; omega) 1 (.bool false))
    have HBr_21 : Hid (Ob (((u17.setCell ⟨w.heap.size + 1, 6, none⟩ (.slice A4 n4 c4)).setCell ⟨w.heap.size, 0, none⟩ (.string nm)).setCell ⟨w.heap.size, 1, none⟩ (.bool false)) (w.heap.size) 28 #[.string nm, .bool false, .int .i64 0, .slice none 0 0, .slice none 0 0, .slice none 0 0, .slice none 0 0]) := Lib.hid (by have := HBr_20.out.put 1 (.bool false); simpa using this)
    have HBp_21 := Lib.hid (HBp_20.out.keep (Below.heap_setCell ((u17.setCell ⟨w.heap.size + 1, 6, none⟩ (.slice A4 n4 c4)).setCell ⟨w.heap.size, 0, none⟩ (.string nm)) ⟨w.heap.size, 1, none⟩ (.bool false) _ (by show w.heap.size + 1 ≠ w.heap.size; have := HG.out; omega)))
    have HTt1_21 := Lib.hid (HTt1_20.out.keep (Only.kept9 ((Only.refl (r := w.heap.size) (w := ((u17.setCell ⟨w.heap.size + 1, 6, none⟩ (.slice A4 n4 c4)).setCell ⟨w.heap.size, 0, none⟩ (.string nm)))).setCell (p := ⟨w.heap.size, 1, none⟩) rfl (.bool false)) (fun b hb => by have hb : w.heap.size + 2 ≤ b := hb; show b ≠ w.heap.size; omega)) (fun _ h _ => h))
    have HTt3_21 := Lib.hid (HTt3_20.out.keep (Only.kept9 ((Only.refl (r := w.heap.size) (w := ((u17.setCell ⟨w.heap.size + 1, 6, none⟩ (.slice A4 n4 c4)).setCell ⟨w.heap.size, 0, none⟩ (.string nm)))).setCell (p := ⟨w.heap.size, 1, none⟩) rfl (.bool false)) (fun b hb => by have hb : w.heap.size + 2 ≤ b := hb; show b ≠ w.heap.size; omega)) (fun _ h _ => h))
    have HTt4_21 := Lib.hid (HTt4_20.out.keep (Only.kept9 ((Only.refl (r := w.heap.size) (w := ((u17.setCell ⟨w.heap.size + 1, 6, none⟩ (.slice A4 n4 c4)).setCell ⟨w.heap.size, 0, none⟩ (.string nm)))).setCell (p := ⟨w.heap.size, 1, none⟩) rfl (.bool false)) (fun b hb => by have hb : w.heap.size + 2 ≤ b := hb; show b ≠ w.heap.size; omega)) (fun _ h _ => h))
    have c22 := HBr_21.out.cell 2
    have f22 := HBr_21.out.frozen 2
    have HO22 := Lib.hid (HO21.out.new (r := w.heap.size) (by have := HG.out; omega) 2 (.int .i64 (al : Int)))
    have HR22 := Lib.hid (HR21.out.set (r := w.heap.size) (by have := HG.out; omega) 2 (.int .i64 (al : Int)))
    have HBr_22 : Hid (Ob ((((u17.setCell ⟨w.heap.size + 1, 6, none⟩ (.slice A4 n4 c4)).setCell ⟨w.heap.size, 0, none⟩ (.string nm)).setCell ⟨w.heap.size, 1, none⟩ (.bool false)).setCell ⟨w.heap.size, 2, none⟩ (.int .i64 (al : Int))) (w.heap.size) 28 #[.string nm, .bool false, .int .i64 (al : Int), .slice none 0 0, .slice none 0 0, .slice none 0 0, .slice none 0 0]) := Lib.hid (by have := HBr_21.out.put 2 (.int .i64 (al : Int)); simpa using this)
    have HBp_22 := Lib.hid (HBp_21.out.keep (Below.heap_setCell (((u17.setCell ⟨w.heap.size + 1, 6, none⟩ (.slice A4 n4 c4)).setCell ⟨w.heap.size, 0, none⟩ (.string nm)).setCell ⟨w.heap.size, 1, none⟩ (.bool false)) ⟨w.heap.size, 2, none⟩ (.int .i64 (al : Int)) _ (by show w.heap.size + 1 ≠ w.heap.size; have := HG.out; omega)))
    have HTt1_22 := Lib.hid (HTt1_21.out.keep (Only.kept9 ((Only.refl (r := w.heap.size) (w := (((u17.setCell ⟨w.heap.size + 1, 6, none⟩ (.slice A4 n4 c4)).setCell ⟨w.heap.size, 0, none⟩ (.string nm)).setCell ⟨w.heap.size, 1, none⟩ (.bool false)))).setCell (p := ⟨w.heap.size, 2, none⟩) rfl (.int .i64 (al : Int))) (fun b hb => by have hb : w.heap.size + 2 ≤ b := hb; show b ≠ w.heap.size; omega)) (fun _ h _ => h))
    have HTt3_22 := Lib.hid (HTt3_21.out.keep (Only.kept9 ((Only.refl (r := w.heap.size) (w := (((u17.setCell ⟨w.heap.size + 1, 6, none⟩ (.slice A4 n4 c4)).setCell ⟨w.heap.size, 0, none⟩ (.string nm)).setCell ⟨w.heap.size, 1, none⟩ (.bool false)))).setCell (p := ⟨w.heap.size, 2, none⟩) rfl (.int .i64 (al : Int))) (fun b hb => by have hb : w.heap.size + 2 ≤ b := hb; show b ≠ w.heap.size; omega)) (fun _ h _ => h))
    have HTt4_22 := Lib.hid (HTt4_21.out.keep (Only.kept9 ((Only.refl (r := w.heap.size) (w := (((u17.setCell ⟨w.heap.size + 1, 6, none⟩ (.slice A4 n4 c4)).setCell ⟨w.heap.size, 0, none⟩ (.string nm)).setCell ⟨w.heap.size, 1, none⟩ (.bool false)))).setCell (p := ⟨w.heap.size, 2, none⟩) rfl (.int .i64 (al : Int))) (fun b hb => by have hb : w.heap.size + 2 ≤ b := hb; show b ≠ w.heap.size; omega)) (fun _ h _ => h))
    have c23 := HBr_22.out.cell 3
    have f23 := HBr_22.out.frozen 3
    have HO23 := Lib.hid (HO22.out.new (r := w.heap.size) (by have := HG.out; omega) 3 (.slice A1 n1 c1))
    have HR23 := Lib.hid (HR22.out.set (r := w.heap.size) (by have := HG.out; omega) 3 (.slice A1 n1 c1))
    have HBr_23 : Hid (Ob (((((u17.setCell ⟨w.heap.size + 1, 6, none⟩ (.slice A4 n4 c4)).setCell ⟨w.heap.size, 0, none⟩ (.string nm)).setCell ⟨w.heap.size, 1, none⟩ (.bool false)).setCell ⟨w.heap.size, 2, none⟩ (.int .i64 (al : Int))).setCell ⟨w.heap.size, 3, none⟩ (.slice A1 n1 c1)) (w.heap.size) 28 #[.string nm, .bool false, .int .i64 (al : Int), .slice A1 n1 c1, .slice none 0 0, .slice none 0 0, .slice none 0 0]) := Lib.hid (by have := HBr_22.out.put 3 (.slice A1 n1 c1); simpa using this)
    have HBp_23 := Lib.hid (HBp_22.out.keep (Below.heap_setCell ((((u17.setCell ⟨w.heap.size + 1, 6, none⟩ (.slice A4 n4 c4)).setCell ⟨w.heap.size, 0, none⟩ (.string nm)).setCell ⟨w.heap.size, 1, none⟩ (.bool false)).setCell ⟨w.heap.size, 2, none⟩ (.int .i64 (al : Int))) ⟨w.heap.size, 3, none⟩ (.slice A1 n1 c1) _ (by show w.heap.size + 1 ≠ w.heap.size; have := HG.out; omega)))
    have HTt1_23 := Lib.hid (HTt1_22.out.keep (Only.kept9 ((Only.refl (r := w.heap.size) (w := ((((u17.setCell ⟨w.heap.size + 1, 6, none⟩ (.slice A4 n4 c4)).setCell ⟨w.heap.size, 0, none⟩ (.string nm)).setCell ⟨w.heap.size, 1, none⟩ (.bool false)).setCell ⟨w.heap.size, 2, none⟩ (.int .i64 (al : Int))))).setCell (p := ⟨w.heap.size, 3, none⟩) rfl (.slice A1 n1 c1)) (fun b hb => by have hb : w.heap.size + 2 ≤ b := hb; show b ≠ w.heap.size; omega)) (fun _ h _ => h))
    have HTt3_23 := Lib.hid (HTt3_22.out.keep (Only.kept9 ((Only.refl (r := w.heap.size) (w := ((((u17.setCell ⟨w.heap.size + 1, 6, none⟩ (.slice A4 n4 c4)).setCell ⟨w.heap.size, 0, none⟩ (.string nm)).setCell ⟨w.heap.size, 1, none⟩ (.bool false)).setCell ⟨w.heap.size, 2, none⟩ (.int .i64 (al : Int))))).setCell (p := ⟨w.heap.size, 3, none⟩) rfl (.slice A1 n1 c1)) (fun b hb => by have hb : w.heap.size + 2 ≤ b := hb; show b ≠ w.heap.size; omega)) (fun _ h _ => h))
    have HTt4_23 := Lib.hid (HTt4_22.out.keep (Only.kept9 ((Only.refl (r := w.heap.size) (w := ((((u17.setCell ⟨w.heap.size + 1, 6, none⟩ (.slice A4 n4 c4)).setCell ⟨w.heap.size, 0, none⟩ (.string nm)).setCell ⟨w.heap.size, 1, none⟩ (.bool false)).setCell ⟨w.heap.size, 2, none⟩ (.int .i64 (al : Int))))).setCell (p := ⟨w.heap.size, 3, none⟩) rfl (.slice A1 n1 c1)) (fun b hb => by have hb : w.heap.size + 2 ≤ b := hb; show b ≠ w.heap.size; omega)) (fun _ h _ => h))
    have c24 := HBr_23.out.cell 4
    have f24 := HBr_23.out.frozen 4
    have HO24 := Lib.hid (HO23.out.new (r := w.heap.size) (by have := HG.out; omega) 4 (.slice A3 n3 c3))
    have HR24 := Lib.hid (HR23.out.set (r := w.heap.size) (by have := HG.out; omega) 4 (.slice A3 n3 c3))
    have HBr_24 : Hid (Ob ((((((u17.setCell ⟨w.heap.size + 1, 6, none⟩ (.slice A4 n4 c4)).setCell ⟨w.heap.size, 0, none⟩ (.string nm)).setCell ⟨w.heap.size, 1, none⟩ (.bool false)).setCell ⟨w.heap.size, 2, none⟩ (.int .i64 (al : Int))).setCell ⟨w.heap.size, 3, none⟩ (.slice A1 n1 c1)).setCell ⟨w.heap.size, 4, none⟩ (.slice A3 n3 c3)) (w.heap.size) 28 #[.string nm, .bool false, .int .i64 (al : Int), .slice A1 n1 c1, .slice A3 n3 c3, .slice none 0 0, .slice none 0 0]) := Lib.hid (by have := HBr_23.out.put 4 (.slice A3 n3 c3); simpa using this)
    have HBp_24 := Lib.hid (HBp_23.out.keep (Below.heap_setCell (((((u17.setCell ⟨w.heap.size + 1, 6, none⟩ (.slice A4 n4 c4)).setCell ⟨w.heap.size, 0, none⟩ (.string nm)).setCell ⟨w.heap.size, 1, none⟩ (.bool false)).setCell ⟨w.heap.size, 2, none⟩ (.int .i64 (al : Int))).setCell ⟨w.heap.size, 3, none⟩ (.slice A1 n1 c1)) ⟨w.heap.size, 4, none⟩ (.slice A3 n3 c3) _ (by show w.heap.size + 1 ≠ w.heap.size; have := HG.out; omega)))
    have HTt1_24 := Lib.hid (HTt1_23.out.keep (Only.kept9 ((Only.refl (r := w.heap.size) (w := (((((u17.setCell ⟨w.heap.size + 1, 6, none⟩ (.slice A4 n4 c4)).setCell ⟨w.heap.size, 0, none⟩ (.string nm)).setCell ⟨w.heap.size, 1, none⟩ (.bool false)).setCell ⟨w.heap.size, 2, none⟩ (.int .i64 (al : Int))).setCell ⟨w.heap.size, 3, none⟩ (.slice A1 n1 c1)))).setCell (p := ⟨w.heap.size, 4, none⟩) rfl (.slice A3 n3 c3)) (fun b hb => by have hb : w.heap.size + 2 ≤ b := hb; show b ≠ w.heap.size; omega)) (fun _ h _ => h))
    have HTt3_24 := Lib.hid (HTt3_23.out.keep (Only.kept9 ((Only.refl (r := w.heap.size) (w := (((((u17.setCell ⟨w.heap.size + 1, 6, none⟩ (.slice A4 n4 c4)).setCell ⟨w.heap.size, 0, none⟩ (.string nm)).setCell ⟨w.heap.size, 1, none⟩ (.bool false)).setCell ⟨w.heap.size, 2, none⟩ (.int .i64 (al : Int))).setCell ⟨w.heap.size, 3, none⟩ (.slice A1 n1 c1)))).setCell (p := ⟨w.heap.size, 4, none⟩) rfl (.slice A3 n3 c3)) (fun b hb => by have hb : w.heap.size + 2 ≤ b := hb; show b ≠ w.heap.size; omega)) (fun _ h _ => h))
    have HTt4_24 := Lib.hid (HTt4_23.out.keep (Only.kept9 ((Only.refl (r := w.heap.size) (w := (((((u17.setCell ⟨w.heap.size + 1, 6, none⟩ (.slice A4 n4 c4)).setCell ⟨w.heap.size, 0, none⟩ (.string nm)).setCell ⟨w.heap.size, 1, none⟩ (.bool false)).setCell ⟨w.heap.size, 2, none⟩ (.int .i64 (al : Int))).setCell ⟨w.heap.size, 3, none⟩ (.slice A1 n1 c1)))).setCell (p := ⟨w.heap.size, 4, none⟩) rfl (.slice A3 n3 c3)) (fun b hb => by have hb : w.heap.size + 2 ≤ b := hb; show b ≠ w.heap.size; omega)) (fun _ h _ => h))
    have c25 := HBr_24.out.cell 5
    have f25 := HBr_24.out.frozen 5
    have HO25 := Lib.hid (HO24.out.new (r := w.heap.size) (by have := HG.out; omega) 5 (.slice none 0 0))
    have HR25 := Lib.hid (HR24.out.set (r := w.heap.size) (by have := HG.out; omega) 5 (.slice none 0 0))
    have HBr_25 : Hid (Ob (((((((u17.setCell ⟨w.heap.size + 1, 6, none⟩ (.slice A4 n4 c4)).setCell ⟨w.heap.size, 0, none⟩ (.string nm)).setCell ⟨w.heap.size, 1, none⟩ (.bool false)).setCell ⟨w.heap.size, 2, none⟩ (.int .i64 (al : Int))).setCell ⟨w.heap.size, 3, none⟩ (.slice A1 n1 c1)).setCell ⟨w.heap.size, 4, none⟩ (.slice A3 n3 c3)).setCell ⟨w.heap.size, 5, none⟩ (.slice none 0 0)) (w.heap.size) 28 #[.string nm, .bool false, .int .i64 (al : Int), .slice A1 n1 c1, .slice A3 n3 c3, .slice none 0 0, .slice none 0 0]) := Lib.hid (by have := HBr_24.out.put 5 (.slice none 0 0); simpa using this)
    have HBp_25 := Lib.hid (HBp_24.out.keep (Below.heap_setCell ((((((u17.setCell ⟨w.heap.size + 1, 6, none⟩ (.slice A4 n4 c4)).setCell ⟨w.heap.size, 0, none⟩ (.string nm)).setCell ⟨w.heap.size, 1, none⟩ (.bool false)).setCell ⟨w.heap.size, 2, none⟩ (.int .i64 (al : Int))).setCell ⟨w.heap.size, 3, none⟩ (.slice A1 n1 c1)).setCell ⟨w.heap.size, 4, none⟩ (.slice A3 n3 c3)) ⟨w.heap.size, 5, none⟩ (.slice none 0 0) _ (by show w.heap.size + 1 ≠ w.heap.size; have := HG.out; omega)))
    have HTt1_25 := Lib.hid (HTt1_24.out.keep (Only.kept9 ((Only.refl (r := w.heap.size) (w := ((((((u17.setCell ⟨w.heap.size + 1, 6, none⟩ (.slice A4 n4 c4)).setCell ⟨w.heap.size, 0, none⟩ (.string nm)).setCell ⟨w.heap.size, 1, none⟩ (.bool false)).setCell ⟨w.heap.size, 2, none⟩ (.int .i64 (al : Int))).setCell ⟨w.heap.size, 3, none⟩ (.slice A1 n1 c1)).setCell ⟨w.heap.size, 4, none⟩ (.slice A3 n3 c3)))).setCell (p := ⟨w.heap.size, 5, none⟩) rfl (.slice none 0 0)) (fun b hb => by have hb : w.heap.size + 2 ≤ b := hb; show b ≠ w.heap.size; omega)) (fun _ h _ => h))
    have HTt3_25 := Lib.hid (HTt3_24.out.keep (Only.kept9 ((Only.refl (r := w.heap.size) (w := ((((((u17.setCell ⟨w.heap.size + 1, 6, none⟩ (.slice A4 n4 c4)).setCell ⟨w.heap.size, 0, none⟩ (.string nm)).setCell ⟨w.heap.size, 1, none⟩ (.bool false)).setCell ⟨w.heap.size, 2, none⟩ (.int .i64 (al : Int))).setCell ⟨w.heap.size, 3, none⟩ (.slice A1 n1 c1)).setCell ⟨w.heap.size, 4, none⟩ (.slice A3 n3 c3)))).setCell (p := ⟨w.heap.size, 5, none⟩) rfl (.slice none 0 0)) (fun b hb => by have hb : w.heap.size + 2 ≤ b := hb; show b ≠ w.heap.size; omega)) (fun _ h _ => h))
    have HTt4_25 := Lib.hid (HTt4_24.out.keep (Only.kept9 ((Only.refl (r := w.heap.size) (w := ((((((u17.setCell ⟨w.heap.size + 1, 6, none⟩ (.slice A4 n4 c4)).setCell ⟨w.heap.size, 0, none⟩ (.string nm)).setCell ⟨w.heap.size, 1, none⟩ (.bool false)).setCell ⟨w.heap.size, 2, none⟩ (.int .i64 (al : Int))).setCell ⟨w.heap.size, 3, none⟩ (.slice A1 n1 c1)).setCell ⟨w.heap.size, 4, none⟩ (.slice A3 n3 c3)))).setCell (p := ⟨w.heap.size, 5, none⟩) rfl (.slice none 0 0)) (fun b hb => by have hb : w.heap.size + 2 ≤ b := hb; show b ≠ w.heap.size; omega)) (fun _ h _ => h))
    have c26 := HBr_25.out.cell 6
    have f26 := HBr_25.out.frozen 6
    have HO26 := Lib.hid (HO25.out.new (r := w.heap.size) (by have := HG.out; omega) 6 (.slice A4 n4 c4))
    have HR26 := Lib.hid (HR25.out.set (r := w.heap.size) (by have := HG.out; omega) 6 (.slice A4 n4 c4))
    have HBr_26 : Hid (Ob ((((((((u17.setCell ⟨w.heap.size + 1, 6, none⟩ (.slice A4 n4 c4)).setCell ⟨w.heap.size, 0, none⟩ (.string nm)).setCell ⟨w.heap.size, 1, none⟩ (.bool false)).setCell ⟨w.heap.size, 2, none⟩ (.int .i64 (al : Int))).setCell ⟨w.heap.size, 3, none⟩ (.slice A1 n1 c1)).setCell ⟨w.heap.size, 4, none⟩ (.slice A3 n3 c3)).setCell ⟨w.heap.size, 5, none⟩ (.slice none 0 0)).setCell ⟨w.heap.size, 6, none⟩ (.slice A4 n4 c4)) (w.heap.size) 28 #[.string nm, .bool false, .int .i64 (al : Int), .slice A1 n1 c1, .slice A3 n3 c3, .slice none 0 0, .slice A4 n4 c4]) := Lib.hid (by have := HBr_25.out.put 6 (.slice A4 n4 c4); simpa using this)
    have HBp_26 := Lib.hid (HBp_25.out.keep (Below.heap_setCell (((((((u17.setCell ⟨w.heap.size + 1, 6, none⟩ (.slice A4 n4 c4)).setCell ⟨w.heap.size, 0, none⟩ (.string nm)).setCell ⟨w.heap.size, 1, none⟩ (.bool false)).setCell ⟨w.heap.size, 2, none⟩ (.int .i64 (al : Int))).setCell ⟨w.heap.size, 3, none⟩ (.slice A1 n1 c1)).setCell ⟨w.heap.size, 4, none⟩ (.slice A3 n3 c3)).setCell ⟨w.heap.size, 5, none⟩ (.slice none 0 0)) ⟨w.heap.size, 6, none⟩ (.slice A4 n4 c4) _ (by show w.heap.size + 1 ≠ w.heap.size; have := HG.out; omega)))
    have HTt1_26 := Lib.hid (HTt1_25.out.keep (Only.kept9 ((Only.refl (r := w.heap.size) (w := (((((((u17.setCell ⟨w.heap.size + 1, 6, none⟩ (.slice A4 n4 c4)).setCell ⟨w.heap.size, 0, none⟩ (.string nm)).setCell ⟨w.heap.size, 1, none⟩ (.bool false)).setCell ⟨w.heap.size, 2, none⟩ (.int .i64 (al : Int))).setCell ⟨w.heap.size, 3, none⟩ (.slice A1 n1 c1)).setCell ⟨w.heap.size, 4, none⟩ (.slice A3 n3 c3)).setCell ⟨w.heap.size, 5, none⟩ (.slice none 0 0)))).setCell (p := ⟨w.heap.size, 6, none⟩) rfl (.slice A4 n4 c4)) (fun b hb => by have hb : w.heap.size + 2 ≤ b := hb; show b ≠ w.heap.size; omega)) (fun _ h _ => h))
    have HTt3_26 := Lib.hid (HTt3_25.out.keep (Only.kept9 ((Only.refl (r := w.heap.size) (w := (((((((u17.setCell ⟨w.heap.size + 1, 6, none⟩ (.slice A4 n4 c4)).setCell ⟨w.heap.size, 0, none⟩ (.string nm)).setCell ⟨w.heap.size, 1, none⟩ (.bool false)).setCell ⟨w.heap.size, 2, none⟩ (.int .i64 (al : Int))).setCell ⟨w.heap.size, 3, none⟩ (.slice A1 n1 c1)).setCell ⟨w.heap.size, 4, none⟩ (.slice A3 n3 c3)).setCell ⟨w.heap.size, 5, none⟩ (.slice none 0 0)))).setCell (p := ⟨w.heap.size, 6, none⟩) rfl (.slice A4 n4 c4)) (fun b hb => by have hb : w.heap.size + 2 ≤ b := hb; show b ≠ w.heap.size; omega)) (fun _ h _ => h))
    have HTt4_26 := Lib.hid (HTt4_25.out.keep (Only.kept9 ((Only.refl (r := w.heap.size) (w := (((((((u17.setCell ⟨w.heap.size + 1, 6, none⟩ (.slice A4 n4 c4)).setCell ⟨w.heap.size, 0, none⟩ (.string nm)).setCell ⟨w.heap.size, 1, none⟩ (.bool false)).setCell ⟨w.heap.size, 2, none⟩ (.int .i64 (al : Int))).setCell ⟨w.heap.size, 3, none⟩ (.slice A1 n1 c1)).setCell ⟨w.heap.size, 4, none⟩ (.slice A3 n3 c3)).setCell ⟨w.heap.size, 5, none⟩ (.slice none 0 0)))).setCell (p := ⟨w.heap.size, 6, none⟩) rfl (.slice A4 n4 c4)) (fun b hb => by have hb : w.heap.size + 2 ≤ b := hb; show b ≠ w.heap.size; omega)) (fun _ h _ => h))
    go_wp2_with fail
    refine bodyPost_ret (policy_ret rfl rfl HBr_26.out rfl) rfl ?_
    rw [HIN.out.2.1, hqi]
    exact ⟨_, rfl, HO26.out, HR26.out, A1, n1, c1, A3, n3, c3, none, 0, 0, A4, n4, c4, rfl, A1, n1, c1, A3, n3, c3, none, 0, 0, A4, n4, c4, rfl, HNM.out, HAL.out, HTt1_26.out.keep (Kept.refl _ _) (fun b hb _ => by have hb : w.heap.size + 2 ≤ b := hb; show w.heap.size ≤ b; omega), HTt3_26.out.keep (Kept.refl _ _) (fun b hb _ => by have hb : w.heap.size + 2 ≤ b := hb; show w.heap.size ≤ b; omega), Rw.nil_ _ _ _ _, HTt4_26.out.keep (Kept.refl _ _) (fun b hb _ => by have hb : w.heap.size + 2 ≤ b := hb; show w.heap.size ≤ b; omega)⟩
theorem pol_read_all : ∀ f, f ≤ 4 → POk L g f
  | 0, _ => pol_read 0 (fun f' e => by omega)
  | f + 1, h => pol_read (f + 1) (fun f' e => by obtain rfl : f = f' := by omega
                                                 exact pol_read_all f (by omega))
end
end Go.Proofs.YtadjfkgnoklmiaaGreat
/- The small functions of bytes of package lex. -/
namespace Go.Proofs.YtadjfkgnoklmiaaGreat
set_option linter.unusedVariables false
open Go.RowKit

theorem lett_t {c : UInt8} (h : 97 ≤ (c.toNat : Int) ∧ (c.toNat : Int) ≤ 122) : lett c = true := by unfold lett; simp; omega
theorem lett_f {c : UInt8} (h : (c.toNat : Int) < 97 ∨ 122 < (c.toNat : Int)) : lett c = false := by unfold lett; simp; omega
theorem dgt_t {c : UInt8} (h : 48 ≤ (c.toNat : Int) ∧ (c.toNat : Int) ≤ 57) : dgt c = true := by unfold dgt; simp; omega
theorem dgt_f {c : UInt8} (h : (c.toNat : Int) < 48 ∨ 57 < (c.toNat : Int)) : dgt c = false := by unfold dgt; simp; omega
theorem inm_eq (c : UInt8) : inm c = (lett c || dgt c || decide (c.toNat = 95)) := by unfold inm later dgt; rw [Bool.or_assoc]

set_option maxHeartbeats 800000 in
theorem blank_any (c : UInt8) (w : World) : Calls Tryz.prog 64 #[.int .u8 (c.toNat : Int)] w fun e w' => e = .returned (.bool (blk c)) ∧ w' = w := by
  have hb : blk c = (((c.toNat : Int) == 32) || ((c.toNat : Int) == 10)) := by unfold blk; rw [Bool.eq_iff_iff]; simp; omega
  have HB := Lib.hid hb
  clear hb
  by_cases h1 : (c.toNat : Int) = 32
  · have e1 : ((c.toNat : Int) == 32) = true := by rw [h1]; rfl
    have H1 := Lib.hid h1
    clear h1
    go_enter Tryz.func64, Tryz.ntmps64
    go_wp2_with fail
    go_ret
    exact ⟨ret_bool (by rw [HB.out, H1.out]; rfl), rfl⟩
  · have e1 : ((c.toNat : Int) == 32) = false := by rw [beq_eq_false_iff_ne]; exact h1
    have H1 := Lib.hid e1
    clear h1
    go_enter Tryz.func64, Tryz.ntmps64
    go_wp2_with fail
    go_ret
    exact ⟨ret_bool (by rw [HB.out, H1.out]; rfl), rfl⟩

set_option maxHeartbeats 800000 in
theorem letter_any (c : UInt8) (w : World) : Calls Tryz.prog 65 #[.int .u8 (c.toNat : Int)] w fun e w' => e = .returned (.bool (lett c)) ∧ w' = w := by
  have three : (c.toNat : Int) < 97 ∨ (97 ≤ (c.toNat : Int) ∧ (c.toNat : Int) ≤ 122) ∨ (97 ≤ (c.toNat : Int) ∧ 122 < (c.toNat : Int)) := by omega
  rcases three with h | h | h
  all_goals
    go_enter Tryz.func65, Tryz.ntmps65
    go_wp2_with fail
    go_ret
  · exact ⟨ret_bool (lett_f (by omega)).symm, rfl⟩
  · exact ⟨ret_bool (lett_t h).symm, rfl⟩
  · exact ⟨ret_bool (by rw [decide_eq_false (by omega), lett_f (by omega)]), rfl⟩

set_option maxHeartbeats 800000 in
theorem digit_any (c : UInt8) (w : World) : Calls Tryz.prog 66 #[.int .u8 (c.toNat : Int)] w fun e w' => e = .returned (.bool (dgt c)) ∧ w' = w := by
  have three : (c.toNat : Int) < 48 ∨ (48 ≤ (c.toNat : Int) ∧ (c.toNat : Int) ≤ 57) ∨ (48 ≤ (c.toNat : Int) ∧ 57 < (c.toNat : Int)) := by omega
  rcases three with h | h | h
  all_goals
    go_enter Tryz.func66, Tryz.ntmps66
    go_wp2_with fail
    go_ret
  · exact ⟨ret_bool (dgt_f (by omega)).symm, rfl⟩
  · exact ⟨ret_bool (dgt_t h).symm, rfl⟩
  · exact ⟨ret_bool (by rw [decide_eq_false (by omega), dgt_f (by omega)]), rfl⟩

set_option maxHeartbeats 800000 in
theorem inName_any (c : UInt8) (w : World) : Calls Tryz.prog 67 #[.int .u8 (c.toNat : Int)] w fun e w' => e = .returned (.bool (inm c)) ∧ w' = w := by
  have hi := inm_eq c
  have hl := letter_any c w
  have hd := digit_any c w
  have h95 : decide (c.toNat = 95) = ((c.toNat : Int) == 95) := by rw [Bool.eq_iff_iff]; simp; omega
  rw [h95] at hi
  have HI := Lib.hid hi
  have HL := Lib.hid hl
  have HD := Lib.hid hd
  clear hi hl hd h95
  cases h1 : lett c with
  | true =>
    rw [h1] at HI HL
    clear h1
    go_enter Tryz.func67, Tryz.ntmps67
    go_wp2_with (go_at_call 65; refine HL.out.mono ?_; rintro e w' ⟨rfl, rfl⟩)
    go_ret
    exact ⟨ret_bool (by rw [HI.out]; rfl), rfl⟩
  | false =>
    rw [h1] at HI HL
    clear h1
    cases h2 : dgt c with
    | true =>
      rw [h2] at HI HD
      clear h2
      go_enter Tryz.func67, Tryz.ntmps67
      go_wp2_with (first | (go_at_call 65; refine HL.out.mono ?_; rintro e w' ⟨rfl, rfl⟩) | (go_at_call 66; refine HD.out.mono ?_; rintro e w' ⟨rfl, rfl⟩))
      go_ret
      exact ⟨ret_bool (by rw [HI.out]; rfl), rfl⟩
    | false =>
      rw [h2] at HI HD
      clear h2
      go_enter Tryz.func67, Tryz.ntmps67
      go_wp2_with (first | (go_at_call 65; refine HL.out.mono ?_; rintro e w' ⟨rfl, rfl⟩) | (go_at_call 66; refine HD.out.mono ?_; rintro e w' ⟨rfl, rfl⟩))
      go_ret
      exact ⟨ret_bool (by rw [HI.out]; rfl), rfl⟩
end Go.Proofs.YtadjfkgnoklmiaaGreat
/- past: on, as long as there are such bytes. -/
namespace Go.Proofs.YtadjfkgnoklmiaaGreat
set_option linter.unusedVariables false
open Go.RowKit

def PastTo (l : List UInt8) (p : UInt8 → Bool) (a k : Nat) : Prop := k + ((l.drop k).takeWhile p).length = a + ((l.drop a).takeWhile p).length
theorem PastTo.step {l : List UInt8} {p : UInt8 → Bool} {a k : Nat} {c : UInt8} (h : PastTo l p a k) (hc : l[k]? = some c) (hp : p c = true) : PastTo l p a (k + 1) := by
  obtain ⟨hk, e⟩ := List.getElem?_eq_some_iff.1 hc
  unfold PastTo at h ⊢
  rw [← h, List.drop_eq_getElem_cons hk, e, List.takeWhile_cons, if_pos hp, List.length_cons]
  omega
theorem PastTo.stop {l : List UInt8} {p : UInt8 → Bool} {a k : Nat} {c : UInt8} (h : PastTo l p a k) (hc : l[k]? = some c) (hp : p c = false) : k = a + ((l.drop a).takeWhile p).length := by
  obtain ⟨hk, e⟩ := List.getElem?_eq_some_iff.1 hc
  unfold PastTo at h
  rw [← h, List.drop_eq_getElem_cons hk, e, List.takeWhile_cons, if_neg (by rw [hp]; simp)]
  simp
theorem PastTo.end {l : List UInt8} {p : UInt8 → Bool} {a k : Nat} (h : PastTo l p a k) (hk : l.length ≤ k) : k = a + ((l.drop a).takeWhile p).length := by
  unfold PastTo at h
  rw [← h, List.drop_of_length_le hk]
  simp

set_option maxHeartbeats 1600000 in
theorem past_blank (s : ByteArray) (hs : s.size ≤ maxLen) (a : Nat) (ha : a ≤ s.size) (w : World) :
    Calls Tryz.prog 63 #[.string s, .int .i64 (a : Int), .func (.func 64) #[] #[]] w fun e w' => e = .returned (.int .i64 ((a + ((s.data.toList.drop a).takeWhile blk).length : Nat) : Int)) ∧ w' = w := by
  have hl := data_len s
  generalize hL : s.data.toList = l at *
  have HD : Hid (∀ k (h : k < s.size), l[k]? = some s[k]) := by
    show ∀ k (h : k < s.size), l[k]? = some s[k]
    subst hL; exact fun k h => data_at h
  have HL := Lib.hid hl
  unfold maxLen at hs
  clear hl hL
  go_enter Tryz.func63, Tryz.ntmps63
  go_wp2_with fail
  go_loop [1] (fun i => ∃ k : Nat, k ≤ s.size ∧ i = .int .i64 k ∧ PastTo l blk a k) (fun i => s.size - (intOf i).toNat)
  case atStart => exact ⟨a, ha, rfl, rfl⟩
  case round =>
    obtain ⟨k, hk, rfl, ht⟩ := hrel
    have HT := Lib.hid ht
    clear ht
    by_cases hlt : k < s.size
    · have hi : 0 ≤ (k : Int) ∧ (k : Int) < s.size := by omega
      have hc := HD.out k hlt
      generalize hcc : s[k] = c at *
      have HC := Lib.hid hc
      clear hc
      have hf := blank_any c w
      cases hp : blk c with
      | true =>
        have HP := Lib.hid hp
        rw [hp] at hf
        have HFC := Lib.hid hf
        clear hp hf
        go_wp2_with (go_at_call 64; refine HFC.out.mono ?_; rintro e w' ⟨rfl, rfl⟩)
        go_round
        case rel => exact ⟨k + 1, by omega, by go_num, HT.out.step HC.out HP.out⟩
        case measure => simp [intOf]; omega
      | false =>
        have HP := Lib.hid hp
        rw [hp] at hf
        have HFC := Lib.hid hf
        clear hp hf
        go_wp2_with (go_at_call 64; refine HFC.out.mono ?_; rintro e w' ⟨rfl, rfl⟩)
        go_ret
        exact ⟨ret_int (by have := HT.out.stop HC.out HP.out; omega), rfl⟩
    · obtain rfl : k = s.size := by omega
      go_wp2_with fail
      go_ret
      exact ⟨ret_int (by have := HT.out.end (by rw [HL.out]; exact Nat.le_refl _); omega), rfl⟩

set_option maxHeartbeats 1600000 in
theorem past_digit (s : ByteArray) (hs : s.size ≤ maxLen) (a : Nat) (ha : a ≤ s.size) (w : World) :
    Calls Tryz.prog 63 #[.string s, .int .i64 (a : Int), .func (.func 66) #[] #[]] w fun e w' => e = .returned (.int .i64 ((a + ((s.data.toList.drop a).takeWhile dgt).length : Nat) : Int)) ∧ w' = w := by
  have hl := data_len s
  generalize hL : s.data.toList = l at *
  have HD : Hid (∀ k (h : k < s.size), l[k]? = some s[k]) := by
    show ∀ k (h : k < s.size), l[k]? = some s[k]
    subst hL; exact fun k h => data_at h
  have HL := Lib.hid hl
  unfold maxLen at hs
  clear hl hL
  go_enter Tryz.func63, Tryz.ntmps63
  go_wp2_with fail
  go_loop [1] (fun i => ∃ k : Nat, k ≤ s.size ∧ i = .int .i64 k ∧ PastTo l dgt a k) (fun i => s.size - (intOf i).toNat)
  case atStart => exact ⟨a, ha, rfl, rfl⟩
  case round =>
    obtain ⟨k, hk, rfl, ht⟩ := hrel
    have HT := Lib.hid ht
    clear ht
    by_cases hlt : k < s.size
    · have hi : 0 ≤ (k : Int) ∧ (k : Int) < s.size := by omega
      have hc := HD.out k hlt
      generalize hcc : s[k] = c at *
      have HC := Lib.hid hc
      clear hc
      have hf := digit_any c w
      cases hp : dgt c with
      | true =>
        have HP := Lib.hid hp
        rw [hp] at hf
        have HFC := Lib.hid hf
        clear hp hf
        go_wp2_with (go_at_call 66; refine HFC.out.mono ?_; rintro e w' ⟨rfl, rfl⟩)
        go_round
        case rel => exact ⟨k + 1, by omega, by go_num, HT.out.step HC.out HP.out⟩
        case measure => simp [intOf]; omega
      | false =>
        have HP := Lib.hid hp
        rw [hp] at hf
        have HFC := Lib.hid hf
        clear hp hf
        go_wp2_with (go_at_call 66; refine HFC.out.mono ?_; rintro e w' ⟨rfl, rfl⟩)
        go_ret
        exact ⟨ret_int (by have := HT.out.stop HC.out HP.out; omega), rfl⟩
    · obtain rfl : k = s.size := by omega
      go_wp2_with fail
      go_ret
      exact ⟨ret_int (by have := HT.out.end (by rw [HL.out]; exact Nat.le_refl _); omega), rfl⟩

set_option maxHeartbeats 1600000 in
theorem past_inName (s : ByteArray) (hs : s.size ≤ maxLen) (a : Nat) (ha : a ≤ s.size) (w : World) :
    Calls Tryz.prog 63 #[.string s, .int .i64 (a : Int), .func (.func 67) #[] #[]] w fun e w' => e = .returned (.int .i64 ((a + ((s.data.toList.drop a).takeWhile inm).length : Nat) : Int)) ∧ w' = w := by
  have hl := data_len s
  generalize hL : s.data.toList = l at *
  have HD : Hid (∀ k (h : k < s.size), l[k]? = some s[k]) := by
    show ∀ k (h : k < s.size), l[k]? = some s[k]
    subst hL; exact fun k h => data_at h
  have HL := Lib.hid hl
  unfold maxLen at hs
  clear hl hL
  go_enter Tryz.func63, Tryz.ntmps63
  go_wp2_with fail
  go_loop [1] (fun i => ∃ k : Nat, k ≤ s.size ∧ i = .int .i64 k ∧ PastTo l inm a k) (fun i => s.size - (intOf i).toNat)
  case atStart => exact ⟨a, ha, rfl, rfl⟩
  case round =>
    obtain ⟨k, hk, rfl, ht⟩ := hrel
    have HT := Lib.hid ht
    clear ht
    by_cases hlt : k < s.size
    · have hi : 0 ≤ (k : Int) ∧ (k : Int) < s.size := by omega
      have hc := HD.out k hlt
      generalize hcc : s[k] = c at *
      have HC := Lib.hid hc
      clear hc
      have hf := inName_any c w
      cases hp : inm c with
      | true =>
        have HP := Lib.hid hp
        rw [hp] at hf
        have HFC := Lib.hid hf
        clear hp hf
        go_wp2_with (go_at_call 67; refine HFC.out.mono ?_; rintro e w' ⟨rfl, rfl⟩)
        go_round
        case rel => exact ⟨k + 1, by omega, by go_num, HT.out.step HC.out HP.out⟩
        case measure => simp [intOf]; omega
      | false =>
        have HP := Lib.hid hp
        rw [hp] at hf
        have HFC := Lib.hid hf
        clear hp hf
        go_wp2_with (go_at_call 67; refine HFC.out.mono ?_; rintro e w' ⟨rfl, rfl⟩)
        go_ret
        exact ⟨ret_int (by have := HT.out.stop HC.out HP.out; omega), rfl⟩
    · obtain rfl : k = s.size := by omega
      go_wp2_with fail
      go_ret
      exact ⟨ret_int (by have := HT.out.end (by rw [HL.out]; exact Nat.le_refl _); omega), rfl⟩
end Go.Proofs.YtadjfkgnoklmiaaGreat
/- A slice of bytes as a text: string(b). -/
namespace Go.Proofs.YtadjfkgnoklmiaaGreat
set_option linter.unusedVariables false
open Go.RowKit

theorem conv_text {P : Program} {w : World} {src dst e : TypeId} {B n c : Nat} {A : Option Addr} {l : List UInt8} (hs : P.underlying src = some (.slice e)) (he : P.underlying e = some (.int .u8)) (hd : P.underlying dst = some .string)
    (h : Sl w B A n c (bv l)) : (convert src dst (.slice A n c)).run P w = .ok (.string ⟨l.toArray⟩) w := by
  have hlen := h.len
  rw [bv_len] at hlen
  have fin : ∀ ad : Addr, A = some ad → (∀ j u, (bv l)[j]? = some u → w.cell? (ad.add j) = some u) → (convert src dst (.slice A n c)).run P w = .ok (.string ⟨l.toArray⟩) w := by
    rintro ad rfl hc
    have hb : bv l = (l.map fun x : UInt8 => (x.toNat : Int)).map (Value.int .u8) := by simp [bv]
    have hl : (loadCells ad n).run P w = .ok ((l.map fun x : UInt8 => (x.toNat : Int)).map (Value.int .u8)).toArray w := by
      have := run_loadCells_list (P := P) w ad (bv l) hc
      rw [bv_len, hlen, hb] at this
      exact this
    rw [run_convert_bytes_string w src dst e ad n c hs he hd, run_bytesToString w ad n c _ hl, foldl_push_bytes]
    simp [ByteArray.empty, ByteArray.emptyWithCapacity, Function.comp_def]
    rfl
  rcases h.2.2.2 with h0 | ⟨b, o, e, hb, hc⟩
  · subst h0
    obtain rfl : l = [] := List.eq_nil_of_length_eq_zero hlen
    rcases A with _ | ad
    · exact run_convert_bytes_nil w src e hs he 0 c dst hd
    · exact fin ad rfl (fun j u hu => by simp [bv] at hu)
  · refine fin _ e fun j u hu => ?_
    have := hc j u hu
    by_cases hj : j = 0
    · subst hj; simpa [Addr.add] using this
    · simpa [Addr.add, hj] using this

end Go.Proofs.YtadjfkgnoklmiaaGreat
/- alone, sixteenth, mark, one of package lex. -/
namespace Go.Proofs.YtadjfkgnoklmiaaGreat
set_option linter.unusedVariables false
open Go.RowKit

theorem ret_pair {a b c d : Value} (h1 : a = c) (h2 : b = d) : Ending.returned (.tuple #[a, b]) = .returned (.tuple #[c, d]) := by rw [h1, h2]
theorem int_eq {k : IntKind} {a b : Int} (h : a = b) : Value.int k a = .int k b := by rw [h]
theorem odd8_t {c : UInt8} (h : c.toNat < 32 ∨ 126 < c.toNat ∨ c.toNat = 34 ∨ c.toNat = 92) : odd8 c = true := by simpa [odd8, or_assoc] using h
theorem odd8_f {c : UInt8} (h : ¬ (c.toNat < 32 ∨ 126 < c.toNat ∨ c.toNat = 34 ∨ c.toNat = 92)) : odd8 c = false := by
  rw [← Bool.not_eq_true]
  intro h'
  exact h (by simpa [odd8, or_assoc] using h')
theorem byte_ways7 (c : UInt8) : ((c.toNat : Int) < 32) ∨ ((32 ≤ (c.toNat : Int) ∧ 126 < (c.toNat : Int))) ∨ ((c.toNat : Int) = 34) ∨ ((c.toNat : Int) = 92) ∨ ((32 ≤ (c.toNat : Int) ∧ (c.toNat : Int) ≤ 126) ∧ ((c.toNat : Int) == 34) = false ∧ ((c.toNat : Int) == 92) = false ∧ ((c.toNat : Int) != 34) = true ∧ ((c.toNat : Int) != 92) = true) := by
  simp only [beq_eq_false_iff_ne, bne_iff_ne]; omega

set_option maxHeartbeats 800000 in
theorem alone_any (c : UInt8) (w : World) : Calls Tryz.prog 143 #[.int .u8 (c.toNat : Int)] w fun e w' => e = .returned (.bool (!odd8 c)) ∧ w' = w := by
  rcases byte_ways7 c with a | a | a | a | a
  case inr.inr.inl =>
    obtain rfl : c = 34 := UInt8.toNat_inj.1 (by have : (34 : UInt8).toNat = 34 := rfl; omega)
    clear a
    go_enter Tryz.func143, Tryz.ntmps143
    go_wp2_with fail
    go_ret
    exact ⟨rfl, rfl⟩
  case inr.inr.inr.inl =>
    obtain rfl : c = 92 := UInt8.toNat_inj.1 (by have : (92 : UInt8).toNat = 92 := rfl; omega)
    clear a
    go_enter Tryz.func143, Tryz.ntmps143
    go_wp2_with fail
    go_ret
    exact ⟨rfl, rfl⟩
  case inr.inr.inr.inr =>
    have HO : Hid (odd8 c = false) := odd8_f (by obtain ⟨a1, a2, a3, _⟩ := a; simp only [beq_eq_false_iff_ne] at a2 a3; omega)
    go_enter Tryz.func143, Tryz.ntmps143
    go_wp2_with fail
    go_ret
    exact ⟨ret_bool (by rw [HO.out]; rfl), rfl⟩
  all_goals
    have HO : Hid (odd8 c = true) := odd8_t (by omega)
    go_enter Tryz.func143, Tryz.ntmps143
    go_wp2_with fail
    go_ret
    exact ⟨ret_bool (by rw [HO.out]; first | rfl | exact decide_eq_false (by omega)), rfl⟩

theorem hexv_dgt {c : UInt8} (h : dgt c = true) : hexv c = some (c.toNat - 48) := by unfold hexv; rw [if_pos h]
theorem hexv_let {c : UInt8} (h : dgt c = false) (h2 : 97 ≤ c.toNat ∧ c.toNat ≤ 102) : hexv c = some (c.toNat - 87) := by unfold hexv; rw [if_neg (by rw [h]; simp), if_pos h2]
theorem hexv_none {c : UInt8} (h : dgt c = false) (h2 : ¬ (97 ≤ c.toNat ∧ c.toNat ≤ 102)) : hexv c = none := by unfold hexv; rw [if_neg (by rw [h]; simp), if_neg h2]
theorem hexv_lt {c : UInt8} {x : Nat} (h : hexv c = some x) : x < 16 := by
  unfold hexv at h
  split at h
  · rename_i hd; cases h; unfold dgt at hd; simp at hd; omega
  · split at h
    · cases h; omega
    · cases h

set_option maxHeartbeats 800000 in
theorem sixteenth_any (c : UInt8) (w : World) : Calls Tryz.prog 144 #[.int .u8 (c.toNat : Int)] w fun e w' => e = .returned (.tuple #[.int .u8 (((hexv c).getD 0 : Nat) : Int), .bool (hexv c).isSome]) ∧ w' = w := by
  have hd := digit_any c w
  have HD := Lib.hid hd
  have hlt := c.toNat_lt
  clear hd
  cases h : dgt c with
  | true =>
    rw [h] at HD
    have HX := Lib.hid (hexv_dgt h)
    have hb : 48 ≤ (c.toNat : Int) ∧ (c.toNat : Int) ≤ 57 := by unfold dgt at h; simp at h; omega
    clear h
    go_enter Tryz.func144, Tryz.ntmps144
    go_wp2_with (go_at_call 66; refine HD.out.mono ?_; rintro e w' ⟨rfl, rfl⟩)
    go_ret2
    exact ⟨ret_pair (int_eq (by rw [HX.out]; show (c.toNat : Int) - 48 = ((c.toNat - 48 : Nat) : Int); omega)) (by rw [HX.out]; rfl), rfl⟩
  | false =>
    rw [h] at HD
    have three : (c.toNat : Int) < 97 ∨ (97 ≤ (c.toNat : Int) ∧ (c.toNat : Int) ≤ 102) ∨ (97 ≤ (c.toNat : Int) ∧ 102 < (c.toNat : Int)) := by omega
    rcases three with a | a | a
    case inr.inl =>
      have HX := Lib.hid (hexv_let h (by omega))
      clear h
      go_enter Tryz.func144, Tryz.ntmps144
      go_wp2_with (go_at_call 66; refine HD.out.mono ?_; rintro e w' ⟨rfl, rfl⟩)
      go_ret2
      exact ⟨ret_pair (int_eq (by rw [HX.out]; show (c.toNat : Int) - 97 + 10 = ((c.toNat - 87 : Nat) : Int); omega)) (by rw [HX.out]; rfl), rfl⟩
    all_goals
      have HX := Lib.hid (hexv_none h (by omega))
      clear h
      go_enter Tryz.func144, Tryz.ntmps144
      go_wp2_with (go_at_call 66; refine HD.out.mono ?_; rintro e w' ⟨rfl, rfl⟩)
      go_ret2
      exact ⟨by rw [HX.out]; rfl, rfl⟩

theorem conv_one (c : UInt8) (w : World) : (convert 181 9 (.slice (some ⟨w.heap.size, 0, none⟩) 1 1)).run Tryz.prog (w.alloc (.cells #[.int .u8 (c.toNat : Int)] 5)) = .ok (.string ⟨#[c]⟩) (w.alloc (.cells #[.int .u8 (c.toNat : Int)] 5)) :=
  conv_text Tryz.underlying181 Tryz.underlying5 Tryz.underlying9 (Sl.lit w 5 (bv [c]) 1 rfl (by simp [maxLen]))

theorem conv_lit (c : UInt8) (k : Int) (h : (c.toNat : Int) = k) (w : World) : (convert 181 9 (.slice (some ⟨w.heap.size, 0, none⟩) 1 1)).run Tryz.prog (w.alloc (.cells #[.int .u8 k] 5)) = .ok (.string ⟨#[c]⟩) (w.alloc (.cells #[.int .u8 k] 5)) := by
  subst h
  exact conv_one c w

def markV (c : UInt8) : Value := .tuple #[.string (if mrk c = true then ⟨#[c]⟩ else ⟨#[]⟩), .bool (mrk c)]
theorem mrk_ways (c : UInt8) : c = 123 ∨ c = 125 ∨ c = 40 ∨ c = 41 ∨ c = 46 ∨ c = 44 ∨ c = 59 ∨ c = 61 ∨ c = 60 ∨ c = 62 ∨ c = 33 ∨ mrk c = false := by
  unfold mrk
  simp only [Bool.or_eq_false_iff, decide_eq_false_iff_not]
  by_cases c = 123 <;> by_cases c = 125 <;> by_cases c = 40 <;> by_cases c = 41 <;> by_cases c = 46 <;> by_cases c = 44 <;> by_cases c = 59 <;> by_cases c = 61 <;> by_cases c = 60 <;> by_cases c = 62 <;> by_cases c = 33 <;> simp_all
set_option maxHeartbeats 1600000 in
theorem mark_any (c : UInt8) (w : World) : Calls Tryz.prog 72 #[.int .u8 (c.toNat : Int)] w fun e w' => e = .returned (markV c) ∧ Below w.heap.size w w' := by
  have hc0 := conv_lit 123 123 rfl w
  have hc1 := conv_lit 125 125 rfl w
  have hc2 := conv_lit 40 40 rfl w
  have hc3 := conv_lit 41 41 rfl w
  have hc4 := conv_lit 46 46 rfl w
  have hc5 := conv_lit 44 44 rfl w
  have hc6 := conv_lit 59 59 rfl w
  have hc7 := conv_lit 61 61 rfl w
  have hc8 := conv_lit 60 60 rfl w
  have hc9 := conv_lit 62 62 rfl w
  have hc10 := conv_lit 33 33 rfl w
  have HB : Hid (∀ k : Int, Below w.heap.size w (w.alloc (.cells #[.int .u8 k] 5))) := Lib.hid fun k => (Below.refl _ _).alloc (Nat.le_refl _) _
  rcases mrk_ways c with rfl | rfl | rfl | rfl | rfl | rfl | rfl | rfl | rfl | rfl | rfl | h
  case inr.inr.inr.inr.inr.inr.inr.inr.inr.inr.inr =>
    have e : ∀ k : UInt8, mrk k = true → ((c.toNat : Int) == (k.toNat : Int)) = false := fun k hk => by
      rw [beq_eq_false_iff_ne]
      intro he
      have : c = k := UInt8.toNat_inj.1 (by omega)
      rw [this, hk] at h
      cases h
    have e1 : ((c.toNat : Int) == 123) = false := e 123 rfl
    have e2 : ((c.toNat : Int) == 125) = false := e 125 rfl
    have e3 : ((c.toNat : Int) == 40) = false := e 40 rfl
    have e4 : ((c.toNat : Int) == 41) = false := e 41 rfl
    have e5 : ((c.toNat : Int) == 46) = false := e 46 rfl
    have e6 : ((c.toNat : Int) == 44) = false := e 44 rfl
    have e7 : ((c.toNat : Int) == 59) = false := e 59 rfl
    have e8 : ((c.toNat : Int) == 61) = false := e 61 rfl
    have e9 : ((c.toNat : Int) == 60) = false := e 60 rfl
    have e10 : ((c.toNat : Int) == 62) = false := e 62 rfl
    have e11 : ((c.toNat : Int) == 33) = false := e 33 rfl
    have HH := Lib.hid h
    clear e h
    go_enter Tryz.func72, Tryz.ntmps72
    go_wp2_with fail
    go_ret2
    exact ⟨by unfold markV; rw [HH.out]; rfl, Below.refl _ _⟩
  all_goals
    go_enter Tryz.func72, Tryz.ntmps72
    go_wp2_with fail
    go_ret2
    exact ⟨rfl, HB.out _⟩
end Go.Proofs.YtadjfkgnoklmiaaGreat
/- name of package lex. -/
namespace Go.Proofs.YtadjfkgnoklmiaaGreat
set_option linter.unusedVariables false
open Go.RowKit

def nameV (s : ByteArray) : Value := .tuple #[.string (if Named s.data.toList then s else ⟨#[]⟩), .bool (decide (Named s.data.toList))]
set_option maxHeartbeats 800000 in
theorem lname_any (s : ByteArray) (w : World) (hlim : s.size ≤ 1000000) :
    Calls Tryz.prog 68 #[.string s] w fun e w' => e = .returned (nameV s) ∧ Below w.heap.size w w' := by
  have H := Lib.hid (clone_any s w hlim)
  have HN := Lib.hid (name_any s (by unfold maxLen; omega) w)
  clear hlim
  by_cases h : Named s.data.toList
  · have HV : Hid (nameV s = .tuple #[.string s, .bool true]) := by show _ = _; unfold nameV; rw [if_pos h, decide_eq_true h]
    rw [decide_eq_true h] at HN
    clear h
    go_enter Tryz.func68, Tryz.ntmps68
    go_wp2_with (first | (go_at_call 108; refine HN.out.mono ?_; rintro e w' ⟨rfl, rfl⟩) | (go_at_call 94; refine H.out.mono ?_; rintro e w' ⟨rfl, hb⟩))
    go_ret2
    exact ⟨by rw [HV.out]; rfl, hb⟩
  · have HV : Hid (nameV s = .tuple #[.string ⟨#[]⟩, .bool false]) := by show _ = _; unfold nameV; rw [if_neg h, decide_eq_false h]
    rw [decide_eq_false h] at HN
    clear h
    go_enter Tryz.func68, Tryz.ntmps68
    go_wp2_with (first | (go_at_call 108; refine HN.out.mono ?_; rintro e w' ⟨rfl, rfl⟩) | (go_at_call 94; refine H.out.mono ?_; rintro e w' ⟨rfl, hb⟩))
    go_ret2
    exact ⟨by rw [HV.out]; rfl, Below.refl _ _⟩
end Go.Proofs.YtadjfkgnoklmiaaGreat
/- one of package lex: a byte of a quoted text, and by how many it is written. -/
namespace Go.Proofs.YtadjfkgnoklmiaaGreat
set_option linter.unusedVariables false
open Go.RowKit

set_option maxRecDepth 100000 in
theorem or16f : ∀ x : Fin 16, ∀ y : Fin 16, (x.val * 16) ||| y.val = 16 * x.val + y.val := by decide +kernel
theorem u8_or16 {x y : Nat} (hx : x < 16) (hy : y < 16) : bits .or .u8 ((x : Int) * 16) (y : Int) = ((16 * x + y : Nat) : Int) := by
  rw [u8_or _ _ (by omega) (by omega) (by omega) (by omega)]
  have := or16f ⟨x, hx⟩ ⟨y, hy⟩
  dsimp only at this
  rw [show ((x : Int) * 16).toNat = x * 16 by omega, show ((y : Int)).toNat = y by omega, this]

def oneV (l : List UInt8) : Value := .tuple #[.int .u8 ((((oneB l).map Prod.fst).getD 0).toNat : Int), .int .i64 ((((oneB l).map Prod.snd).getD 0 : Nat) : Int)]
theorem oneV_none {l : List UInt8} (h : oneB l = none) : oneV l = .tuple #[.int .u8 0, .int .i64 0] := by unfold oneV; rw [h]; rfl
theorem oneV_some {l : List UInt8} {x : UInt8} {k : Nat} (h : oneB l = some (x, k)) : oneV l = .tuple #[.int .u8 (x.toNat : Int), .int .i64 (k : Int)] := by unfold oneV; rw [h]; rfl
theorem list_three {l : List UInt8} {c a b : UInt8} (h0 : l[0]? = some c) (h1 : l[1]? = some a) (h2 : l[2]? = some b) : ∃ r, l = c :: a :: b :: r := by
  match l, h0, h1, h2 with
  | x :: y :: z :: r, h0, h1, h2 => simp at h0 h1 h2; subst h0 h1 h2; exact ⟨r, rfl⟩
theorem list_one {l : List UInt8} {c : UInt8} (h0 : l[0]? = some c) : ∃ r, l = c :: r := by
  match l, h0 with
  | x :: r, h0 => simp at h0; subst h0; exact ⟨r, rfl⟩

set_option maxHeartbeats 1600000 in
theorem one_any (s : ByteArray) (hs : s.size ≤ maxLen) (h0 : 0 < s.size) (w : World) :
    Calls Tryz.prog 110 #[.string s] w fun e w' => e = .returned (oneV s.data.toList) ∧ w' = w := by
  have hl := data_len s
  have hc0 := data_at h0
  unfold maxLen at hs
  generalize hcc : s[0] = c at *
  have hal := alone_any c w
  have HA := Lib.hid hal
  clear hal
  cases ho : odd8 c with
  | false =>
    rw [ho] at HA
    obtain ⟨r, hr⟩ := list_one hc0
    have HR : Hid (oneV s.data.toList = .tuple #[.int .u8 (c.toNat : Int), .int .i64 ((1 : Nat) : Int)]) := by show _ = _; rw [hr]; exact oneV_some (oneB_plain ho)
    clear hl hc0 hr ho
    go_enter Tryz.func110, Tryz.ntmps110
    go_wp2_with (go_at_call 143; refine HA.out.mono ?_; rintro e w' ⟨rfl, rfl⟩)
    go_ret2
    exact ⟨by rw [HR.out]; rfl, rfl⟩
  | true =>
    rw [ho] at HA
    by_cases h92 : c = 92
    · subst h92
      replace HA : Hid (Calls Tryz.prog 143 #[.int .u8 92] w fun e w' => e = .returned (.bool (!true)) ∧ w' = w) := HA
      by_cases h3 : s.size < 3
      · obtain ⟨r, hr⟩ := list_one hc0
        have HR : Hid (oneV s.data.toList = .tuple #[.int .u8 0, .int .i64 0]) := by show _ = _; rw [hr] at hl ⊢; exact oneV_none (oneB_short (by simp only [List.length_cons] at hl; omega))
        clear hl hc0 hr ho
        go_enter Tryz.func110, Tryz.ntmps110
        go_wp2_with (go_at_call 143; refine HA.out.mono ?_; rintro e w' ⟨rfl, rfl⟩)
        go_ret2
        exact ⟨by rw [HR.out]; rfl, rfl⟩
      · have h1' : 1 < s.size := by omega
        have h2' : 2 < s.size := by omega
        have hc1 := data_at h1'
        have hc2 := data_at h2'
        generalize hca : s[1] = a at *
        generalize hcb : s[2] = b at *
        obtain ⟨r, hr⟩ := list_three hc0 hc1 hc2
        have hsa := sixteenth_any a w
        have hsb := sixteenth_any b w
        have HSA := Lib.hid hsa
        have HSB := Lib.hid hsb
        clear hsa hsb hc0 hc1 hc2 hl ho
        have HR := Lib.hid hr
        clear hr
        cases ha : hexv a with
        | none =>
          rw [ha] at HSA
          have HV : Hid (oneV s.data.toList = .tuple #[.int .u8 0, .int .i64 0]) := by show _ = _; rw [HR.out]; exact oneV_none (by rw [oneB_hex, ha, hexB_none1])
          have hb1 : ((hexv b).getD 0) < 16 := by
            cases hb : hexv b with
            | none => simp
            | some y => simpa using hexv_lt hb
          generalize (hexv b).getD 0 = y at *
          generalize (hexv b).isSome = yo at *
          clear ha
          have hx : ((none : Option Nat).getD 0 : Nat) = 0 := rfl
          go_enter Tryz.func110, Tryz.ntmps110
          go_wp2_with (first | (go_at_call 143; refine HA.out.mono ?_; rintro e w' ⟨rfl, rfl⟩) | (go_at_call 144; first | ((with_reducible refine HSA.out.mono ?_); rintro e w' ⟨rfl, rfl⟩) | ((with_reducible refine HSB.out.mono ?_); rintro e w' ⟨rfl, rfl⟩)))
          go_ret2
          exact ⟨by rw [HV.out]; rfl, rfl⟩
        | some x =>
          rw [ha] at HSA
          have hx := hexv_lt ha
          cases hb : hexv b with
          | none =>
            rw [hb] at HSB
            have HV : Hid (oneV s.data.toList = .tuple #[.int .u8 0, .int .i64 0]) := by show _ = _; rw [HR.out]; exact oneV_none (by rw [oneB_hex, hb, hexB_none2])
            clear ha hb
            go_enter Tryz.func110, Tryz.ntmps110
            go_wp2_with (first | (go_at_call 143; refine HA.out.mono ?_; rintro e w' ⟨rfl, rfl⟩) | (go_at_call 144; first | ((with_reducible refine HSA.out.mono ?_); rintro e w' ⟨rfl, rfl⟩) | ((with_reducible refine HSB.out.mono ?_); rintro e w' ⟨rfl, rfl⟩)))
            go_ret2
            exact ⟨by rw [HV.out]; rfl, rfl⟩
          | some y =>
            rw [hb] at HSB
            have hy := hexv_lt hb
            have hor := u8_or16 hx hy
            have hsum : ((UInt8.ofNat (16 * x + y)).toNat : Int) = 16 * (x : Int) + (y : Int) := by
              rw [ofNat_toNat (by omega)]; omega
            have hal2 := alone_any (UInt8.ofNat (16 * x + y)) w
            have HV := Lib.hid (show oneB (92 :: a :: b :: r) = if odd8 (UInt8.ofNat (16 * x + y)) = true then some (UInt8.ofNat (16 * x + y), 3) else none by rw [oneB_hex, ha, hb, hexB_some])
            clear ha hb
            rw [hsum] at hal2
            have HSUM := Lib.hid hsum
            clear hsum
            have HA2 := Lib.hid hal2
            clear hal2
            generalize hzz : UInt8.ofNat (16 * x + y) = z at *
            cases hoz : odd8 z with
            | true =>
              rw [hoz] at HA2
              have HV2 : Hid (oneV s.data.toList = .tuple #[.int .u8 (16 * (x : Int) + (y : Int)), .int .i64 ((3 : Nat) : Int)]) := by
                show _ = _
                rw [HR.out, ← HSUM.out]
                exact oneV_some (by rw [HV.out, if_pos hoz])
              clear hoz hzz
              go_enter Tryz.func110, Tryz.ntmps110
              go_wp2_with (first | (go_at_call 143; first | ((with_reducible refine HA.out.mono ?_); rintro e w' ⟨rfl, rfl⟩) | ((with_reducible refine HA2.out.mono ?_); rintro e w' ⟨rfl, rfl⟩)) | (go_at_call 144; first | ((with_reducible refine HSA.out.mono ?_); rintro e w' ⟨rfl, rfl⟩) | ((with_reducible refine HSB.out.mono ?_); rintro e w' ⟨rfl, rfl⟩)))
              go_ret2
              exact ⟨by rw [HV2.out]; rfl, rfl⟩
            | false =>
              rw [hoz] at HA2
              have HV2 : Hid (oneV s.data.toList = .tuple #[.int .u8 0, .int .i64 0]) := by
                show _ = _
                rw [HR.out]
                exact oneV_none (by rw [HV.out, if_neg (by rw [hoz]; simp)])
              clear hoz hzz
              go_enter Tryz.func110, Tryz.ntmps110
              go_wp2_with (first | (go_at_call 143; first | ((with_reducible refine HA.out.mono ?_); rintro e w' ⟨rfl, rfl⟩) | ((with_reducible refine HA2.out.mono ?_); rintro e w' ⟨rfl, rfl⟩)) | (go_at_call 144; first | ((with_reducible refine HSA.out.mono ?_); rintro e w' ⟨rfl, rfl⟩) | ((with_reducible refine HSB.out.mono ?_); rintro e w' ⟨rfl, rfl⟩)))
              go_ret2
              exact ⟨by rw [HV2.out]; rfl, rfl⟩
    · have h92' : ((c.toNat : Int) != 92) = true := by
        rw [bne_iff_ne]
        intro h
        exact h92 (UInt8.toNat_inj.1 (by have : (92 : UInt8).toNat = 92 := rfl; omega))
      obtain ⟨r, hr⟩ := list_one hc0
      have HR : Hid (oneV s.data.toList = .tuple #[.int .u8 0, .int .i64 0]) := by show _ = _; rw [hr]; exact oneV_none (oneB_odd ho h92)
      clear hl hc0 hr ho h92
      go_enter Tryz.func110, Tryz.ntmps110
      go_wp2_with (go_at_call 143; refine HA.out.mono ?_; rintro e w' ⟨rfl, rfl⟩)
      go_ret2
      exact ⟨by rw [HR.out]; rfl, rfl⟩
end Go.Proofs.YtadjfkgnoklmiaaGreat
/- Digits, plainly. -/
namespace Go.Proofs.YtadjfkgnoklmiaaGreat
set_option linter.unusedVariables false

def AllD (l : List UInt8) : Prop := ∀ c ∈ l, dgt c = true
theorem numD_app (l : List UInt8) (c : UInt8) : numD (l ++ [c]) = 10 * numD l + (c.toNat - 48) := by unfold numD; rw [List.foldl_append]; rfl
theorem numD_mono (l m : List UInt8) : numD l ≤ numD (l ++ m) := by
  induction m generalizing l with
  | nil => simp
  | cons c m ih =>
    have h1 := ih (l ++ [c])
    have h2 := numD_app l c
    rw [List.append_assoc] at h1
    simp only [List.cons_append, List.nil_append] at h1
    omega
end Go.Proofs.YtadjfkgnoklmiaaGreat
/- below, above, number of package lex. -/
namespace Go.Proofs.YtadjfkgnoklmiaaGreat
set_option linter.unusedVariables false
open Go.RowKit

def numP (o : Option Nat) (s : Int) : Value := .tuple #[.int .i64 (s * ((o.getD 0 : Nat) : Int)), .bool o.isSome]
def BRel (l : List UInt8) (most : Nat) (n i : Value) : Prop := ∃ k m : Nat, k ≤ l.length ∧ m ≤ most ∧ m = numD (l.take k) ∧ n = .int .i64 (-(m : Int)) ∧ i = .int .i64 (k : Int)

set_option maxHeartbeats 1600000 in
theorem below_any (s : ByteArray) (hs : s.size ≤ 1000000) (hd : AllD s.data.toList) (most : Nat) (hm : 9 ≤ most) (hm2 : most ≤ 9223372036854775808) (w : World) :
    Calls Tryz.prog 109 #[.string s, .int .i64 (-(most : Int))] w fun e w' => e = .returned (numP (decD most s.data.toList) (-1)) ∧ w' = w := by
  have hl := data_len s
  generalize hL : s.data.toList = l at *
  have HD : Hid (∀ k (h : k < s.size), l[k]? = some s[k]) := by
    show ∀ k (h : k < s.size), l[k]? = some s[k]
    subst hL; exact fun k h => data_at h
  have HL := Lib.hid hl
  have HA : Hid (AllD l) := hd
  clear hl hd
  by_cases h0 : s.size = 0
  · have he : l = [] := List.eq_nil_of_length_eq_zero (by rw [HL.out, h0])
    have hse : s = ⟨#[]⟩ := by
      apply ByteArray.ext
      exact Array.eq_empty_of_size_eq_zero h0
    have HV : Hid (numP (decD most l) (-1) = .tuple #[.int .i64 0, .bool false]) := by show _ = _; rw [he]; unfold decD; rw [if_pos (.inl rfl)]; rfl
    subst hse
    clear he h0 HD HL HA hL hs
    go_enter Tryz.func109, Tryz.ntmps109
    go_wp2_with fail
    go_ret2
    exact ⟨by rw [HV.out]; rfl, rfl⟩
  · have h0' : 0 < s.size := by omega
    have hl0 := HD.out 0 h0'
    have hts : s.toList = l := by rw [ByteArray.toList_eq, hL]
    generalize hcc : s[0] = c0 at *
    obtain ⟨r, hr⟩ : ∃ r, l = c0 :: r := by
      match l, hl0 with
      | x :: r, hl0 => simp at hl0; subst hl0; exact ⟨r, rfl⟩
    have e1 : (s.toList == []) = false := by rw [hts, hr]; rfl
    have e1' : s.toList.isEmpty = false := by rw [hts, hr]; rfl
    have e2 : (s.toList == [48]) = decide (l = [48]) := by rw [hts]; rw [Bool.eq_iff_iff]; simp
    have HR := Lib.hid hr
    have HTS := Lib.hid hts
    have HL0 := Lib.hid hl0
    clear hr hts hl0 hL
    by_cases hz : c0 = 48 ∧ l ≠ [48]
    · obtain ⟨rfl, hne⟩ := hz
      have HV : Hid (numP (decD most l) (-1) = .tuple #[.int .i64 0, .bool false]) := by show _ = _; unfold decD; rw [if_pos (.inr (.inl ⟨by rw [HR.out]; rfl, hne⟩))]; rfl
      rw [decide_eq_false hne] at e2
      clear hne
      go_enter Tryz.func109, Tryz.ntmps109
      go_wp2_with fail
      go_ret2
      exact ⟨by rw [HV.out]; rfl, rfl⟩
    · have HZ := Lib.hid hz
      clear hz
      have two : (((c0.toNat : Int) == 48) = true ∧ l = [48]) ∨ ((c0.toNat : Int) == 48) = false := by
        by_cases h : c0 = 48
        · left
          subst h
          exact ⟨rfl, Classical.byContradiction fun hh => HZ.out ⟨rfl, hh⟩⟩
        · right
          rw [beq_eq_false_iff_ne]
          intro hh
          exact h (UInt8.toNat_inj.1 (by have : (48 : UInt8).toNat = 48 := rfl; omega))
      have hstart : BRel l most (.int .i64 0) (.int .i64 0) := ⟨0, 0, by omega, by omega, rfl, rfl, rfl⟩
      have HS := Lib.hid hstart
      clear hstart
      rcases two with ⟨a, b⟩ | a
      case' inl => rw [decide_eq_true b] at e2; clear b
      all_goals
        go_enter Tryz.func109, Tryz.ntmps109
        go_wp2_with fail
        go_loop [6, 22] (fun n i => BRel l most n i) (fun _ i => s.size - (intOf i).toNat)
        case atStart => exact HS.out
        case round =>
          obtain ⟨k, m, hk, hmm, hmd, rfl, rfl⟩ := hrel
          have HM := Lib.hid hmd
          clear hmd
          have hk2 : k ≤ s.size := by have := HL.out; omega
          clear hk
          by_cases hlt : k < s.size
          · have hi : 0 ≤ (k : Int) ∧ (k : Int) < s.size := by omega
            have hc := HD.out k hlt
            generalize hck : s[k] = c at *
            have hcd : 48 ≤ (c.toNat : Int) ∧ (c.toNat : Int) ≤ 57 := by
              have := HA.out c (List.mem_of_getElem? hc)
              unfold dgt at this
              simp at this
              omega
            have HC := Lib.hid hc
            clear hc
            have HN : Hid (numD (l.take (k + 1)) = 10 * m + (c.toNat - 48)) := by
              show _ = _
              obtain ⟨hk3, e⟩ := List.getElem?_eq_some_iff.1 HC.out
              rw [List.take_succ_eq_append_getElem hk3, numD_app, e, ← HM.out]
            by_cases hov : most < 10 * m + (c.toNat - 48)
            · have hq : (-(m : Int)) < (-(most : Int) + ((c.toNat : Int) - 48)).tdiv 10 := by
                rw [show -(most : Int) + ((c.toNat : Int) - 48) = -((most : Int) - ((c.toNat : Int) - 48)) by omega, Int.neg_tdiv, Int.tdiv_eq_ediv_of_nonneg (by omega)]
                omega
              have HV : Hid (numP (decD most l) (-1) = .tuple #[.int .i64 0, .bool false]) := by
                show _ = _
                unfold decD
                rw [if_pos (.inr (.inr (by
                  have := numD_mono (l.take (k + 1)) (l.drop (k + 1))
                  rw [List.take_append_drop] at this
                  have := HN.out
                  omega)))]
                rfl
              go_wp2_with fail
              go_ret2
              exact ⟨by rw [HV.out]; rfl, rfl⟩
            · have hq : ¬ (-(m : Int)) < (-(most : Int) + ((c.toNat : Int) - 48)).tdiv 10 := by
                rw [show -(most : Int) + ((c.toNat : Int) - 48) = -((most : Int) - ((c.toNat : Int) - 48)) by omega, Int.neg_tdiv, Int.tdiv_eq_ediv_of_nonneg (by omega)]
                omega
              go_wp2_with fail
              go_round
              case rel => exact ⟨k + 1, 10 * m + (c.toNat - 48), by have := HL.out; omega, by omega, HN.out.symm, by first | rfl | (exact int_eq (by omega)), by go_num⟩
              case measure => simp [intOf]; omega
          · obtain rfl : k = s.size := by omega
            have HV : Hid (numP (decD most l) (-1) = .tuple #[.int .i64 (-(m : Int)), .bool true]) := by
              show _ = _
              have e : numD l = m := by rw [HM.out, ← HL.out, List.take_length]
              have e3 : decD most l = some m := by
                unfold decD
                rw [if_neg, e]
                rintro (h | ⟨h, h'⟩ | h)
                · rw [HR.out] at h; cases h
                · rw [HR.out] at h; simp at h; exact HZ.out ⟨h, h'⟩
                · omega
              rw [e3]
              unfold numP
              simp
            go_wp2_with fail
            go_ret2
            exact ⟨by rw [HV.out]; rfl, rfl⟩
end Go.Proofs.YtadjfkgnoklmiaaGreat
/- above, number of package lex. -/
namespace Go.Proofs.YtadjfkgnoklmiaaGreat
set_option linter.unusedVariables false
open Go.RowKit

def nmV (o : Option Int) : Value := .tuple #[.int .i64 (o.getD 0), .bool o.isSome]
theorem numD_le {most n : Nat} {l : List UInt8} (h : decD most l = some n) : n ≤ most := by
  unfold decD at h
  split at h
  · cases h
  · rename_i hh
    cases h
    omega
set_option maxHeartbeats 800000 in
theorem above_any (s : ByteArray) (hs : s.size ≤ 1000000) (hd : AllD s.data.toList) (most : Nat) (hm : 9 ≤ most) (hm2 : most ≤ 9223372036854775807) (w : World) :
    Calls Tryz.prog 70 #[.string s, .int .i64 (most : Int)] w fun e w' => e = .returned (nmV ((decD most s.data.toList).map fun (n : Nat) => (n : Int))) ∧ w' = w := by
  have hb := below_any s hs hd most hm (by omega) w
  cases ho : decD most s.data.toList with
  | none =>
    rw [ho] at hb
    have HB : Hid (Calls Tryz.prog 109 #[.string s, .int .i64 (-(most : Int))] w fun e w' => e = .returned (.tuple #[.int .i64 0, .bool false]) ∧ w' = w) := hb
    clear hb ho hd
    go_enter Tryz.func70, Tryz.ntmps70
    go_wp2_with (go_at_call 109; refine HB.out.mono ?_; rintro e w' ⟨rfl, rfl⟩)
    go_ret2
    exact ⟨rfl, rfl⟩
  | some m =>
    rw [ho] at hb
    have hml := numD_le ho
    have HB : Hid (Calls Tryz.prog 109 #[.string s, .int .i64 (-(most : Int))] w fun e w' => e = .returned (.tuple #[.int .i64 (-(m : Int)), .bool true]) ∧ w' = w) := hb.mono fun e w' hh => ⟨by rw [hh.1]; unfold numP; simp, hh.2⟩
    clear hb ho hd
    go_enter Tryz.func70, Tryz.ntmps70
    go_wp2_with (go_at_call 109; refine HB.out.mono ?_; rintro e w' ⟨rfl, rfl⟩)
    go_ret2
    exact ⟨by first | rfl | (unfold nmV; exact ret_pair (int_eq (by simp)) rfl), rfl⟩

theorem ext_drop (s : ByteArray) (k : Nat) : (s.extract k s.size).data.toList = s.data.toList.drop k := by
  have : (s.data.toList).length = s.size := data_len s
  simp [ByteArray.data_extract, Array.toList_extract, List.extract]
  rw [List.take_of_length_le (by rw [List.length_drop, this]; exact Nat.le_refl _)]
theorem ext_mid (s : ByteArray) (a b : Nat) : (s.extract a b).data.toList = (s.data.toList.drop a).take (b - a) := by
  simp [ByteArray.data_extract, Array.toList_extract, List.extract]
theorem ext_size (s : ByteArray) {a b : Nat} (hb : b ≤ s.size) : (s.extract a b).size = b - a := by rw [ByteArray.size_extract]; omega

def numbA : List UInt8 → Option Int
  | [] => none
  | c :: r => if c = 45 then (decD 9223372036854775808 r).bind fun (n : Nat) => if n = 0 then none else some (-(n : Int)) else (decD 9223372036854775807 (c :: r)).map fun (n : Nat) => (n : Int)
set_option maxHeartbeats 800000 in
theorem number_any (s : ByteArray) (hs : s.size ≤ 1000000) {c : UInt8} {r : List UInt8} (hl : s.data.toList = c :: r) (hr : AllD r) (hc : c = 45 ∨ dgt c = true) (w : World) :
    Calls Tryz.prog 69 #[.string s] w fun e w' => e = .returned (nmV (numbA s.data.toList)) ∧ w' = w := by
  have h0 : 0 < s.size := by rw [← data_len s, hl]; simp
  have hc0 : s[0] = c := by
    have := data_at h0
    rw [hl] at this
    simp at this
    exact this.symm
  by_cases h45 : c = 45
  · have hb := below_any (s.extract 1 s.size) (by rw [ext_size _ (Nat.le_refl _)]; omega) (by rw [ext_drop, hl]; exact hr) 9223372036854775808 (by omega) (by omega) w
    rw [ext_drop, hl] at hb
    simp only [List.drop_succ_cons, List.drop_zero] at hb
    have HV : Hid (numbA s.data.toList = (decD 9223372036854775808 r).bind fun (n : Nat) => if n = 0 then none else some (-(n : Int))) := by show _ = _; rw [hl, numbA, if_pos h45]
    subst h45
    have e45 : (45 : UInt8).toNat = 45 := rfl
    cases ho : decD 9223372036854775808 r with
    | none =>
      rw [ho] at hb HV
      have HB : Hid (Calls Tryz.prog 109 #[.string (s.extract 1 s.size), .int .i64 (-9223372036854775808)] w fun e w' => e = .returned (.tuple #[.int .i64 0, .bool false]) ∧ w' = w) := hb
      clear hb ho hr hl hc
      go_enter Tryz.func69, Tryz.ntmps69
      go_wp2_with (go_at_call 109; refine HB.out.mono ?_; rintro e w' ⟨rfl, rfl⟩)
      go_ret2
      exact ⟨by rw [HV.out]; rfl, rfl⟩
    | some m =>
      rw [ho] at hb HV
      have hml := numD_le ho
      have HB : Hid (Calls Tryz.prog 109 #[.string (s.extract 1 s.size), .int .i64 (-9223372036854775808)] w fun e w' => e = .returned (.tuple #[.int .i64 (-(m : Int)), .bool true]) ∧ w' = w) := hb.mono fun e w' hh => ⟨by rw [hh.1]; unfold numP; simp, hh.2⟩
      clear hb ho hr hl hc
      by_cases hz : m = 0
      · subst hz
        have HB' : Hid (Calls Tryz.prog 109 #[.string (s.extract 1 s.size), .int .i64 (-9223372036854775808)] w fun e w' => e = .returned (.tuple #[.int .i64 0, .bool true]) ∧ w' = w) := HB
        go_enter Tryz.func69, Tryz.ntmps69
        go_wp2_with (go_at_call 109; refine HB'.out.mono ?_; rintro e w' ⟨rfl, rfl⟩)
        go_ret2
        exact ⟨by rw [HV.out]; rfl, rfl⟩
      · have hne : ((-(m : Int)) != 0) = true := by rw [bne_iff_ne]; omega
        have HZ := Lib.hid hz
        clear hz
        go_enter Tryz.func69, Tryz.ntmps69
        go_wp2_with (go_at_call 109; refine HB.out.mono ?_; rintro e w' ⟨rfl, rfl⟩)
        go_ret2
        exact ⟨by rw [HV.out, Option.bind_some, if_neg HZ.out]; rfl, rfl⟩
  · have hd : dgt c = true := hc.resolve_left h45
    have ha := above_any s hs (by rw [hl]; intro x hx; rcases List.mem_cons.1 hx with rfl | hx; exact hd; exact hr x hx) 9223372036854775807 (by omega) (by omega) w
    have HV : Hid (numbA s.data.toList = (decD 9223372036854775807 s.data.toList).map fun (n : Nat) => (n : Int)) := by show _ = _; rw [hl, numbA, if_neg h45]
    have hne : ((c.toNat : Int) == 45) = false := by
      rw [beq_eq_false_iff_ne]
      intro h
      exact h45 (UInt8.toNat_inj.1 (by have : (45 : UInt8).toNat = 45 := rfl; omega))
    rw [← HV.out] at ha
    have HA : Hid (Calls Tryz.prog 70 #[.string s, .int .i64 9223372036854775807] w fun e w' => e = .returned (nmV (numbA s.data.toList)) ∧ w' = w) := ha
    clear ha hd hl hr hc h45
    generalize numbA s.data.toList = o at *
    have HO : Hid (nmV o = .tuple #[.int .i64 (o.getD 0), .bool o.isSome]) := rfl
    generalize o.getD 0 = on at *
    generalize o.isSome = os at *
    rw [HO.out] at HA ⊢
    go_enter Tryz.func69, Tryz.ntmps69
    go_wp2_with (go_at_call 70; refine HA.out.mono ?_; rintro e w' ⟨rfl, rfl⟩)
    go_ret2
    exact ⟨rfl, rfl⟩
end Go.Proofs.YtadjfkgnoklmiaaGreat
/- text of package lex: a quoted text. -/
namespace Go.Proofs.YtadjfkgnoklmiaaGreat
set_option linter.unusedVariables false
open Go.RowKit

def txtR (l : List UInt8) : Option (List UInt8 × Nat) := (qtB l).bind fun p => if p.1.length ≤ 64 then some p else none
def textV (l : List UInt8) (a : Nat) : Value := match txtR (l.drop a) with
  | some (m, j) => .tuple #[.string ⟨m.toArray⟩, .int .i64 ((a + j : Nat) : Int), .bool true]
  | none => .tuple #[.string ⟨#[]⟩, .int .i64 0, .bool false]
theorem textV_none {l : List UInt8} {a : Nat} (h : txtR (l.drop a) = none) : textV l a = .tuple #[.string ⟨#[]⟩, .int .i64 0, .bool false] := by unfold textV; rw [h]
theorem textV_some {l : List UInt8} {a j : Nat} {m : List UInt8} (h : txtR (l.drop a) = some (m, j)) : textV l a = .tuple #[.string ⟨m.toArray⟩, .int .i64 ((a + j : Nat) : Int), .bool true] := by unfold textV; rw [h]

def QtTo (l : List UInt8) (a k : Nat) (m : List UInt8) : Prop := a ≤ k ∧ qtB (l.drop a) = (qtB (l.drop k)).map fun p => (m ++ p.1, (k - a) + p.2)
theorem QtTo.start (l : List UInt8) (a : Nat) : QtTo l a a [] := ⟨Nat.le_refl _, by simp⟩
theorem QtTo.step {l : List UInt8} {a k : Nat} {m r : List UInt8} {c x : UInt8} {j : Nat} (h : QtTo l a k m) (hd : l.drop k = c :: r) (hc : c ≠ 34) (ho : oneB (c :: r) = some (x, j)) : QtTo l a (k + j) (m ++ [x]) := by
  obtain ⟨h1, h2⟩ := h
  refine ⟨by omega, ?_⟩
  rw [h2, hd, qtB_one hc ho, ← hd, List.drop_drop, Option.map_map]
  congr 1
  funext p
  simp [Function.comp]
  omega
theorem QtTo.bad {l : List UInt8} {a k : Nat} {m r : List UInt8} {c : UInt8} (h : QtTo l a k m) (hd : l.drop k = c :: r) (hc : c ≠ 34) (ho : oneB (c :: r) = none) : txtR (l.drop a) = none := by
  unfold txtR; rw [h.2, hd, qtB_bad hc ho]; rfl
theorem QtTo.end {l : List UInt8} {a k : Nat} {m : List UInt8} (h : QtTo l a k m) (hk : l.length ≤ k) : txtR (l.drop a) = none := by
  unfold txtR; rw [h.2, List.drop_of_length_le hk, qtB_nil]; rfl
theorem QtTo.quote {l : List UInt8} {a k : Nat} {m r : List UInt8} (h : QtTo l a k m) (hd : l.drop k = 34 :: r) : txtR (l.drop a) = if m.length ≤ 64 then some (m, k - a + 1) else none := by
  unfold txtR; rw [h.2, hd, qtB_end]; simp

def TRel (w : World) (l : List UInt8) (a n : Nat) (i o : Value) (wr : World) : Prop :=
  ∃ (k j c : Nat) (A : Option Addr) (m : List UInt8), k ≤ n ∧ i = .int .i64 (k : Int) ∧ o = .slice A j c ∧ wr.ownsRow w.heap.size 5 1 (.slice A j c) j (bv m) ∧ Below w.heap.size w wr ∧ QtTo l a k m ∧ m.length ≤ k

theorem drop_at {l : List UInt8} {k : Nat} {c : UInt8} (h : l[k]? = some c) : l.drop k = c :: l.drop (k + 1) := by
  obtain ⟨hk, e⟩ := List.getElem?_eq_some_iff.1 h
  rw [List.drop_eq_getElem_cons hk, e]

set_option maxHeartbeats 1600000 in
theorem ltext_any (s : ByteArray) (hs : s.size ≤ 100000) (a : Nat) (ha : a ≤ s.size) (w : World) :
    Calls Tryz.prog 71 #[.string s, .int .i64 (a : Int)] w fun e w' => e = .returned (textV s.data.toList a) ∧ Below w.heap.size w w' := by
  have hl := data_len s
  have hone : ∀ k w, k < s.size → Calls Tryz.prog 110 #[.string (s.extract k s.size)] w fun e w' => e = .returned (oneV (s.data.toList.drop k)) ∧ w' = w := fun k w hk => by
    have := one_any (s.extract k s.size) (by rw [ext_size _ (Nat.le_refl _)]; unfold maxLen; omega) (by rw [ext_size _ (Nat.le_refl _)]; omega) w
    rwa [ext_drop] at this
  generalize hL : s.data.toList = l at *
  have HONE := Lib.hid hone
  have HD : Hid (∀ k (h : k < s.size), l[k]? = some s[k]) := by
    show ∀ k (h : k < s.size), l[k]? = some s[k]
    subst hL; exact fun k h => data_at h
  have HL := Lib.hid hl
  clear hl hone hL
  have hstart : TRel w l a s.size (.int .i64 (a : Int)) (.slice none 0 0) w := ⟨a, 0, 0, none, [], ha, rfl, rfl, ⟨rfl, .inl ⟨rfl, rfl⟩⟩, Below.refl _ _, QtTo.start _ _, by simp⟩
  have HS := Lib.hid hstart
  clear hstart
  obtain ⟨i, hi, hz0, hz1, hz2⟩ := info_parts u8info
  have HI := Lib.hid (And.intro hi (And.intro hz0 (And.intro hz1 hz2)))
  clear hi hz0 hz1 hz2
  go_enter Tryz.func71, Tryz.ntmps71
  go_wp2_with fail
  go_loopw [1, 7] (fun i o wr => TRel w l a s.size i o wr) (fun i _ _ => s.size - (intOf i).toNat)
  case atStart => exact HS.out
  case round =>
    obtain ⟨k, j, c, A, m, hk, rfl, rfl, hown, hbel, hq, hmk⟩ := hrel
    have HQ := Lib.hid hq
    have HB := Lib.hid hbel
    have hj : m.length = j := by have := hown.1; simpa [bv_len] using this
    have HJ := Lib.hid hj
    clear hq hj
    by_cases hlt : k < s.size
    · have hki : 0 ≤ (k : Int) ∧ (k : Int) < s.size := by omega
      have hc := HD.out k hlt
      generalize hcc : s[k] = b at *
      have HC := Lib.hid (drop_at hc)
      clear hc
      have hb8 : b.toNat < 256 := b.toNat_lt
      by_cases h34 : b = 34
      · subst h34
        by_cases h64 : m.length ≤ 64
        · have HV : Hid (textV l a = .tuple #[.string ⟨m.toArray⟩, .int .i64 ((a + (k - a + 1) : Nat) : Int), .bool true]) := by show _ = _; exact textV_some (by rw [HQ.out.quote HC.out, if_pos h64])
          have hcv := conv_text Tryz.underlying181 Tryz.underlying5 Tryz.underlying9 (Sl.of_own hown)
          have hak : ((a + (k - a + 1) : Nat) : Int) = (k : Int) + 1 := by have := HQ.out.1; omega
          have HAK := Lib.hid hak
          have hkn : ((k : Int) == (s.size : Int)) = false := by rw [beq_eq_false_iff_ne]; omega
          have hj64 : ¬ (64 : Int) < (j : Int) := by have := HJ.out; omega
          clear hown hbel hak h64 hmk
          go_wp2_with fail
          go_ret3
          exact ⟨by rw [HV.out, HAK.out]; rfl, HB.out⟩
        · have HV : Hid (textV l a = .tuple #[.string ⟨#[]⟩, .int .i64 0, .bool false]) := by show _ = _; exact textV_none (by rw [HQ.out.quote HC.out, if_neg h64])
          have hkn : ((k : Int) == (s.size : Int)) = false := by rw [beq_eq_false_iff_ne]; omega
          have hj64 : (64 : Int) < (j : Int) := by have := HJ.out; omega
          clear hown hbel h64 hmk
          go_wp2_with fail
          go_ret3
          exact ⟨by rw [HV.out]; rfl, HB.out⟩
      · have hb34 : ((b.toNat : Int) != 34) = true := by
          rw [bne_iff_ne]
          intro h
          exact h34 (UInt8.toNat_inj.1 (by have : (34 : UInt8).toNat = 34 := rfl; omega))
        have ho := HONE.out k wr hlt
        rw [HC.out] at ho
        cases hone : oneB (b :: l.drop (k + 1)) with
        | none =>
          rw [oneV_none hone] at ho
          have HO := Lib.hid ho
          have HV : Hid (textV l a = .tuple #[.string ⟨#[]⟩, .int .i64 0, .bool false]) := by show _ = _; exact textV_none (HQ.out.bad HC.out h34 hone)
          clear hown hbel hmk ho hone h34
          go_wp2_with (go_at_call 110; refine HO.out.mono ?_; rintro e w' ⟨rfl, rfl⟩)
          go_ret3
          exact ⟨by rw [HV.out]; rfl, HB.out⟩
        | some xk =>
          obtain ⟨x, q⟩ := xk
          rw [oneV_some hone] at ho
          have HO := Lib.hid ho
          have hqp := oneB_pos hone
          have hqn : 1 ≤ q ∧ k + q ≤ s.size := by
            have := hqp.2
            rw [← HC.out, List.length_drop, HL.out] at this
            omega
          have hq0 : ((q : Int) == 0) = false := by rw [beq_eq_false_iff_ne]; omega
          obtain ⟨A2, c2, w2, hap, hown2, hbel2⟩ := append_one (P := Tryz.prog) (ty := 181) Tryz.underlying181 HI.out.1 HI.out.2.1 HI.out.2.2.1 HI.out.2.2.2 hown (by have := HJ.out; omega) hbel.size (x.toNat : Int)
          have hown3 : w2.ownsRow w.heap.size 5 1 (.slice A2 (j + 1) c2) (j + 1) (bv (m ++ [x])) := by rw [bv_app]; exact hown2
          have HO2 := Lib.hid hown3
          have HB2 := Lib.hid (hbel.trans hbel2)
          have HAP := Lib.hid hap
          have HQ2 := Lib.hid (HQ.out.step HC.out h34 hone)
          clear hown hbel ho hone h34 hqp hap hown2 hbel2 hown3
          go_wp2_with (first | (go_at_call 110; refine HO.out.mono ?_; rintro e w' ⟨rfl, rfl⟩) | (at_builtin; refine wpList_append_run rfl _ _ _ _ rfl rfl rfl HAP.out ?_))
          go_roundw
          case rel => exact ⟨k + q, j + 1, c2, A2, m ++ [x], hqn.2, by go_num, rfl, HO2.out, HB2.out, HQ2.out, by rw [List.length_append]; simp; omega⟩
          case measure => simp [intOf]; omega
    · obtain rfl : k = s.size := by omega
      have HV : Hid (textV l a = .tuple #[.string ⟨#[]⟩, .int .i64 0, .bool false]) := by show _ = _; exact textV_none (HQ.out.end (by rw [HL.out]; exact Nat.le_refl _))
      clear hown hbel
      go_wp2_with fail
      go_ret3
      exact ⟨by rw [HV.out]; rfl, HB.out⟩
end Go.Proofs.YtadjfkgnoklmiaaGreat
/- Tokens as Go has them: in a block of its own, and rows of them; append. -/
namespace Go.Proofs.YtadjfkgnoklmiaaGreat
set_option linter.unusedVariables false
open Go.RowKit

def Tk.val (t : Tk) : Value := .agg #[.int .i64 t.k, .int .i64 t.p, .int .i64 t.n, .string t.s]
def Tb (w : World) (g : Nat) (k p n : Int) (s : ByteArray) : Prop := Ob w g 139 #[.int .i64 k, .int .i64 p, .int .i64 n, .string s]
section
variable {w w' : World} {g : Nat} {k p n : Int} {s : ByteArray}
theorem Tb.made (w : World) (k p n : Int) (s : ByteArray) : Tb (w.alloc (.cells #[.int .i64 k, .int .i64 p, .int .i64 n, .string s] 139)) w.heap.size k p n s := Ob.made _ _ _
theorem Tb.lt (h : Tb w g k p n s) : g < w.heap.size := Ob.lt h
theorem Tb.alloc (h : Tb w g k p n s) (o : Obj) : Tb (w.alloc o) g k p n s := Ob.keep h (Below.heap_alloc w o g h.lt)
theorem Tb.then_ (h : Tb w g k p n s) (hb : Below w.heap.size w w') : Tb w' g k p n s := Ob.below h hb h.lt
theorem Tb.below {B : Nat} (h : Tb w g k p n s) (hb : Below B w w') (hg : g < B) : Tb w' g k p n s := Ob.below h hb hg
theorem Tb.only {r : Nat} (h : Tb w g k p n s) (ho : Only r w w') (hg : g ≠ r) : Tb w' g k p n s := Ob.keep h (ho.heap h.lt hg)
theorem Tb.drewN (h : Tb w g k p n s) (j : Nat) : Tb (w.drewN j) g k p n s := h
theorem Tb.c4 (h : Tb w g k p n s) : w.cell? ⟨g, 0, none⟩ = some (.int .i64 k) ∧ w.cell? ⟨g, 1, none⟩ = some (.int .i64 p) ∧ w.cell? ⟨g, 2, none⟩ = some (.int .i64 n) ∧ w.cell? ⟨g, 3, none⟩ = some (.string s) := ⟨Ob.cell h 0, Ob.cell h 1, Ob.cell h 2, Ob.cell h 3⟩
theorem Tb.fz (h : Tb w g k p n s) (i : Nat) : w.frozen? ⟨g, i, none⟩ = false := Ob.frozen h i
theorem Tb.setK (h : Tb w g k p n s) (k' : Int) : Tb (w.setCell ⟨g, 0, none⟩ (.int .i64 k')) g k' p n s := by unfold Tb; simpa using Ob.put h 0 (.int .i64 k')
theorem Tb.setN (h : Tb w g k p n s) (n' : Int) : Tb (w.setCell ⟨g, 2, none⟩ (.int .i64 n')) g k p n' s := by unfold Tb; simpa using Ob.put h 2 (.int .i64 n')
theorem Tb.setS (h : Tb w g k p n s) (s' : ByteArray) : Tb (w.setCell ⟨g, 3, none⟩ (.string s')) g k p n s' := by unfold Tb; simpa using Ob.put h 3 (.string s')
theorem Tb.put (h : Tb w g k p n s) (k' p' n' : Int) (s' : ByteArray) : Tb ((((w.setCell ⟨g, 0, none⟩ (.int .i64 k')).setCell ⟨g, 1, none⟩ (.int .i64 p')).setCell ⟨g, 2, none⟩ (.int .i64 n')).setCell ⟨g, 3, none⟩ (.string s')) g k' p' n' s' := by
  unfold Tb
  simpa using (((Ob.put h 0 (.int .i64 k')).put 1 (.int .i64 p')).put 2 (.int .i64 n')).put 3 (.string s')
end
def cells4 : List Tk → List Value
  | [] => []
  | t :: r => .int .i64 t.k :: .int .i64 t.p :: .int .i64 t.n :: .string t.s :: cells4 r
theorem cells4_len (l : List Tk) : (cells4 l).length = l.length * 4 := by
  induction l with
  | nil => rfl
  | cons v r ih => simp [cells4, ih]; omega
theorem cells4_app (l m : List Tk) : cells4 (l ++ m) = cells4 l ++ cells4 m := by
  induction l with
  | nil => rfl
  | cons v r ih => simp [cells4, ih]
theorem cells4_one {l : List Tk} : ∀ v ∈ cells4 l, v.oneCell' = true := by
  induction l with
  | nil => intro v hv; cases hv
  | cons x r ih =>
    intro v hv
    simp only [cells4, List.mem_cons] at hv
    rcases hv with rfl | rfl | rfl | rfl | hv
    · rfl
    · rfl
    · rfl
    · rfl
    · exact ih v hv
theorem cells4_at {l : List Tk} {j : Nat} {v : Tk} (h : l[j]? = some v) : (cells4 l)[j * 4]? = some (.int .i64 v.k) ∧ (cells4 l)[j * 4 + 1]? = some (.int .i64 v.p) ∧ (cells4 l)[j * 4 + 2]? = some (.int .i64 v.n) ∧ (cells4 l)[j * 4 + 3]? = some (.string v.s) := by
  induction l generalizing j with
  | nil => simp at h
  | cons x r ih =>
    cases j with
    | zero => simp at h; subst h; exact ⟨rfl, rfl, rfl, rfl⟩
    | succ j =>
      simp at h
      obtain ⟨a, b, c, d⟩ := ih h
      have e : (j + 1) * 4 = j * 4 + 1 + 1 + 1 + 1 := by omega
      rw [e]
      exact ⟨by simpa [cells4] using a, by simpa [cells4] using b, by simpa [cells4] using c, by simpa [cells4] using d⟩

def Ts (w : World) (B : Nat) (A : Option Addr) (n c : Nat) (l : List Tk) : Prop :=
  l.length = n ∧ n ≤ c ∧ c ≤ maxLen ∧ (n = 0 ∨ ∃ b o, A = some ⟨b, o, none⟩ ∧ b < B ∧ ∀ j v, l[j]? = some v → w.cell? ⟨b, o + j * 4, none⟩ = some (.int .i64 v.k) ∧ w.cell? ⟨b, o + j * 4 + 1, none⟩ = some (.int .i64 v.p) ∧ w.cell? ⟨b, o + j * 4 + 2, none⟩ = some (.int .i64 v.n) ∧ w.cell? ⟨b, o + j * 4 + 3, none⟩ = some (.string v.s))
section
variable {w w' : World} {B B' n c : Nat} {A : Option Addr} {l : List Tk}
theorem Ts.keep (h : Ts w B A n c l) (hk : ∀ k, k < B → w'.heap[k]? = w.heap[k]?) : Ts w' B A n c l := by
  obtain ⟨h1, h2, h3, h4⟩ := h
  refine ⟨h1, h2, h3, ?_⟩
  rcases h4 with h4 | ⟨b, o, e, hb, hc⟩
  · exact .inl h4
  · refine .inr ⟨b, o, e, hb, fun j v hv => ?_⟩
    obtain ⟨a1, a2, a3, a4⟩ := hc j v hv
    exact ⟨(World.cell?_of_block (hk b hb)).trans a1, (World.cell?_of_block (hk b hb)).trans a2, (World.cell?_of_block (hk b hb)).trans a3, (World.cell?_of_block (hk b hb)).trans a4⟩
theorem Ts.below (h : Ts w B A n c l) (hb : Below B w w') : Ts w' B A n c l := h.keep hb.block
theorem Ts.more (h : Ts w B A n c l) (hB : B ≤ B') : Ts w B' A n c l := by
  obtain ⟨h1, h2, h3, h4⟩ := h
  refine ⟨h1, h2, h3, ?_⟩
  rcases h4 with h4 | ⟨b, o, e, hb, hc⟩
  · exact .inl h4
  · exact .inr ⟨b, o, e, by omega, hc⟩
theorem Ts.then_ (h : Ts w w.heap.size A n c l) (hb : Below w.heap.size w w') : Ts w' w'.heap.size A n c l := (h.below hb).more hb.size
theorem Ts.at_ (h : Ts w B A n c l) {k : Nat} (hk : k < n) : ∃ b o v, A = some ⟨b, o, none⟩ ∧ b < B ∧ l[k]? = some v ∧ w.cell? ⟨b, o + k * 4, none⟩ = some (.int .i64 v.k) ∧ w.cell? ⟨b, o + k * 4 + 1, none⟩ = some (.int .i64 v.p) ∧ w.cell? ⟨b, o + k * 4 + 2, none⟩ = some (.int .i64 v.n) ∧ w.cell? ⟨b, o + k * 4 + 3, none⟩ = some (.string v.s) := by
  obtain ⟨h1, h2, h3, h4⟩ := h
  rcases h4 with h4 | ⟨b, o, e, hb, hc⟩
  · omega
  · have hl : k < l.length := by omega
    exact ⟨b, o, l[k], e, hb, List.getElem?_eq_getElem hl, hc k _ (List.getElem?_eq_getElem hl)⟩
theorem Ts.nil_ (w : World) (B : Nat) : Ts w B none 0 0 [] := ⟨rfl, Nat.le_refl _, by simp [maxLen], .inl rfl⟩
end

theorem tokinfo : (Tryz.prog.info? 139).map (fun i => (i.zero, i.size, i.bytes)) = some (some (.agg #[.int .i64 0, .int .i64 0, .int .i64 0, .string ⟨#[]⟩]), 4, 40) := by kernel_rfl
theorem tok_parts : ∃ i, Tryz.prog.info? 139 = some i ∧ i.zero = some (.agg #[.int .i64 0, .int .i64 0, .int .i64 0, .string ⟨#[]⟩]) ∧ i.size = 4 ∧ i.bytes = 40 := by
  have h := tokinfo
  cases hi : Tryz.prog.info? 139 with
  | none => rw [hi] at h; cases h
  | some i =>
    rw [hi] at h
    simp only [Option.map_some, Option.some.injEq, Prod.mk.injEq] at h
    exact ⟨i, rfl, h.1, h.2.1, h.2.2⟩

theorem Ts.of_own {w : World} {base n c : Nat} {A : Option Addr} {l : List Tk} (h : w.ownsRow base 139 4 (.slice A n c) n (cells4 l)) : Ts w w.heap.size A n c l := by
  have hl : l.length = n := by have := h.1; rw [cells4_len] at this; omega
  rcases h.2 with ⟨hv, hn⟩ | ⟨g, cap, cur, hv, hb, hg, hnc, hcm, hcs, ht⟩
  · injection hv with h1 h2 h3
    subst h1 h2 h3
    exact ⟨hl, Nat.le_refl _, by simp [maxLen], .inl rfl⟩
  · injection hv with h1 h2 h3
    subst h1 h3
    refine ⟨hl, hnc, hcm, .inr ⟨g, 0, rfl, ?_, fun j v hv => ?_⟩⟩
    · rcases Nat.lt_or_ge g w.heap.size with hlt | hge
      · exact hlt
      · rw [Array.getElem?_eq_none hge] at hg; cases hg
    · have add : ∀ j : Nat, (⟨g, 0, none⟩ : Addr).add j = ⟨g, 0 + j, none⟩ := fun j => by by_cases hj : j = 0 <;> simp [Addr.add, hj]
      obtain ⟨a, b, c, d⟩ := cells4_at hv
      have h1 := h.cells (g := g) rfl (j * 4) _ a
      have h2 := h.cells (g := g) rfl (j * 4 + 1) _ b
      have h3 := h.cells (g := g) rfl (j * 4 + 2) _ c
      have h4 := h.cells (g := g) rfl (j * 4 + 3) _ d
      rw [add] at h1 h2 h3 h4
      exact ⟨h1, h2, h3, h4⟩

theorem append_tok {w : World} {base n c ty : Nat} {A : Option Addr} {xs : List Tk} (h : w.ownsRow base 139 4 (.slice A n c) n (cells4 xs)) (t : Tk) (hn : n ≤ 1000000) (hbase : base ≤ w.heap.size) :
    ∃ A' c' w', (Builtin.append_ #[113, 113] ty #[.slice A n c, .slice (some ⟨w.heap.size, 0, none⟩) 1 1]).run Tryz.prog (w.alloc (.cells #[.int .i64 t.k, .int .i64 t.p, .int .i64 t.n, .string t.s] 139)) = .ok (.slice A' (n + 1) c') w' ∧
      w'.ownsRow base 139 4 (.slice A' (n + 1) c') (n + 1) (cells4 (xs ++ [t])) ∧ Below base w w' := by
  obtain ⟨i, hi, hz, hs, hb⟩ := tok_parts
  have add : ∀ j : Nat, (⟨w.heap.size, 0, none⟩ : Addr).add j = ⟨w.heap.size, 0 + j, none⟩ := fun j => by by_cases hj : j = 0 <;> simp [Addr.add, hj]
  obtain ⟨v', w', hrun, h2, h3, h4⟩ := run_append_own (P := Tryz.prog) (w.alloc (.cells #[.int .i64 t.k, .int .i64 t.p, .int .i64 t.n, .string t.s] 139)) base 113 ty 139 i _ 4 40 Tryz.underlying113 hi hz hs hb rfl (by omega) (.slice A n c) n (cells4 xs) (h.alloc _)
    ⟨w.heap.size, 0, none⟩ 1 1 (cells4 [t]) (by rw [cells4_len]; rfl) (by
      intro j u hu
      rw [add, Nat.zero_add, (Ob.made w 139 #[.int .i64 t.k, .int .i64 t.p, .int .i64 t.n, .string t.s]).cell j]
      simpa [cells4] using hu) cells4_one (by unfold maxLen; omega) (by omega) (by rw [size_al]; omega)
  have hform : ∃ A' c', v' = .slice A' (n + 1) c' := by
    rcases h2.2 with ⟨hv, hz⟩ | ⟨g, cap, cur, hv, _⟩
    · omega
    · exact ⟨_, _, hv⟩
  obtain ⟨A', c', rfl⟩ := hform
  refine ⟨A', c', w', hrun, by rw [cells4_app]; exact h2, ?_⟩
  refine ((Below.refl base w).alloc hbase _).grown h3 (by rw [size_al]; omega) (fun k hk => ?_)
  exact (h.lt k hk).1
theorem own_tok {w w' : World} {base size n : Nat} {e : TypeId} {v : Value} {xs : List Value} (h : w.ownsRow base e size v n xs) (hb : Below w.heap.size w w') : w'.ownsRow base e size v n xs :=
  h.kept (row := none) ⟨hb.os, hb.tape, hb.output, hb.size, fun k hk _ => hb.block k hk⟩ (by by_cases hv : v.ownBlock = none; exact .inl hv; exact .inr hv)
theorem own_only {w w' : World} {base size n r : Nat} {e : TypeId} {v : Value} {xs : List Value} (h : w.ownsRow base e size v n xs) (hb : Only r w w') (hr : r < base) : w'.ownsRow base e size v n xs :=
  h.kept (row := some r) hb (.inr fun hh => by have := (h.lt r hh).1; omega)
end Go.Proofs.YtadjfkgnoklmiaaGreat
/- A scope in which the run jumps to labels: what holds at each label's jump, and a measure that every pass lowers. -/
namespace Go.Proofs.YtadjfkgnoklmiaaGreat
set_option linter.unusedVariables false

def exitsTo (J : Nat → Act → World → Prop) (Q : Exit → Act → World → Prop) : Exit → Act → World → Prop
  | .goto l, a, w => J l a w
  | e, a, w => Q e a w

section
variable {P : Program} {a : Act} {w : World} {J J' : Nat → Act → World → Prop} {Q : Exit → Act → World → Prop}
theorem exitsTo_ret : exitsTo J Q .ret a w = Q .ret a w := rfl
theorem wp_scope_labels {c : Code} (J : Nat → Act → World → Prop) (μ : Nat → Act → World → Nat) (hf : ∀ l a w, J l a w → ∃ R, findLabel c l = some R ∧ R.wp P (exitsTo (fun l' a' w' => J l' a' w' ∧ μ l' a' w' < μ l a w) Q) a w)
    (first : c.wp P (exitsTo J Q) a w) : (Code.scope c).wp P Q a w := by
  intro b k cs
  have key : ∀ n l a w, μ l a w = n → J l a w → ∃ R, findLabel c l = some R ∧ ∃ e a' w', Q e a' w' ∧ Arrives P (lone (b.at a (.code R :: .inScope c :: k)) cs w) b k cs e a' w' := by
    intro n
    induction n using Nat.strongRecOn with
    | _ n ih =>
      intro l a w hn hJ
      obtain ⟨R, hR, pass⟩ := hf l a w hJ
      obtain ⟨e, a₁, w₁, hq, harr⟩ := pass b (.inScope c :: k) cs
      refine ⟨R, hR, ?_⟩
      cases e with
      | normal => exact ⟨.normal, a₁, w₁, hq, Steps.trans harr (.one step_inScope)⟩
      | exit id => exact ⟨.exit id, a₁, w₁, hq, fun k' hk => harr k' (by simp [exitTo, hk])⟩
      | goto l' =>
        obtain ⟨hJ', hlt⟩ := hq
        obtain ⟨R', hR', e₂, a₂, w₂, hq₂, harr₂⟩ := ih _ (by omega) l' a₁ w₁ rfl hJ'
        have hg : gotoIn l' (.inScope c :: k) = some (.code R' :: .inScope c :: k) := by simp [gotoIn, hR']
        exact ⟨e₂, a₂, w₂, hq₂, .of_steps (harr _ hg) harr₂⟩
      | ret => exact ⟨_, a₁, w₁, hq, harr⟩
      | panic ch => exact ⟨_, a₁, w₁, hq, harr⟩
      | outgrown => exact ⟨_, a₁, w₁, hq, harr⟩
  obtain ⟨e, a₁, w₁, hq, harr⟩ := first b (.inScope c :: k) cs
  cases e with
  | normal => exact ⟨.normal, a₁, w₁, hq, .head step_scope (Steps.trans harr (.one step_inScope))⟩
  | exit id => exact ⟨.exit id, a₁, w₁, hq, fun k' hk => .head step_scope (harr k' (by simp [exitTo, hk]))⟩
  | goto l' =>
    obtain ⟨R', hR', e₂, a₂, w₂, hq₂, harr₂⟩ := key _ l' a₁ w₁ rfl hq
    have hg : gotoIn l' (.inScope c :: k) = some (.code R' :: .inScope c :: k) := by simp [gotoIn, hR']
    exact ⟨e₂, a₂, w₂, hq₂, .of_steps (.head step_scope (harr _ hg)) harr₂⟩
  | ret => exact ⟨_, a₁, w₁, hq, .of_steps (.one step_scope) harr⟩
  | panic ch => exact ⟨_, a₁, w₁, hq, .of_steps (.one step_scope) harr⟩
  | outgrown => exact ⟨_, a₁, w₁, hq, .of_steps (.one step_scope) harr⟩
end
end Go.Proofs.YtadjfkgnoklmiaaGreat
/- lex.All: its frame, and what holds at each of its labels. -/
namespace Go.Proofs.YtadjfkgnoklmiaaGreat
set_option linter.unusedVariables false
open Go.RowKit

def Fr (a : Act) (s : ByteArray) (g : Nat) (vl va ve vo vc : Value) : Prop := ∃ u : Nat → Value, a = { tmps := #[.string s, u 1, u 2, u 3, u 4, vl, .pointer (some ⟨g, 0, none⟩), va, ve, vo, vc, u 11, u 12, u 13, u 14, u 15, u 16, u 17, u 18, u 19, u 20, u 21, u 22, u 23, u 24, u 25, u 26, u 27, u 28, u 29, u 30, u 31, u 32, u 33, u 34, u 35, u 36, u 37, u 38, u 39, u 40, u 41, u 42, u 43, u 44, u 45, u 46, u 47, u 48, u 49, u 50, u 51, u 52, u 53, u 54, u 55, u 56, u 57, u 58, u 59, u 60, u 61, u 62, u 63, u 64, u 65, u 66, u 67, u 68, u 69, u 70, u 71, u 72, u 73, u 74, u 75, u 76, u 77, u 78, u 79, u 80, u 81, u 82, u 83, u 84, u 85, u 86, u 87, u 88, u 89, u 90, u 91, u 92, u 93, u 94, u 95, u 96, u 97, u 98, u 99, u 100, u 101, u 102, u 103, u 104, u 105, u 106, u 107, u 108, u 109, u 110, u 111, u 112, u 113, u 114, u 115, u 116, u 117, u 118, u 119, u 120, u 121, u 122, u 123, u 124, u 125, u 126, u 127, u 128, u 129, u 130, u 131, u 132, u 133, u 134, u 135], defers := [] }
set_option maxRecDepth 100000 in
theorem Fr_mk {s : ByteArray} {g : Nat} {vl va ve vo vc x1 x2 x3 x4 x11 x12 x13 x14 x15 x16 x17 x18 x19 x20 x21 x22 x23 x24 x25 x26 x27 x28 x29 x30 x31 x32 x33 x34 x35 x36 x37 x38 x39 x40 x41 x42 x43 x44 x45 x46 x47 x48 x49 x50 x51 x52 x53 x54 x55 x56 x57 x58 x59 x60 x61 x62 x63 x64 x65 x66 x67 x68 x69 x70 x71 x72 x73 x74 x75 x76 x77 x78 x79 x80 x81 x82 x83 x84 x85 x86 x87 x88 x89 x90 x91 x92 x93 x94 x95 x96 x97 x98 x99 x100 x101 x102 x103 x104 x105 x106 x107 x108 x109 x110 x111 x112 x113 x114 x115 x116 x117 x118 x119 x120 x121 x122 x123 x124 x125 x126 x127 x128 x129 x130 x131 x132 x133 x134 x135 : Value} : Fr { tmps := #[.string s, x1, x2, x3, x4, vl, .pointer (some ⟨g, 0, none⟩), va, ve, vo, vc, x11, x12, x13, x14, x15, x16, x17, x18, x19, x20, x21, x22, x23, x24, x25, x26, x27, x28, x29, x30, x31, x32, x33, x34, x35, x36, x37, x38, x39, x40, x41, x42, x43, x44, x45, x46, x47, x48, x49, x50, x51, x52, x53, x54, x55, x56, x57, x58, x59, x60, x61, x62, x63, x64, x65, x66, x67, x68, x69, x70, x71, x72, x73, x74, x75, x76, x77, x78, x79, x80, x81, x82, x83, x84, x85, x86, x87, x88, x89, x90, x91, x92, x93, x94, x95, x96, x97, x98, x99, x100, x101, x102, x103, x104, x105, x106, x107, x108, x109, x110, x111, x112, x113, x114, x115, x116, x117, x118, x119, x120, x121, x122, x123, x124, x125, x126, x127, x128, x129, x130, x131, x132, x133, x134, x135], defers := [] } s g vl va ve vo vc := ⟨fun i => (#[undef, x1, x2, x3, x4, undef, undef, undef, undef, undef, undef, x11, x12, x13, x14, x15, x16, x17, x18, x19, x20, x21, x22, x23, x24, x25, x26, x27, x28, x29, x30, x31, x32, x33, x34, x35, x36, x37, x38, x39, x40, x41, x42, x43, x44, x45, x46, x47, x48, x49, x50, x51, x52, x53, x54, x55, x56, x57, x58, x59, x60, x61, x62, x63, x64, x65, x66, x67, x68, x69, x70, x71, x72, x73, x74, x75, x76, x77, x78, x79, x80, x81, x82, x83, x84, x85, x86, x87, x88, x89, x90, x91, x92, x93, x94, x95, x96, x97, x98, x99, x100, x101, x102, x103, x104, x105, x106, x107, x108, x109, x110, x111, x112, x113, x114, x115, x116, x117, x118, x119, x120, x121, x122, x123, x124, x125, x126, x127, x128, x129, x130, x131, x132, x133, x134, x135] : Array Value).getD i undef, rfl⟩
theorem Fr.at7 {a : Act} {s : ByteArray} {g : Nat} {vl va ve vo vc : Value} (h : Fr a s g vl va ve vo vc) : a.tmps.getD 7 undef = va := by
  obtain ⟨u, rfl⟩ := h
  rfl

def ABase (s : ByteArray) (W : World) (ts : List Tk) (A : Option Addr) (m c k : Nat) (wr : World) : Prop :=
  wr.ownsRow (W.heap.size + 1) 139 4 (.slice A m c) m (cells4 ts) ∧ Below W.heap.size W wr ∧ W.heap.size + 1 ≤ wr.heap.size ∧ ts.length ≤ k ∧ k ≤ s.size ∧ lexB s.data.toList 0 = cat ts (lexB (s.data.toList.drop k) k)
def goesTo (c : UInt8) : Nat := if lett c = true then 1 else if dgt c = true ∨ c = 45 then 2 else if c = 64 then 3 else if c = 35 then 4 else if c = 34 then 5 else 6
def JTok (s : ByteArray) (W : World) (lab : Nat) (a : Act) (wr : World) : Prop :=
  ∃ (ts : List Tk) (A : Option Addr) (m c k : Nat) (b : UInt8) (ve vo : Value), Fr a s W.heap.size (.slice A m c) (.int .i64 (k : Int)) ve vo (.int .u8 (b.toNat : Int)) ∧ ABase s W ts A m c k wr ∧ k < s.size ∧ s.data.toList[k]? = some b ∧ blk b = false ∧ goesTo b = lab ∧ Tb wr W.heap.size 0 (k : Int) 0 ⟨#[]⟩
def JBlank (s : ByteArray) (W : World) (a : Act) (wr : World) : Prop :=
  ∃ (ts : List Tk) (A : Option Addr) (m c k : Nat) (ve vo vc : Value) (kk pp nn : Int) (ss : ByteArray), Fr a s W.heap.size (.slice A m c) (.int .i64 (k : Int)) ve vo vc ∧ ABase s W ts A m c k wr ∧ Tb wr W.heap.size kk pp nn ss
def BackT (x : Option (Int × Int × List UInt8 × Nat)) (k : Nat) (ok : Bool) (kk nn : Int) (ss : ByteArray) (e : Int) : Prop :=
  ok = x.isSome ∧ ∀ k' n' st j, x = some (k', n', st, j) → kk = k' ∧ (k : Int) = (k : Int) ∧ nn = n' ∧ ss = ⟨st.toArray⟩ ∧ e = ((k + j : Nat) : Int)
def JBack (s : ByteArray) (W : World) (a : Act) (wr : World) : Prop :=
  ∃ (ts : List Tk) (A : Option Addr) (m c k : Nat) (b : UInt8) (e : Int) (ok : Bool) (vc : Value) (kk nn : Int) (ss : ByteArray), Fr a s W.heap.size (.slice A m c) (.int .i64 (k : Int)) (.int .i64 e) (.bool ok) vc ∧ ABase s W ts A m c k wr ∧ k < s.size ∧ s.data.toList[k]? = some b ∧ blk b = false ∧ Tb wr W.heap.size kk (k : Int) nn ss ∧ BackT (tokB (s.data.toList.drop k)) k ok kk nn ss e
def JAll (s : ByteArray) (W : World) (lab : Nat) (a : Act) (wr : World) : Prop :=
  if lab = 0 then JBlank s W a wr else if lab = 7 then JBack s W a wr else JTok s W lab a wr
def muAll (s : ByteArray) (lab : Nat) (a : Act) (_ : World) : Nat := 3 * (s.size - (intOf (a.tmps.getD 7 undef)).toNat) + if lab = 0 then 2 else if lab = 7 then 0 else 1
theorem mu_eq {s : ByteArray} {lab k : Nat} {a : Act} {w : World} {g : Nat} {vl ve vo vc : Value} (h : Fr a s g vl (.int .i64 (k : Int)) ve vo vc) : muAll s lab a w = 3 * (s.size - k) + if lab = 0 then 2 else if lab = 7 then 0 else 1 := by
  unfold muAll
  rw [h.at7]
  simp [intOf]
def AllP (W : World) (x : Except Nat (List Tk)) (e : Ending) (w' : World) : Prop :=
  match x with
  | .ok ts => ∃ A n c, e = .returned (.tuple #[.slice A n c, .int .i64 0, .int .i64 0]) ∧ w'.ownsRow (W.heap.size + 1) 139 4 (.slice A n c) n (cells4 ts) ∧ Below W.heap.size W w'
  | .error i => e = .returned (.tuple #[.slice none 0 0, .int .i64 5, .int .i64 (i : Int)]) ∧ Below W.heap.size W w'
def allQ (s : ByteArray) (W : World) : Exit → Act → World → Prop := bodyPost Tryz.prog Tryz.f45 fun e w' => AllP W (lexB s.data.toList 0) e w'

theorem drop_at' {l : List UInt8} {k : Nat} {c : UInt8} (h : l[k]? = some c) : l.drop k = c :: l.drop (k + 1) := drop_at h
theorem ba_of {s : ByteArray} {l : List UInt8} (h : s.data.toList = l) : s = ⟨l.toArray⟩ := by
  subst h
  simp
theorem size_set (w : World) (p : Addr) (v : Value) : (w.setCell p v).heap.size = w.heap.size := by simp [World.setCell]
section
variable {s : ByteArray} {W wr w2 : World} {ts : List Tk} {A : Option Addr} {m c k : Nat}
theorem ABase.then_ (h : ABase s W ts A m c k wr) (hb : Below wr.heap.size wr w2) : ABase s W ts A m c k w2 := by
  obtain ⟨h1, h2, h3, h4, h5, h6⟩ := h
  exact ⟨own_tok h1 hb, h2.trans (hb.mono (by omega)), by have := hb.size; omega, h4, h5, h6⟩
theorem ABase.set (h : ABase s W ts A m c k wr) (i : Nat) (v : Value) : ABase s W ts A m c k (wr.setCell ⟨W.heap.size, i, none⟩ v) := by
  obtain ⟨h1, h2, h3, h4, h5, h6⟩ := h
  exact ⟨own_only h1 (Only.refl.setCell (p := ⟨W.heap.size, i, none⟩) rfl v) (Nat.lt_succ_self _), h2.setCell (p := ⟨W.heap.size, i, none⟩) (Nat.le_refl _) v, by rw [size_set]; omega, h4, h5, h6⟩
end
theorem JAll7 {s : ByteArray} {W : World} {a : Act} {wr : World} (h : JBack s W a wr) : JAll s W 7 a wr := by unfold JAll; rw [if_neg (by omega), if_pos rfl]; exact h
theorem JAll0 {s : ByteArray} {W : World} {a : Act} {wr : World} (h : JBlank s W a wr) : JAll s W 0 a wr := by unfold JAll; rw [if_pos rfl]; exact h
theorem JAllT {s : ByteArray} {W : World} {a : Act} {wr : World} {lab : Nat} (h0 : lab ≠ 0) (h7 : lab ≠ 7) (h : JTok s W lab a wr) : JAll s W lab a wr := by unfold JAll; rw [if_neg h0, if_neg h7]; exact h
theorem back_none {k : Nat} {kk nn : Int} {ss : ByteArray} {e : Int} : BackT none k false kk nn ss e := ⟨rfl, fun _ _ _ _ h => by cases h⟩
theorem back_some {k j : Nat} {kk nn : Int} {ss : ByteArray} {e : Int} {st : List UInt8} (h1 : ss = ⟨st.toArray⟩) (h2 : e = ((k + j : Nat) : Int)) : BackT (some (kk, nn, st, j)) k true kk nn ss e :=
  ⟨rfl, fun k' n' st' j' h => by
    simp only [Option.some.injEq, Prod.mk.injEq] at h
    obtain ⟨rfl, rfl, rfl, rfl⟩ := h
    exact ⟨rfl, rfl, rfl, h1, h2⟩⟩
theorem tw_take (p : UInt8 → Bool) (l : List UInt8) : l.take (l.takeWhile p).length = l.takeWhile p := by
  induction l with
  | nil => rfl
  | cons c r ih =>
    cases h : p c with
    | true => rw [List.takeWhile_cons, if_pos h, List.length_cons, List.take_succ_cons, ih]
    | false => rw [List.takeWhile_cons, if_neg (by rw [h]; simp)]; rfl
theorem tw_all (p : UInt8 → Bool) (l : List UInt8) : ∀ c ∈ l.takeWhile p, p c = true := by
  induction l with
  | nil => intro c h; cases h
  | cons d r ih =>
    intro c h
    cases hd : p d with
    | true =>
      rw [List.takeWhile_cons, if_pos hd] at h
      rcases List.mem_cons.1 h with rfl | h
      · exact hd
      · exact ih c h
    | false => rw [List.takeWhile_cons, if_neg (by rw [hd]; simp)] at h; cases h
theorem ext_tw (s : ByteArray) (p : UInt8 → Bool) (a : Nat) : (s.extract a (a + ((s.data.toList.drop a).takeWhile p).length)).data.toList = (s.data.toList.drop a).takeWhile p := by
  rw [ext_mid, Nat.add_sub_cancel_left, tw_take]
theorem tw_le (s : ByteArray) (p : UInt8 → Bool) (a : Nat) (ha : a ≤ s.size) : a + ((s.data.toList.drop a).takeWhile p).length ≤ s.size := by
  have := tk_len p (s.data.toList.drop a)
  rw [List.length_drop, data_len] at this
  omega
theorem ext_tw1 (s : ByteArray) (p : UInt8 → Bool) (k : Nat) {b : UInt8} (hb : s.data.toList[k]? = some b) : (s.extract k (k + 1 + ((s.data.toList.drop (k + 1)).takeWhile p).length)).data.toList = b :: (s.data.toList.drop (k + 1)).takeWhile p := by
  rw [ext_mid, drop_at' hb, show k + 1 + ((s.data.toList.drop (k + 1)).takeWhile p).length - k = ((s.data.toList.drop (k + 1)).takeWhile p).length + 1 by omega, List.take_succ_cons, tw_take]
theorem goes1 {b : UInt8} (h : goesTo b = 1) : lett b = true := by
  unfold goesTo at h
  split at h
  · assumption
  · split at h <;> (try split at h) <;> (try split at h) <;> (try split at h) <;> omega
theorem goes2 {b : UInt8} (h : goesTo b = 2) : lett b = false ∧ (dgt b = true ∨ b = 45) := by
  unfold goesTo at h
  split at h
  · omega
  · rename_i h1
    split at h
    · rename_i h2; exact ⟨by simpa using h1, h2⟩
    · split at h <;> (try split at h) <;> (try split at h) <;> omega
theorem goes3 {b : UInt8} (h : goesTo b = 3) : b = 64 := by
  unfold goesTo at h
  split at h
  · omega
  · split at h
    · omega
    · split at h
      · assumption
      · split at h <;> (try split at h) <;> omega
theorem goes4 {b : UInt8} (h : goesTo b = 4) : b = 35 := by
  unfold goesTo at h
  split at h
  · omega
  · split at h
    · omega
    · split at h
      · omega
      · split at h
        · assumption
        · split at h <;> omega
theorem goes5 {b : UInt8} (h : goesTo b = 5) : b = 34 := by
  unfold goesTo at h
  split at h
  · omega
  · split at h
    · omega
    · split at h
      · omega
      · split at h
        · omega
        · split at h
          · assumption
          · omega
theorem goes6 {b : UInt8} (h : goesTo b = 6) : lett b = false ∧ dgt b = false ∧ b ≠ 45 ∧ b ≠ 64 ∧ b ≠ 35 ∧ b ≠ 34 := by
  unfold goesTo at h
  split at h
  · omega
  · rename_i h1
    split at h
    · omega
    · rename_i h2
      split at h
      · omega
      · split at h
        · omega
        · split at h
          · omega
          · rename_i h3 h4 h5
            simp at h1 h2
            exact ⟨h1, h2.1, h2.2, h3, h4, h5⟩
noncomputable def allCode : Code := match Tryz.f45.body with | some (.seq _ (.scope c)) => c | _ => .skip
end Go.Proofs.YtadjfkgnoklmiaaGreat
/- lex.All: from label to label. -/
namespace Go.Proofs.YtadjfkgnoklmiaaGreat
set_option linter.unusedVariables false
open Go.RowKit

noncomputable def backCode : Code := match findLabel allCode 7 with | some (.seq _ c) => c | _ => .skip
theorem cat_bad {l : List UInt8} {ts : List Tk} {k : Nat} {b : UInt8} {r : List UInt8} (h : l = b :: r) (hb : blk b = false) (ht : tokB l = none) : cat ts (lexB l k) = .error k := by
  rw [h, lexB_bad hb (by rw [← h]; exact ht)]
  rfl
theorem cat_tok {l : List UInt8} {ts : List Tk} {k : Nat} {b : UInt8} {r : List UInt8} {k' n' : Int} {st : List UInt8} {j : Nat} (h : l = b :: r) (hb : blk b = false) (ht : tokB l = some (k', n', st, j)) : cat ts (lexB l k) = cat (ts ++ [⟨k', k, n', ⟨st.toArray⟩⟩]) (lexB (l.drop j) (k + j)) := by
  subst h
  rw [lexB_tok hb ht, cat_cat]
set_option maxRecDepth 100000 in
set_option maxHeartbeats 1600000 in
theorem backPass' (s : ByteArray) (W : World) (hs : s.size ≤ 4096) (a : Act) (wr : World) (hJ : JBack s W a wr) : ∃ R, findLabel allCode 7 = some (.seq .skip R) ∧ R.wp Tryz.prog (exitsTo (fun l' a' w' => JAll s W l' a' w' ∧ muAll s l' a' w' < muAll s 7 a wr) (allQ s W)) a wr := by
  obtain ⟨ts, A, m, c, k, b, e, ok, vc, kk, nn, ss, hf, hb, hk, hkb, hbl, ht, hbk⟩ := hJ
  rw [mu_eq hf]
  obtain ⟨u, rfl⟩ := hf
  have hd := drop_at' hkb
  cases ho : tokB (s.data.toList.drop k) with
  | none =>
    rw [ho] at hbk
    obtain rfl : ok = false := hbk.1
    have HV : Hid (lexB s.data.toList 0 = .error k) := by
      show _ = _
      rw [hb.2.2.2.2.2]
      exact cat_bad hd hbl ho
    have HBEL := Lib.hid hb.2.1
    clear hb hkb hbl ht hbk hd ho
    refine ⟨_, rfl, ?_⟩
    go_wp2_with fail
    rw [exitsTo_ret]
    unfold allQ
    go_ret3
    rw [HV.out]
    exact ⟨rfl, HBEL.out⟩
  | some q =>
    obtain ⟨k', n', st, j⟩ := q
    rw [ho] at hbk
    obtain rfl : ok = true := hbk.1
    obtain ⟨rfl, _, rfl, rfl, rfl⟩ := hbk.2 _ _ _ _ rfl
    have hj := tokB_pos ho
    have hj2 : j ≤ s.size - k := by have := hj.2.1; rwa [List.length_drop, data_len] at this
    have HV : Hid (lexB s.data.toList 0 = cat (ts ++ [⟨kk, k, nn, ⟨st.toArray⟩⟩]) (lexB (s.data.toList.drop (k + j)) (k + j))) := by
      show _ = _
      rw [hb.2.2.2.2.2, cat_tok hd hbl ho, List.drop_drop]
    have hm : ts.length = m := by have := hb.1.1; rw [cells4_len] at this; omega
    have htl := hb.2.2.2.1
    have hap := append_tok (ty := 113) hb.1 ⟨kk, k, nn, ⟨st.toArray⟩⟩ (by omega) hb.2.2.1
    obtain ⟨A2, c2, w2, hap, hown2, hbel2⟩ := hap
    have HAP := Lib.hid hap
    have HB3 : Hid (ABase s W (ts ++ [⟨kk, k, nn, ⟨st.toArray⟩⟩]) A2 (m + 1) c2 (k + j) w2) := by
      exact ⟨hown2, hb.2.1.trans (hbel2.mono (by omega)), by have := hbel2.size; have := hb.2.2.1; omega, by rw [List.length_append]; simp; omega, by omega, HV.out⟩
    have T3 := Lib.hid (ht.below hbel2 (Nat.lt_succ_self _))
    have c1 := ht.c4
    have hj1 := hj.1
    clear hb hkb hbl hd ho hbk hap hown2 hbel2 hj ht
    generalize (⟨st.toArray⟩ : ByteArray) = x at *
    refine ⟨_, rfl, ?_⟩
    go_wp2_with (at_builtin; refine wpList_append_run rfl _ _ _ _ rfl rfl rfl HAP.out ?_)
    go_step3
    rw [show (k : Int) + (j : Int) = ((k + j : Nat) : Int) by omega]
    refine ⟨JAll0 ⟨_, A2, m + 1, c2, k + j, _, _, _, _, _, _, _, Fr_mk, HB3.out, T3.out⟩, ?_⟩
    rw [mu_eq Fr_mk]
    simp
    omega
theorem backPass (s : ByteArray) (W : World) (hs : s.size ≤ 4096) (a : Act) (wr : World) (hJ : JBack s W a wr) : backCode.wp Tryz.prog (exitsTo (fun l' a' w' => JAll s W l' a' w' ∧ muAll s l' a' w' < muAll s 7 a wr) (allQ s W)) a wr := by
  obtain ⟨R, h, hw⟩ := backPass' s W hs a wr hJ
  unfold backCode
  rw [h]
  exact hw
theorem pass7 (s : ByteArray) (W : World) (hs : s.size ≤ 4096) (a : Act) (wr : World) (hJ : JBack s W a wr) : ∃ R, findLabel allCode 7 = some R ∧ R.wp Tryz.prog (exitsTo (fun l' a' w' => JAll s W l' a' w' ∧ muAll s l' a' w' < muAll s 7 a wr) (allQ s W)) a wr := by
  refine ⟨.seq .skip backCode, rfl, ?_⟩
  have h := Lib.hid (backPass s W hs a wr hJ)
  clear hJ
  go_wp2_with fail
  exact h.out
end Go.Proofs.YtadjfkgnoklmiaaGreat
/- lex.All: from label to label. -/
namespace Go.Proofs.YtadjfkgnoklmiaaGreat
set_option linter.unusedVariables false
open Go.RowKit

noncomputable def blankCode : Code := match findLabel allCode 0 with | some (.seq _ c) => c | _ => .skip
theorem ABase.skip {s : ByteArray} {W wr : World} {ts : List Tk} {A : Option Addr} {m c k : Nat} (h : ABase s W ts A m c k wr) : ABase s W ts A m c (k + ((s.data.toList.drop k).takeWhile blk).length) wr := by
  obtain ⟨h1, h2, h3, h4, h5, h6⟩ := h
  exact ⟨h1, h2, h3, by omega, tw_le s blk k h5, by rw [h6, lexB_skip, List.drop_drop]⟩
theorem skip_not (s : ByteArray) (k : Nat) {b : UInt8} (h : s.data.toList[k + ((s.data.toList.drop k).takeWhile blk).length]? = some b) : blk b = false := by
  have hd := drop_at' h
  rw [← List.drop_drop] at hd
  exact drop_tw hd
theorem six_ways (b : UInt8) : (lett b = true ∧ goesTo b = 1) ∨ (lett b = false ∧ dgt b = true ∧ goesTo b = 2) ∨ (lett b = false ∧ dgt b = false ∧ ((b.toNat : Int) == 45) = true ∧ goesTo b = 2) ∨
    (lett b = false ∧ dgt b = false ∧ ((b.toNat : Int) == 45) = false ∧ ((b.toNat : Int) == 64) = true ∧ goesTo b = 3) ∨ (lett b = false ∧ dgt b = false ∧ ((b.toNat : Int) == 45) = false ∧ ((b.toNat : Int) == 64) = false ∧ ((b.toNat : Int) == 35) = true ∧ goesTo b = 4) ∨
    (lett b = false ∧ dgt b = false ∧ ((b.toNat : Int) == 45) = false ∧ ((b.toNat : Int) == 64) = false ∧ ((b.toNat : Int) == 35) = false ∧ ((b.toNat : Int) == 34) = true ∧ goesTo b = 5) ∨
    (lett b = false ∧ dgt b = false ∧ ((b.toNat : Int) == 45) = false ∧ ((b.toNat : Int) == 64) = false ∧ ((b.toNat : Int) == 35) = false ∧ ((b.toNat : Int) == 34) = false ∧ goesTo b = 6) := by
  have e : ∀ q : UInt8, ((b.toNat : Int) == (q.toNat : Int)) = decide (b = q) := fun q => by
    rw [Bool.eq_iff_iff, beq_iff_eq, decide_eq_true_iff]
    exact ⟨fun h => UInt8.toNat_inj.1 (by omega), fun h => by rw [h]⟩
  have e1 : ((b.toNat : Int) == 45) = decide (b = 45) := e 45
  have e2 : ((b.toNat : Int) == 64) = decide (b = 64) := e 64
  have e3 : ((b.toNat : Int) == 35) = decide (b = 35) := e 35
  have e4 : ((b.toNat : Int) == 34) = decide (b = 34) := e 34
  rw [e1, e2, e3, e4]
  unfold goesTo
  cases lett b <;> cases dgt b <;> by_cases h1 : b = 45 <;> by_cases h2 : b = 64 <;> by_cases h3 : b = 35 <;> by_cases h4 : b = 34 <;> simp [h1, h2, h3, h4]
set_option maxRecDepth 100000 in
set_option maxHeartbeats 800000 in
theorem blankPass' (s : ByteArray) (W : World) (hs : s.size ≤ 4096) (a : Act) (wr : World) (hJ : JBlank s W a wr) : ∃ R, findLabel allCode 0 = some (.seq .skip R) ∧ R.wp Tryz.prog (exitsTo (fun l' a' w' => JAll s W l' a' w' ∧ muAll s l' a' w' < muAll s 0 a wr) (allQ s W)) a wr := by
  obtain ⟨ts, A, m, c, k, ve, vo, vc, kk, pp, nn, ss, hf, hb, ht⟩ := hJ
  rw [mu_eq hf]
  obtain ⟨u, rfl⟩ := hf
  have hpa := past_blank s (by unfold maxLen; omega) k hb.2.2.2.2.1 wr
  have hb2 := hb.skip
  have hsk := fun b => skip_not s k (b := b)
  have hle := tw_le s blk k hb.2.2.2.2.1
  have hge : k ≤ k + ((s.data.toList.drop k).takeWhile blk).length := by omega
  generalize k + ((s.data.toList.drop k).takeWhile blk).length = j at *
  have T1 := Lib.hid (ht.put 0 (j : Int) 0 ⟨#[]⟩)
  have HB1 := Lib.hid ((((hb2.set 0 (.int .i64 0)).set 1 (.int .i64 (j : Int))).set 2 (.int .i64 0)).set 3 (.string ⟨#[]⟩))
  obtain ⟨w1, hw1⟩ : ∃ w1, w1 = (((wr.setCell ⟨W.heap.size, 0, none⟩ (.int .i64 0)).setCell ⟨W.heap.size, 1, none⟩ (.int .i64 (j : Int))).setCell ⟨W.heap.size, 2, none⟩ (.int .i64 0)).setCell ⟨W.heap.size, 3, none⟩ (.string ⟨#[]⟩) := ⟨_, rfl⟩
  rw [← hw1] at T1 HB1
  have HW1 := Lib.hid hw1
  have HPA := Lib.hid hpa
  have HSK := Lib.hid hsk
  have c1 := ht.c4
  have f1 := ht.fz
  clear hb hpa hb2 hsk hw1
  refine ⟨_, rfl, ?_⟩
  go_wp2_with fail
  refine HPA.out.mono ?_
  rintro e' w' ⟨rfl, rfl⟩
  go_upto_region 8 with (fail)
  rw [← HW1.out]
  clear c1 f1 HW1 ht HPA
  have c2 := T1.out.c4
  have f2 := T1.out.fz
  by_cases hjs : j = s.size
  · subst hjs
    have hl : lexB s.data.toList 0 = .ok (ts ++ [⟨7, (s.size : Int), 0, ⟨#[]⟩⟩]) := by
      rw [HB1.out.2.2.2.2.2, List.drop_of_length_le (by rw [data_len]; exact Nat.le_refl _), lexB_nil]
      rfl
    have HV := Lib.hid hl
    have T3 := Lib.hid (T1.out.setK 7)
    have HB3 := Lib.hid (HB1.out.set 0 (.int .i64 7))
    have hm : ts.length = m := by have := HB1.out.1.1; rw [cells4_len] at this; omega
    have htl := HB1.out.2.2.2.1
    obtain ⟨A2, c2', w2, hap, hown2, hbel2⟩ := append_tok (ty := 113) HB3.out.1 ⟨7, (s.size : Int), 0, ⟨#[]⟩⟩ (by omega) HB3.out.2.2.1
    rw [size_set] at hap
    have HAP := Lib.hid hap
    have HO := Lib.hid hown2
    have HBE := Lib.hid (HB3.out.2.1.trans (hbel2.mono (by omega)))
    have c3 := T3.out.c4
    clear hl hap hown2 hbel2 hle hge hm
    go_wp2_with (at_builtin; refine wpList_append_run rfl _ _ _ _ rfl rfl rfl HAP.out ?_)
    rw [exitsTo_ret]
    unfold allQ
    go_ret3
    rw [HV.out]
    exact ⟨A2, m + 1, c2', rfl, HO.out, HBE.out⟩
  · have hlt : j < s.size := by omega
    have hjb : ((j : Int) == (s.size : Int)) = false := by rw [beq_eq_false_iff_ne]; omega
    have hji : 0 ≤ (j : Int) ∧ (j : Int) < s.size := by omega
    have hd := data_at hlt
    generalize hbb : s[j] = b at *
    have HD := Lib.hid hd
    have HBL := Lib.hid (HSK.out b hd)
    have HLT := letter_any b
    have HDG := digit_any b
    have HLT2 := Lib.hid HLT
    have HDG2 := Lib.hid HDG
    clear hd hjs HLT HDG
    rcases six_ways b with ⟨e1, hg⟩ | ⟨e1, e2, hg⟩ | ⟨e1, e2, e3, hg⟩ | ⟨e1, e2, e3, e4, hg⟩ | ⟨e1, e2, e3, e4, e5, hg⟩ | ⟨e1, e2, e3, e4, e5, e6, hg⟩ | ⟨e1, e2, e3, e4, e5, e6, hg⟩
    all_goals
      rw [e1] at HLT2
      try rw [e2] at HDG2
      have HG := Lib.hid hg
      clear hg e1
      try clear e2
      go_wp2_with (first | (go_at_call 65; refine (HLT2.out _).mono ?_; rintro e'' w'' ⟨rfl, rfl⟩) | (go_at_call 66; refine (HDG2.out _).mono ?_; rintro e'' w'' ⟨rfl, rfl⟩))
      go_step3
      refine ⟨JAllT (by omega) (by omega) ⟨ts, A, m, c, j, b, _, _, Fr_mk, (HB1.out : ABase s W ts A m c j _), hlt, HD.out, HBL.out, HG.out, T1.out⟩, ?_⟩
      rw [mu_eq Fr_mk]
      simp
      omega
end Go.Proofs.YtadjfkgnoklmiaaGreat
/- lex.All: from label to label. -/
namespace Go.Proofs.YtadjfkgnoklmiaaGreat
set_option linter.unusedVariables false
open Go.RowKit

set_option maxRecDepth 100000 in
set_option maxHeartbeats 1600000 in
theorem pass1 (s : ByteArray) (W : World) (hs : s.size ≤ 4096) (a : Act) (wr : World) (hJ : JTok s W 1 a wr) : ∃ R, findLabel allCode 1 = some R ∧ R.wp Tryz.prog (exitsTo (fun l' a' w' => JAll s W l' a' w' ∧ muAll s l' a' w' < muAll s 1 a wr) (allQ s W)) a wr := by
  refine ⟨_, rfl, ?_⟩
  obtain ⟨ts, A, m, c, k, b, ve, vo, hf, hb, hk, hkb, hbl, hg, ht⟩ := hJ
  rw [mu_eq hf]
  obtain ⟨u, rfl⟩ := hf
  have HB := Lib.hid hb
  have HKB := Lib.hid hkb
  have HBL := Lib.hid hbl
  have HD := Lib.hid (drop_at' hkb)
  have T1 := Lib.hid (ht.setK 1)
  have c1 := ht.c4
  have f1 := ht.fz
  have c2 := T1.out.c4
  have f2 := T1.out.fz
  have hpa := past_inName s (by unfold maxLen; omega) (k) (by omega) wr
  have hle := tw_le s inm (k) (by omega)
  have hex := ext_tw s inm (k)
  have hl1 := goes1 hg
  have HV : Hid (tokB (s.data.toList.drop k) = if Named ((s.data.toList.drop k).takeWhile inm) then some (1, 0, (s.data.toList.drop k).takeWhile inm, ((s.data.toList.drop k).takeWhile inm).length) else none) := by
    show _ = _
    rw [HD.out, tokB, if_pos hl1]
  generalize hnm : (s.data.toList.drop (k)).takeWhile inm = nm at *
  generalize he : k + nm.length = e at *
  have hnv := lname_any (s.extract (k) e) (wr.setCell ⟨W.heap.size, 0, none⟩ (.int .i64 1)) (by rw [ext_size _ hle]; omega)
  have HX : Hid (nameV (s.extract (k) e) = .tuple #[.string (if Named nm then ⟨nm.toArray⟩ else ⟨#[]⟩), .bool (decide (Named nm))]) := by
    show _ = _
    unfold nameV
    rw [hex]
    by_cases h : Named nm
    · rw [if_pos h, if_pos h, ba_of hex]
    · rw [if_neg h, if_neg h]
  rw [HX.out] at hnv
  have HBK : Hid (BackT (if Named nm then some (1, 0, nm, nm.length) else none) k (decide (Named nm)) 1 0 (if Named nm then ⟨nm.toArray⟩ else ⟨#[]⟩) (e : Int)) := by
    show BackT _ _ _ _ _ _ _
    by_cases h : Named nm
    · rw [if_pos h, if_pos h, decide_eq_true h]
      exact back_some rfl (by omega)
    · rw [if_neg h, if_neg h, decide_eq_false h]
      exact back_none
  generalize (if Named nm then (⟨nm.toArray⟩ : ByteArray) else ⟨#[]⟩) = x at *
  generalize decide (Named nm) = ok at *
  have HPA := Lib.hid hpa
  have HNV := Lib.hid hnv
  have HB1 := Lib.hid (HB.out.set 0 (.int .i64 1))
  have hki : k ≤ e := by omega
  have hki2 : ((k : Nat) : Int) ≤ (e : Int) := by omega
  have hki3 : (k : Int) + 1 ≤ (e : Int) + 1 := by omega
  have hki4 : ((k : Int) + 1).toNat = k + 1 := by omega
  have hki5 : (0 : Int) ≤ (k : Int) + 1 := by omega
  clear hpa hnv hb hkb hbl hg ht hex hnm he hl1
  go_wp2_with fail
  refine HPA.out.mono ?_
  rintro e' w' ⟨rfl, rfl⟩
  go_wp2_with fail
  refine HNV.out.mono ?_
  rintro e' w2 ⟨rfl, hb2⟩
  have T2 := Lib.hid (T1.out.then_ hb2)
  have T3 := Lib.hid (T2.out.setS x)
  have HB3 := Lib.hid ((HB1.out.then_ hb2).set 3 (.string x))
  have c3 := T2.out.c4
  have f3 := T2.out.fz
  clear hb2
  go_wp2_with fail
  go_step3
  refine ⟨JAll7 ⟨ts, A, m, c, k, b, _, _, _, _, _, _, Fr_mk, (HB3.out : ABase s W ts A m c k _), hk, HKB.out, HBL.out, T3.out, ?_⟩, ?_⟩
  · rw [HV.out]
    exact HBK.out
  · rw [mu_eq Fr_mk]
    simp

set_option maxRecDepth 100000 in
set_option maxHeartbeats 1600000 in
theorem pass4 (s : ByteArray) (W : World) (hs : s.size ≤ 4096) (a : Act) (wr : World) (hJ : JTok s W 4 a wr) : ∃ R, findLabel allCode 4 = some R ∧ R.wp Tryz.prog (exitsTo (fun l' a' w' => JAll s W l' a' w' ∧ muAll s l' a' w' < muAll s 4 a wr) (allQ s W)) a wr := by
  refine ⟨_, rfl, ?_⟩
  obtain ⟨ts, A, m, c, k, b, ve, vo, hf, hb, hk, hkb, hbl, hg, ht⟩ := hJ
  rw [mu_eq hf]
  obtain ⟨u, rfl⟩ := hf
  have HB := Lib.hid hb
  have HKB := Lib.hid hkb
  have HBL := Lib.hid hbl
  have HD := Lib.hid (drop_at' hkb)
  have T1 := Lib.hid (ht.setK 4)
  have c1 := ht.c4
  have f1 := ht.fz
  have c2 := T1.out.c4
  have f2 := T1.out.fz
  have hpa := past_inName s (by unfold maxLen; omega) (k + 1) (by omega) wr
  have hle := tw_le s inm (k + 1) (by omega)
  have hex := ext_tw s inm (k + 1)
  have hl1 := goes4 hg
  have HV : Hid (tokB (s.data.toList.drop k) = if Named ((s.data.toList.drop (k + 1)).takeWhile inm) then some (4, 0, (s.data.toList.drop (k + 1)).takeWhile inm, ((s.data.toList.drop (k + 1)).takeWhile inm).length + 1) else none) := by
    show _ = _
    rw [HD.out, hl1, tokB, if_neg (by decide), if_neg (by decide), if_neg (by decide), if_neg (by decide), if_pos rfl]
  generalize hnm : (s.data.toList.drop (k + 1)).takeWhile inm = nm at *
  generalize he : k + 1 + nm.length = e at *
  have hnv := lname_any (s.extract (k + 1) e) (wr.setCell ⟨W.heap.size, 0, none⟩ (.int .i64 4)) (by rw [ext_size _ hle]; omega)
  have HX : Hid (nameV (s.extract (k + 1) e) = .tuple #[.string (if Named nm then ⟨nm.toArray⟩ else ⟨#[]⟩), .bool (decide (Named nm))]) := by
    show _ = _
    unfold nameV
    rw [hex]
    by_cases h : Named nm
    · rw [if_pos h, if_pos h, ba_of hex]
    · rw [if_neg h, if_neg h]
  rw [HX.out] at hnv
  have HBK : Hid (BackT (if Named nm then some (4, 0, nm, nm.length + 1) else none) k (decide (Named nm)) 4 0 (if Named nm then ⟨nm.toArray⟩ else ⟨#[]⟩) (e : Int)) := by
    show BackT _ _ _ _ _ _ _
    by_cases h : Named nm
    · rw [if_pos h, if_pos h, decide_eq_true h]
      exact back_some rfl (by omega)
    · rw [if_neg h, if_neg h, decide_eq_false h]
      exact back_none
  generalize (if Named nm then (⟨nm.toArray⟩ : ByteArray) else ⟨#[]⟩) = x at *
  generalize decide (Named nm) = ok at *
  have HPA := Lib.hid hpa
  have HNV := Lib.hid hnv
  have HB1 := Lib.hid (HB.out.set 0 (.int .i64 4))
  have hki : k + 1 ≤ e := by omega
  have hki2 : ((k + 1 : Nat) : Int) ≤ (e : Int) := by omega
  have hki3 : (k : Int) + 1 ≤ (e : Int) + 1 := by omega
  have hki4 : ((k : Int) + 1).toNat = k + 1 := by omega
  have hki5 : (0 : Int) ≤ (k : Int) + 1 := by omega
  have hki6 : (k : Int) + 1 ≤ (e : Int) := by omega
  clear hpa hnv hb hkb hbl hg ht hex hnm he hl1
  go_wp2_with fail
  refine HPA.out.mono ?_
  rintro e' w' ⟨rfl, rfl⟩
  go_wp2_with fail
  refine HNV.out.mono ?_
  rintro e' w2 ⟨rfl, hb2⟩
  have T2 := Lib.hid (T1.out.then_ hb2)
  have T3 := Lib.hid (T2.out.setS x)
  have HB3 := Lib.hid ((HB1.out.then_ hb2).set 3 (.string x))
  have c3 := T2.out.c4
  have f3 := T2.out.fz
  clear hb2
  go_wp2_with fail
  go_step3
  refine ⟨JAll7 ⟨ts, A, m, c, k, b, _, _, _, _, _, _, Fr_mk, (HB3.out : ABase s W ts A m c k _), hk, HKB.out, HBL.out, T3.out, ?_⟩, ?_⟩
  · rw [HV.out]
    exact HBK.out
  · rw [mu_eq Fr_mk]
    simp
end Go.Proofs.YtadjfkgnoklmiaaGreat
/- lex.All: from label to label. -/
namespace Go.Proofs.YtadjfkgnoklmiaaGreat
set_option linter.unusedVariables false
open Go.RowKit

set_option maxRecDepth 100000 in
set_option maxHeartbeats 1600000 in
theorem pass2 (s : ByteArray) (W : World) (hs : s.size ≤ 4096) (a : Act) (wr : World) (hJ : JTok s W 2 a wr) : ∃ R, findLabel allCode 2 = some R ∧ R.wp Tryz.prog (exitsTo (fun l' a' w' => JAll s W l' a' w' ∧ muAll s l' a' w' < muAll s 2 a wr) (allQ s W)) a wr := by
  refine ⟨_, rfl, ?_⟩
  obtain ⟨ts, A, m, c, k, b, ve, vo, hf, hb, hk, hkb, hbl, hg, ht⟩ := hJ
  rw [mu_eq hf]
  obtain ⟨u, rfl⟩ := hf
  have HB := Lib.hid hb
  have HKB := Lib.hid hkb
  have HBL := Lib.hid hbl
  have HD := Lib.hid (drop_at' hkb)
  have T1 := Lib.hid (ht.setK 2)
  have c1 := ht.c4
  have f1 := ht.fz
  have c2 := T1.out.c4
  have f2 := T1.out.fz
  have hpa := past_digit s (by unfold maxLen; omega) (k + 1) (by omega) wr
  have hle := tw_le s dgt (k + 1) (by omega)
  have hex := ext_tw1 s dgt k hkb
  have hl1 := goes2 hg
  have HV : Hid (tokB (s.data.toList.drop k) = (numbA (b :: (s.data.toList.drop (k + 1)).takeWhile dgt)).map fun n => (2, n, [], ((s.data.toList.drop (k + 1)).takeWhile dgt).length + 1)) := by
    show _ = _
    rw [HD.out, tokB, if_neg (by rw [hl1.1]; simp), numbA]
    by_cases hd : dgt b = true
    · have h45 : b ≠ 45 := by rintro rfl; revert hd; decide
      rw [if_pos hd, if_neg h45, List.takeWhile_cons, if_pos hd, Option.map_map]
      rfl
    · obtain rfl : b = 45 := hl1.2.resolve_left hd
      rw [if_neg hd, if_pos rfl, if_pos rfl]
      cases decD 9223372036854775808 ((s.data.toList.drop (k + 1)).takeWhile dgt) with
      | none => rfl
      | some n =>
        simp only [Option.bind_some]
        by_cases hz : n = 0
        · rw [if_pos hz, if_pos hz]; rfl
        · rw [if_neg hz, if_neg hz]; rfl
  have hal := tw_all dgt (s.data.toList.drop (k + 1))
  generalize hnm : (s.data.toList.drop (k + 1)).takeWhile dgt = ds at *
  generalize he : k + 1 + ds.length = e at *
  have hnv := number_any (s.extract k e) (by rw [ext_size _ hle]; omega) hex hal (by rcases hl1.2 with h | h; exact .inr h; exact .inl h) (wr.setCell ⟨W.heap.size, 0, none⟩ (.int .i64 2))
  rw [hex] at hnv
  generalize numbA (b :: ds) = o at *
  have HX : Hid (nmV o = .tuple #[.int .i64 (o.getD 0), .bool o.isSome]) := rfl
  rw [HX.out] at hnv
  have HBK : Hid (BackT (o.map fun n => (2, n, [], ds.length + 1)) k o.isSome 2 (o.getD 0) ⟨#[]⟩ (e : Int)) := by
    show BackT _ _ _ _ _ _ _
    cases o with
    | none => exact back_none
    | some n => exact back_some rfl (by omega)
  generalize o.getD 0 = x at *
  generalize o.isSome = ok at *
  have HPA := Lib.hid hpa
  have HNV := Lib.hid hnv
  have HB1 := Lib.hid (HB.out.set 0 (.int .i64 2))
  have T3 := Lib.hid (T1.out.setN x)
  have HB3 := Lib.hid (HB1.out.set 2 (.int .i64 x))
  have hki : k ≤ e := by omega
  have hki2 : ((k : Nat) : Int) ≤ (e : Int) := by omega
  have hki3 : (k : Int) + 1 ≤ (e : Int) + 1 := by omega
  have hki4 : ((k : Int) + 1).toNat = k + 1 := by omega
  have hki5 : (0 : Int) ≤ (k : Int) + 1 := by omega
  have hki6 : (k : Int) + 1 ≤ (e : Int) := by omega
  clear hpa hnv hb hkb hbl hg ht hex hnm he hl1 hal
  go_wp2_with fail
  refine HPA.out.mono ?_
  rintro e' w' ⟨rfl, rfl⟩
  go_wp2_with fail
  refine HNV.out.mono ?_
  rintro e' w2 ⟨rfl, rfl⟩
  go_wp2_with fail
  go_step3
  refine ⟨JAll7 ⟨ts, A, m, c, k, b, _, _, _, _, _, _, Fr_mk, (HB3.out : ABase s W ts A m c k _), hk, HKB.out, HBL.out, T3.out, ?_⟩, ?_⟩
  · rw [HV.out]
    exact HBK.out
  · rw [mu_eq Fr_mk]
    simp

set_option maxRecDepth 100000 in
set_option maxHeartbeats 1600000 in
theorem pass3 (s : ByteArray) (W : World) (hs : s.size ≤ 4096) (a : Act) (wr : World) (hJ : JTok s W 3 a wr) : ∃ R, findLabel allCode 3 = some R ∧ R.wp Tryz.prog (exitsTo (fun l' a' w' => JAll s W l' a' w' ∧ muAll s l' a' w' < muAll s 3 a wr) (allQ s W)) a wr := by
  refine ⟨_, rfl, ?_⟩
  obtain ⟨ts, A, m, c, k, b, ve, vo, hf, hb, hk, hkb, hbl, hg, ht⟩ := hJ
  rw [mu_eq hf]
  obtain ⟨u, rfl⟩ := hf
  have HB := Lib.hid hb
  have HKB := Lib.hid hkb
  have HBL := Lib.hid hbl
  have HD := Lib.hid (drop_at' hkb)
  have T1 := Lib.hid (ht.setK 3)
  have c1 := ht.c4
  have f1 := ht.fz
  have c2 := T1.out.c4
  have f2 := T1.out.fz
  have hpa := past_digit s (by unfold maxLen; omega) (k + 1) (by omega) wr
  have hle := tw_le s dgt (k + 1) (by omega)
  have hex := ext_tw s dgt (k + 1)
  have hl1 := goes3 hg
  have HV : Hid (tokB (s.data.toList.drop k) = ((decD 1099511627776 ((s.data.toList.drop (k + 1)).takeWhile dgt)).map fun (n : Nat) => (n : Int)).map fun n => (3, n, [], ((s.data.toList.drop (k + 1)).takeWhile dgt).length + 1)) := by
    show _ = _
    rw [HD.out, hl1, tokB, if_neg (by decide), if_neg (by decide), if_neg (by decide), if_pos rfl, Option.map_map]
    rfl
  have hal := tw_all dgt (s.data.toList.drop (k + 1))
  generalize hnm : (s.data.toList.drop (k + 1)).takeWhile dgt = ds at *
  generalize he : k + 1 + ds.length = e at *
  have hnv := above_any (s.extract (k + 1) e) (by rw [ext_size _ hle]; omega) (by rw [hex]; exact hal) 1099511627776 (by omega) (by omega) (wr.setCell ⟨W.heap.size, 0, none⟩ (.int .i64 3))
  rw [hex] at hnv
  generalize (decD 1099511627776 ds).map (fun (n : Nat) => (n : Int)) = o at *
  have HX : Hid (nmV o = .tuple #[.int .i64 (o.getD 0), .bool o.isSome]) := rfl
  rw [HX.out] at hnv
  have HBK : Hid (BackT (o.map fun n => (3, n, [], ds.length + 1)) k o.isSome 3 (o.getD 0) ⟨#[]⟩ (e : Int)) := by
    show BackT _ _ _ _ _ _ _
    cases o with
    | none => exact back_none
    | some n => exact back_some rfl (by omega)
  generalize o.getD 0 = x at *
  generalize o.isSome = ok at *
  have HPA := Lib.hid hpa
  have HNV := Lib.hid hnv
  have HB1 := Lib.hid (HB.out.set 0 (.int .i64 3))
  have T3 := Lib.hid (T1.out.setN x)
  have HB3 := Lib.hid (HB1.out.set 2 (.int .i64 x))
  have hki : k ≤ e := by omega
  have hki2 : ((k : Nat) : Int) ≤ (e : Int) := by omega
  have hki3 : (k : Int) + 1 ≤ (e : Int) + 1 := by omega
  have hki4 : ((k : Int) + 1).toNat = k + 1 := by omega
  have hki5 : (0 : Int) ≤ (k : Int) + 1 := by omega
  have hki6 : (k : Int) + 1 ≤ (e : Int) := by omega
  clear hpa hnv hb hkb hbl hg ht hex hnm he hl1 hal
  go_wp2_with fail
  refine HPA.out.mono ?_
  rintro e' w' ⟨rfl, rfl⟩
  go_wp2_with fail
  refine HNV.out.mono ?_
  rintro e' w2 ⟨rfl, rfl⟩
  go_wp2_with fail
  go_step3
  refine ⟨JAll7 ⟨ts, A, m, c, k, b, _, _, _, _, _, _, Fr_mk, (HB3.out : ABase s W ts A m c k _), hk, HKB.out, HBL.out, T3.out, ?_⟩, ?_⟩
  · rw [HV.out]
    exact HBK.out
  · rw [mu_eq Fr_mk]
    simp
end Go.Proofs.YtadjfkgnoklmiaaGreat
/- lex.All: from label to label. -/
namespace Go.Proofs.YtadjfkgnoklmiaaGreat
set_option linter.unusedVariables false
open Go.RowKit

set_option maxRecDepth 100000 in
set_option maxHeartbeats 1600000 in
theorem pass5 (s : ByteArray) (W : World) (hs : s.size ≤ 4096) (a : Act) (wr : World) (hJ : JTok s W 5 a wr) : ∃ R, findLabel allCode 5 = some R ∧ R.wp Tryz.prog (exitsTo (fun l' a' w' => JAll s W l' a' w' ∧ muAll s l' a' w' < muAll s 5 a wr) (allQ s W)) a wr := by
  refine ⟨_, rfl, ?_⟩
  obtain ⟨ts, A, m, c, k, b, ve, vo, hf, hb, hk, hkb, hbl, hg, ht⟩ := hJ
  rw [mu_eq hf]
  obtain ⟨u, rfl⟩ := hf
  have HB := Lib.hid hb
  have HKB := Lib.hid hkb
  have HBL := Lib.hid hbl
  have HD := Lib.hid (drop_at' hkb)
  have T1 := Lib.hid (ht.setK 5)
  have c1 := ht.c4
  have f1 := ht.fz
  have c2 := T1.out.c4
  have f2 := T1.out.fz
  have hnv := ltext_any s (by omega) (k + 1) (by omega) (wr.setCell ⟨W.heap.size, 0, none⟩ (.int .i64 5))
  have hl1 := goes5 hg
  have HV : Hid (tokB (s.data.toList.drop k) = (txtR (s.data.toList.drop (k + 1))).map fun p => (5, 0, p.1, p.2 + 1)) := by
    show _ = _
    rw [HD.out, hl1, tokB, if_neg (by decide), if_neg (by decide), if_neg (by decide), if_neg (by decide), if_neg (by decide), if_pos rfl]
    unfold txtR
    cases qtB (s.data.toList.drop (k + 1)) with
    | none => rfl
    | some p =>
      simp only [Option.bind_some]
      by_cases hz : p.1.length ≤ 64
      · rw [if_pos hz, if_pos hz]; rfl
      · rw [if_neg hz, if_neg hz]; rfl
  obtain ⟨x, e, ok, HX, HBK⟩ : ∃ (x : ByteArray) (e : Int) (ok : Bool), Hid (textV s.data.toList (k + 1) = .tuple #[.string x, .int .i64 e, .bool ok]) ∧ Hid (BackT ((txtR (s.data.toList.drop (k + 1))).map fun p => (5, 0, p.1, p.2 + 1)) k ok 5 0 x e) := by
    cases ho : txtR (s.data.toList.drop (k + 1)) with
    | none => exact ⟨_, _, _, textV_none ho, back_none⟩
    | some p => exact ⟨_, _, _, textV_some ho, back_some rfl (by omega)⟩
  rw [HX.out] at hnv
  have HNV := Lib.hid hnv
  have HB1 := Lib.hid (HB.out.set 0 (.int .i64 5))
  have hki4 : ((k : Int) + 1).toNat = k + 1 := by omega
  have hki5 : (0 : Int) ≤ (k : Int) + 1 := by omega
  clear hnv hb hkb hbl hg ht hl1
  go_wp2_with fail
  refine HNV.out.mono ?_
  rintro e' w2 ⟨rfl, hb2⟩
  have T2 := Lib.hid (T1.out.then_ hb2)
  have T3 := Lib.hid (T2.out.setS x)
  have HB3 := Lib.hid ((HB1.out.then_ hb2).set 3 (.string x))
  have c3 := T2.out.c4
  have f3 := T2.out.fz
  clear hb2
  go_wp2_with fail
  go_step3
  refine ⟨JAll7 ⟨ts, A, m, c, k, b, _, _, _, _, _, _, Fr_mk, (HB3.out : ABase s W ts A m c k _), hk, HKB.out, HBL.out, T3.out, ?_⟩, ?_⟩
  · rw [HV.out]
    exact HBK.out
  · rw [mu_eq Fr_mk]
    simp
end Go.Proofs.YtadjfkgnoklmiaaGreat
/- lex.All: from label to label. -/
namespace Go.Proofs.YtadjfkgnoklmiaaGreat
set_option linter.unusedVariables false
open Go.RowKit

set_option maxRecDepth 100000 in
set_option maxHeartbeats 1600000 in
theorem pass6 (s : ByteArray) (W : World) (hs : s.size ≤ 4096) (a : Act) (wr : World) (hJ : JTok s W 6 a wr) : ∃ R, findLabel allCode 6 = some R ∧ R.wp Tryz.prog (exitsTo (fun l' a' w' => JAll s W l' a' w' ∧ muAll s l' a' w' < muAll s 6 a wr) (allQ s W)) a wr := by
  refine ⟨_, rfl, ?_⟩
  obtain ⟨ts, A, m, c, k, b, ve, vo, hf, hb, hk, hkb, hbl, hg, ht⟩ := hJ
  rw [mu_eq hf]
  obtain ⟨u, rfl⟩ := hf
  have HB := Lib.hid hb
  have HKB := Lib.hid hkb
  have HBL := Lib.hid hbl
  have HD := Lib.hid (drop_at' hkb)
  have T1 := Lib.hid (ht.setK 6)
  have c1 := ht.c4
  have f1 := ht.fz
  have c2 := T1.out.c4
  have f2 := T1.out.fz
  have hl1 := goes6 hg
  have hnv := mark_any b (wr.setCell ⟨W.heap.size, 0, none⟩ (.int .i64 6))
  have HV : Hid (tokB (s.data.toList.drop k) = if mrk b = true then some (6, 0, [b], 1) else none) := by
    show _ = _
    rw [HD.out, tokB, if_neg (by rw [hl1.1]; simp), if_neg (by rw [hl1.2.1]; simp), if_neg hl1.2.2.1, if_neg hl1.2.2.2.1, if_neg hl1.2.2.2.2.1, if_neg hl1.2.2.2.2.2]
  have HX : Hid (markV b = .tuple #[.string (if mrk b = true then ⟨#[b]⟩ else ⟨#[]⟩), .bool (mrk b)]) := rfl
  rw [HX.out] at hnv
  have HBK : Hid (BackT (if mrk b = true then some (6, 0, [b], 1) else none) k (mrk b) 6 0 (if mrk b = true then ⟨#[b]⟩ else ⟨#[]⟩) ((k : Int) + 1)) := by
    show BackT _ _ _ _ _ _ _
    cases h : mrk b with
    | true => rw [if_pos rfl, if_pos rfl]; exact back_some rfl (by omega)
    | false => rw [if_neg (by simp), if_neg (by simp)]; exact back_none
  have hbyte : s[k] = b := by
    have := data_at hk
    rw [hkb] at this
    exact (Option.some.inj this).symm
  generalize (if mrk b = true then (⟨#[b]⟩ : ByteArray) else ⟨#[]⟩) = x at *
  generalize mrk b = ok at *
  have HNV := Lib.hid hnv
  have HB1 := Lib.hid (HB.out.set 0 (.int .i64 6))
  have hki : 0 ≤ (k : Int) ∧ (k : Int) < s.size := by omega
  clear hnv hb hkb hbl hg ht hl1
  go_wp2_with fail
  refine HNV.out.mono ?_
  rintro e' w2 ⟨rfl, hb2⟩
  have T2 := Lib.hid (T1.out.then_ hb2)
  have T3 := Lib.hid (T2.out.setS x)
  have HB3 := Lib.hid ((HB1.out.then_ hb2).set 3 (.string x))
  have c3 := T2.out.c4
  have f3 := T2.out.fz
  clear hb2
  go_wp2_with fail
  go_step3
  go_step
  go_step
  refine wp_mono (backPass s W hs _ _ ⟨ts, A, m, c, k, b, (k : Int) + 1, ok, _, 6, 0, x, Fr_mk, (HB3.out : ABase s W ts A m c k _), hk, HKB.out, HBL.out, T3.out, by rw [HV.out]; exact HBK.out⟩) ?_
  intro e2 a2 w3 hq
  cases e2 with
  | goto l =>
    refine ⟨hq.1, Nat.lt_trans hq.2 ?_⟩
    rw [mu_eq Fr_mk]
    simp
  | _ => exact hq
end Go.Proofs.YtadjfkgnoklmiaaGreat
