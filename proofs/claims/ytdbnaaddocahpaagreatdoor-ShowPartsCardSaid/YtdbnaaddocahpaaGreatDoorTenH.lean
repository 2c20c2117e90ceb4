/- Several texts in one: Parse10, LexBits, LexPast, LexOne, LexClone, LexOneS, LexNum. -/
import Derived.Test.YtdbnaaddocahpaaGreatDoorTenG
import Derived.Test.YtdbnaaddocahpaaGreatDoorTenA
import Derived.Test.YtdbnaaddocahpaaGreatDoorTenB
import Derived.Test.YtdbnaaddocahpaaGreatDoorTenD
import Derived.Lib.Strings
import Derived.Lib.Walk
import Derived.Lib.BufferWrite
import Derived.Lib.UnsafeStr
import Derived.Laws.MakeOwn
import Derived.OwnWalk
/- The parser: policies. -/
namespace Go.Proofs.YtdbnaaddocahpaaGreatDoor
set_option linter.unusedVariables false
open Go.RowKit

theorem policy_ret {fn : Func} {t : Tmp} {tmps : Array Value} {w : World} {g : Nat} {cs : Array Value} (h : fn.results = #[.cell t 28]) (hp : tmps.getD t undef = .pointer (some ⟨g, 0, none⟩)) (hg : Ob w g 28 cs) (h3 : cs.size = 7) :
    (results fn tmps).run Tryz.prog w = .ok (.agg cs) w := results_cell_row h tmps w g _ _ (0, 0) _ hp hg Tryz.underlying28 rfl (by rw [h3]; kernel_rfl)
/-- A policy that is read, where so many levels are left. -/
def PolOf (w w' : World) (f : Nat) (p : Pol) (x : Value) : Prop := ∃ A1 n1 c1 A2 n2 c2 A3 n3 c3 A4 n4 c4, x = .agg #[.string p.id, .bool p.set, .int .i64 p.alg, .slice A1 n1 c1, .slice A2 n2 c2, .slice A3 n3 c3, .slice A4 n4 c4] ∧
  PolAt w' (fun b => w.heap.size ≤ b) f [.string p.id, .bool p.set, .int .i64 p.alg, .slice A1 n1 c1, .slice A2 n2 c2, .slice A3 n3 c3, .slice A4 n4 c4] p
def POk (L g f : Nat) : Prop := ∀ (w : World) (s : Pz) (dd : Int), dd = 5 - (f : Int) → f ≤ 4 → Rd L w g s → s.met + s.rest.length ≤ 5990 →
  Calls Tryz.prog 41 #[.pointer (some ⟨g, 0, none⟩), .int .i64 dd] w fun x w' => ∃ y, x = .returned y ∧ Only g w w' ∧ Rd L w' g (polR (f + 1) s).2 ∧ PolOf w w' (f + 1) (polR (f + 1) s).1 y
theorem kidsR_stop {po : Pz → Pol × Pz} {n : Nat} {l : List Pol} {s : Pz} (h : seesR [w_policy, w_set] s = 0) : kidsR po (n + 1) l s = (l, s) := by
  unfold kidsR
  rw [if_pos h]
theorem kidsR_succ {po : Pz → Pol × Pz} {n : Nat} {l : List Pol} {s s1 s3 : Pz} {u : Pol} {m : Int} (h : seesR [w_policy, w_set] s ≠ 0) (hm : (l.length : Int) + 1 = m) (h1 : mostR m 16 s = s1) (h3 : po s1 = (u, s3)) : kidsR po (n + 1) l s = kidsR po n (l ++ [u]) s3 := by
  conv => lhs; unfold kidsR
  rw [if_neg h]
  simp only [hm, h1, h3]
section
variable {L g : Nat} {w : World} {s : Pz}
set_option maxHeartbeats 3200000 in
theorem pkids_any (h : Rd L w g s) (hsum : s.met + s.rest.length ≤ 5990) {f' : Nat} (hf : f' ≤ 3) (ih : POk L g f') (dd : Int) (hdd : dd = 5 - (f' : Int)) : Calls Tryz.prog 81 #[.pointer (some ⟨g, 0, none⟩), .int .i64 dd] w fun x w' => ∃ A n c, x = .returned (.slice A n c) ∧ Only g w w' ∧ Rd L w' g (kidsR (polR (f' + 1)) s.rest.length [] s).2 ∧ Pls w' (fun b => w.heap.size ≤ b) (f' + 1) A n c (kidsR (polR (f' + 1)) s.rest.length [] s).1 := by
  have HG0 : Hid (g < w.heap.size) := h.lt
  have HL0 : Hid (s.rest.length ≤ 5000) := h.ok.2.2.1.1
  have HH := Lib.hid h
  have HS := Lib.hid hsum
  have HIH : Hid (∀ (w : World) (s : Pz), Rd L w g s → s.met + s.rest.length ≤ 5990 →
      Calls Tryz.prog 41 #[.pointer (some ⟨g, 0, none⟩), .int .i64 dd] w fun x w' => ∃ y, x = .returned y ∧ Only g w w' ∧ Rd L w' g (polR (f' + 1) s).2 ∧ PolOf w w' (f' + 1) (polR (f' + 1) s).1 y) := fun w s h hs => ih w s dd hdd (by omega) h hs
  obtain ⟨z, hz⟩ : ∃ z, z = kidsR (polR (f' + 1)) s.rest.length [] s := ⟨_, rfl⟩
  have HZ : Hid (z = kidsR (polR (f' + 1)) s.rest.length [] s) := hz
  rw [← hz]
  have HPG := Lib.hid (pol_go (L := L) f')
  clear h hz hsum ih hdd
  go_enter Tryz.func81, Tryz.ntmps81
  go_wp2
  go_loopw [5] (fun v wr => ∃ (k : Nat) (A : Option Addr) (c : Nat) (l : List Pol) (s' : Pz) (q : Nat), v = .slice A k c ∧ Only g w wr ∧ Rd L wr g s' ∧ Gr 7 (fun w R => PolAt w R (f' + 1)) wr w.heap.size 28 A k c l ∧ k + s'.rest.length ≤ s.rest.length ∧ s'.rest.length ≤ q ∧ s'.met + s'.rest.length ≤ 5990 ∧ kidsR (polR (f' + 1)) q l s' = z) (fun v wr => restN wr g)
  case atStart => exact ⟨0, none, 0, [], s, s.rest.length, rfl, Only.refl, HH.out, Gr.nil _ _ (Nat.le_refl _), by omega, Nat.le_refl _, HS.out, HZ.out.symm⟩
  case round =>
    obtain ⟨k, A, c, l, s', q, rfl, ho, hr, hg, hk, hq, hs, he⟩ := hrel
    have HOw := Lib.hid ho
    have HR0 := Lib.hid hr
    have HGr := Lib.hid hg
    have HK := Lib.hid hk
    have HQ := Lib.hid hq
    have HSM := Lib.hid hs
    have hq1 := hr.ok.pos
    obtain ⟨q, rfl⟩ : ∃ q', q = q' + 1 := ⟨q - 1, by omega⟩
    have HRN := Lib.hid hr.restN
    by_cases hi : seesR [w_policy, w_set] s' = 0
    · have HE := Lib.hid ((kidsR_stop hi).symm.trans he)
      have HI := Lib.hid hi
      clear ho hr hg hk hq hs he hi hq1
      go_wp2_with fail
      go_at_call 117
      refine (psees_lit HR0.out [w_policy, w_set] #[.string ⟨#[112, 111, 108, 105, 99, 121]⟩, .string ⟨#[115, 101, 116]⟩] 2 rfl rfl (by omega) rfl).mono ?_
      rintro x u1 ⟨hx, hb⟩
      obtain rfl : x = .returned (.int .i64 ((0 : Nat) : Int)) := by rw [hx, HI.out] <;> rfl
      have HB := Lib.hid hb
      clear hx hb
      go_wp2_with fail
      go_ret
      rw [← HE.out]
      exact ⟨A, k, c, rfl, HOw.out.then_ HB.out, HR0.out.then_ HB.out, Pls.keep ((Gr.below (keeps_pol (f' + 1)) HGr.out HB.out).rw (keeps_pol (f' + 1)) (by have := HL0.out; have := HK.out; omega)) (Kept.refl _ _) (fun _ h _ => h)⟩
    · obtain ⟨s1, e1⟩ : ∃ y, mostR ((k : Int) + 1) 16 s' = y := ⟨_, rfl⟩
      obtain ⟨u, s3, e3⟩ : ∃ x y, polR (f' + 1) s1 = (x, y) := ⟨_, _, rfl⟩
      have HE := Lib.hid ((kidsR_succ hi (by rw [hg.len]) e1 e3).symm.trans he)
      obtain ⟨r4, r5, r6⟩ := round_kid HPG.out hr.ok hs hi ((k : Int) + 1)
      have r7 := most_sum hr.ok ((k : Int) + 1) 16
      rw [e1] at r7
      rw [e1, e3] at r4 r5 r6
      have HTL : Hid (s3.rest.length + 1 ≤ s'.rest.length ∧ s3.met + s3.rest.length ≤ s'.met + s'.rest.length ∧ s1.met + s1.rest.length ≤ 5990) := ⟨r5, r6, by omega⟩
      have hk63 : k < 1000000 := by have := HL0.out; omega
      have HI := Lib.hid (show 0 < seesR [w_policy, w_set] s' by omega)
      have E1 := Lib.hid e1
      have E3 := Lib.hid e3
      clear ho hr hg hk hq hs he hi hq1 e1 e3 r4 r5 r6 r7
      generalize hsv : seesR [w_policy, w_set] s' = sv at *
      have HSV := Lib.hid hsv
      have hsv2 : decide ((0 : Int) < (sv : Int)) = true := decide_eq_true (by have := HI.out; omega)
      clear hsv
      go_wp2_with fail
      go_at_call 117
      refine (psees_lit HR0.out [w_policy, w_set] #[.string ⟨#[112, 111, 108, 105, 99, 121]⟩, .string ⟨#[115, 101, 116]⟩] 2 rfl rfl (by omega) rfl).mono ?_
      rintro x u1 ⟨hx, hb⟩
      obtain rfl : x = .returned (.int .i64 (sv : Int)) := by rw [hx, HSV.out] <;> rfl
      have HR1 := Lib.hid (HR0.out.then_ hb)
      have G1 := Lib.hid (Gr.below (keeps_pol (f' + 1)) HGr.out hb)
      have O1 := Lib.hid (HOw.out.then_ hb)
      clear hx hb
      go_wp2_with fail
      go_at_call 77
      refine (pmost_any HR1.out ((k : Int) + 1) 16).mono ?_
      rintro x u2 ⟨rfl, ho, hr⟩
      rw [E1.out] at hr
      have O3 := Lib.hid (O1.out.trans ho)
      have HR3 := Lib.hid hr
      have G3 := Lib.hid (Gr.only (keeps_pol (f' + 1)) G1.out ho HG0.out)
      clear ho hr
      go_wp2_with fail
      go_at_call 41
      refine (HIH.out _ s1 HR3.out HTL.out.2.2).mono ?_
      rintro x u4 ⟨y, rfl, ho, hr, A1, n1, c1, A2, n2, c2, A3, n3, c3, A4, n4, c4, rfl, hp⟩
      rw [E3.out] at hr hp
      rw [E3.out]
      have hgr := Gr.only (keeps_pol (f' + 1)) G3.out ho HG0.out
      have ap : ∀ b, u2.heap.size ≤ b → Nb w.heap.size (.slice A k c) b := fun b hb => G3.out.apart b hb
      obtain ⟨A5, c5, u5, r5, g5, b5⟩ := push_pol hgr (PolAt.keep (Kept.refl _ _) (fun b hb _ => ap b hb) hp) hk63
      have O5 := Lib.hid ((O3.out.trans ho).below_at b5)
      have HR5 := Lib.hid (hr.below b5 HG0.out)
      have R5 := Lib.hid r5
      have G5 := Lib.hid g5
      clear ho hr hp hgr ap r5 g5 b5
      go_wp2_with (at_builtin; refine wpList_append_run (o := ⟨some 20, _, _, _, _, _⟩) rfl _ _ _ _ rfl rfl rfl R5.out ?_)
      go_roundw
      case rel => exact ⟨k + 1, A5, c5, l ++ [u], s3, q, rfl, O5.out, HR5.out, G5.out, by have := HTL.out; have := HK.out; omega, by have := HTL.out; have := HQ.out; omega, by have := HTL.out; have := HSM.out; omega, HE.out⟩
      case measure => rw [HR5.out.restN, HRN.out]; have := HTL.out; omega
theorem mustR_in (ws : List ByteArray) (s : Pz) (h : ws.length ≤ 100) : InI ((mustR ws s).1 : Int) := by
  have := mustR_le ws s
  exact in_small (by omega) (by omega)
set_option maxHeartbeats 6400000 in
theorem pol_read (f : Nat) (ih : ∀ f', f = f' + 1 → POk L g f') : POk L g f := by
  intro w s dd hdd hf4 h hsum
  obtain ⟨s0, e0⟩ : ∃ y, mostR (5 - (f : Int)) 4 s = y := ⟨_, rfl⟩
  obtain ⟨i, s1, e1⟩ : ∃ x y, mustR [w_policy, w_set] s0 = (x, y) := ⟨_, _, rfl⟩
  obtain ⟨nm, s2, e2⟩ : ∃ x y, nameR s1 = (x, y) := ⟨_, _, rfl⟩
  obtain ⟨al, s3, e3⟩ : ∃ x y, mustR w_algs s2 = (x, y) := ⟨_, _, rfl⟩
  obtain ⟨tt, s4, e4⟩ : ∃ x y, targetR s3 = (x, y) := ⟨_, _, rfl⟩
  obtain ⟨j5, s5, e5⟩ : ∃ x y, mustR [m_lb] s4 = (x, y) := ⟨_, _, rfl⟩
  obtain ⟨rr, kk, s6, e6⟩ : ∃ x y z, inR f i s5 = (x, y, z) := ⟨_, _, _, rfl⟩
  obtain ⟨j7, s7, e7⟩ : ∃ x y, mustR [m_rb] s6 = (x, y) := ⟨_, _, rfl⟩
  obtain ⟨oo, s8, e8⟩ : ∃ x y, dutsR s7 = (x, y) := ⟨_, _, rfl⟩
  have G0 : Go2 L s s0 := .of (e0 ▸ most_go h.ok _ _) (e0 ▸ mostR_met _ _ _)
  have k0 := G0.1.1
  have G1 : Go2 L s0 s1 := .of (by have := must_go k0 [w_policy, w_set]; rwa [e1] at this) (by have := mustR_met [w_policy, w_set] s0; rwa [e1] at this)
  have k1 := G1.1.1
  have G2 : Go2 L s1 s2 := .of (by have := name_go k1; rwa [e2] at this) (by have := nameR_met s1; rwa [e2] at this)
  have k2 := G2.1.1
  have G3 : Go2 L s2 s3 := .of (by have := must_go k2 w_algs; rwa [e3] at this) (by have := mustR_met w_algs s2; rwa [e3] at this)
  have k3 := G3.1.1
  have G4 : Go2 L s3 s4 := .of (by have := target_go k3; rwa [e4] at this) (by have := targetR_met s3; rwa [e4] at this)
  have k4 := G4.1.1
  have G5 : Go2 L s4 s5 := .of (by have := must_go k4 [m_lb]; rwa [e5] at this) (by have := mustR_met [m_lb] s4; rwa [e5] at this)
  have HSM : Hid (s5.met + s5.rest.length ≤ 5990) := by show _ ≤ _; have := G0.2; have := G1.2; have := G2.2; have := G3.2; have := G4.2; have := G5.2; omega
  have HNM : Hid (nm.size ≤ maxLen) := by have := nameR_size k1; rw [e2] at this; exact this
  have HAL : Hid (InI (al : Int)) := by have := mustR_in w_algs s2 (by decide); rw [e3] at this; exact this
  have HI0 : f = 0 → i ≠ 2 := by
    rintro rfl hi
    have h5 : s0.rest.length = 1 := by
      rw [← e0]
      unfold mostR
      rw [if_pos (by omega)]
      exact failR_len _ _ h.ok
    have := must_one k0 h5 [w_policy, w_set]
    rw [e1] at this
    simp only at this
    omega
  have hq := eq2 i
  rw [polR_eq f s e0 e1 e2 e3 e4 e5 e6 e7 e8]
  clear G0 G1 G2 G3 G4 G5 k0 k1 k2 k3 k4
  by_cases hi : i = 2
  · obtain ⟨f', rfl⟩ : ∃ f', f = f' + 1 := ⟨f - 1, by have : f ≠ 0 := fun e => HI0 e hi; omega⟩
    have HIH := Lib.hid (ih f' rfl)
    have HIN : Hid (rr = [] ∧ kk = (kidsR (polR (f' + 1)) s5.rest.length [] s5).1 ∧ s6 = (kidsR (polR (f' + 1)) s5.rest.length [] s5).2) := by
      show _ ∧ _ ∧ _
      unfold inR at e6
      rw [if_pos hi] at e6
      injection e6 with x1 x2
      exact ⟨x1.symm, by rw [x2], by rw [x2]⟩
    subst hi
    have hd1 : -100 ≤ dd := by omega
    have hd2 : dd ≤ 100 := by omega
    have HD : Hid (dd + 1 = 5 - (f' : Int) ∧ f' ≤ 3) := ⟨by omega, by omega⟩
    have hq : ((2 : Int) == 2) = true := rfl
    have E0 : Hid (mostR dd 4 s = s0) := by rw [hdd]; exact Lib.hid e0
    have E1 := Lib.hid e1
    have E2 := Lib.hid e2
    have E3 := Lib.hid e3
    have E4 := Lib.hid e4
    have E5 := Lib.hid e5
    have E7 := Lib.hid e7
    have E8 := Lib.hid e8
    have HG : Hid (g < w.heap.size) := h.lt
    have HBr_1 : Hid (Ob (w.alloc (.cells #[.string ⟨#[]⟩, .bool false, .int .i64 0, .slice none 0 0, .slice none 0 0, .slice none 0 0, .slice none 0 0] 28)) (w.heap.size) 28 #[.string ⟨#[]⟩, .bool false, .int .i64 0, .slice none 0 0, .slice none 0 0, .slice none 0 0, .slice none 0 0]) := Lib.hid (by have := Ob.made w 28 #[.string ⟨#[]⟩, .bool false, .int .i64 0, .slice none 0 0, .slice none 0 0, .slice none 0 0, .slice none 0 0]; simpa using this)
    have HBr_2 := Lib.hid (HBr_1.out.keep (Below.heap_alloc (w.alloc (.cells #[.string ⟨#[]⟩, .bool false, .int .i64 0, .slice none 0 0, .slice none 0 0, .slice none 0 0, .slice none 0 0] 28)) (.cells #[.string ⟨#[]⟩, .bool false, .int .i64 0, .slice none 0 0, .slice none 0 0, .slice none 0 0, .slice none 0 0] 28) _ HBr_1.out.lt))
    have HBp_2 : Hid (Ob ((w.alloc (.cells #[.string ⟨#[]⟩, .bool false, .int .i64 0, .slice none 0 0, .slice none 0 0, .slice none 0 0, .slice none 0 0] 28)).alloc (.cells #[.string ⟨#[]⟩, .bool false, .int .i64 0, .slice none 0 0, .slice none 0 0, .slice none 0 0, .slice none 0 0] 28)) (w.heap.size + 1) 28 #[.string ⟨#[]⟩, .bool false, .int .i64 0, .slice none 0 0, .slice none 0 0, .slice none 0 0, .slice none 0 0]) := Lib.hid (by have := Ob.made (w.alloc (.cells #[.string ⟨#[]⟩, .bool false, .int .i64 0, .slice none 0 0, .slice none 0 0, .slice none 0 0, .slice none 0 0] 28)) 28 #[.string ⟨#[]⟩, .bool false, .int .i64 0, .slice none 0 0, .slice none 0 0, .slice none 0 0, .slice none 0 0]; simpa using this)
    have HR0 := Lib.hid ((h.alloc (.cells #[.string ⟨#[]⟩, .bool false, .int .i64 0, .slice none 0 0, .slice none 0 0, .slice none 0 0, .slice none 0 0] 28)).alloc (.cells #[.string ⟨#[]⟩, .bool false, .int .i64 0, .slice none 0 0, .slice none 0 0, .slice none 0 0, .slice none 0 0] 28))
    have HO0 := Lib.hid (((Only.refl (r := g) (w := w)).al (.cells #[.string ⟨#[]⟩, .bool false, .int .i64 0, .slice none 0 0, .slice none 0 0, .slice none 0 0, .slice none 0 0] 28)).al (.cells #[.string ⟨#[]⟩, .bool false, .int .i64 0, .slice none 0 0, .slice none 0 0, .slice none 0 0, .slice none 0 0] 28))
    clear h hsum e0 e1 e2 e3 e4 e5 e6 e7 e8 ih HI0 hf4 hdd
    go_enter Tryz.func41, Tryz.ntmps41
    go_wp2_with fail
    go_at_call 77
    refine (pmost_any HR0.out dd 4).mono ?_
    rintro x u3 ⟨rfl, ho, hr⟩
    rw [E0.out] at hr
    have HO3 := Lib.hid (HO0.out.trans ho)
    have HR3 := Lib.hid hr
    have HBr_3 := Lib.hid (HBr_2.out.keep (ho.heap HBr_2.out.lt (by have := HG.out; omega)))
    have HBp_3 := Lib.hid (HBp_2.out.keep (ho.heap HBp_2.out.lt (by have := HG.out; omega)))
    clear ho hr
    go_wp2_with fail
    go_at_call 78
    refine (pmust_lit HR3.out [w_policy, w_set] #[.string ⟨#[112, 111, 108, 105, 99, 121]⟩, .string ⟨#[115, 101, 116]⟩] 2 rfl rfl (by omega) (by first | rfl | (simp; done) | (simp [World.setCell]; done))).mono ?_
    rintro x u4 ⟨hx, ho, hr⟩
    obtain rfl : x = .returned (.int .i64 ((2 : Nat) : Int)) := by rw [hx, E1.out] <;> rfl
    rw [E1.out] at hr
    clear hx
    have HO4 := Lib.hid (HO3.out.trans ho)
    have HR4 := Lib.hid hr
    have HBr_4 := Lib.hid (HBr_3.out.keep (ho.heap HBr_3.out.lt (by have := HG.out; omega)))
    have HBp_4 := Lib.hid (HBp_3.out.keep (ho.heap HBp_3.out.lt (by have := HG.out; omega)))
    clear ho hr
    have c5 := HBp_4.out.cell 1
    have f5 := HBp_4.out.frozen 1
    have HO5 := Lib.hid (HO4.out.new (r := w.heap.size + 1) (by have := HG.out; omega) 1 (.bool true))
    have HR5 := Lib.hid (HR4.out.set (r := w.heap.size + 1) (by have := HG.out; omega) 1 (.bool true))
    have HBr_5 := Lib.hid (HBr_4.out.keep (Below.heap_setCell u4 ⟨w.heap.size + 1, 1, none⟩ (.bool true) _ (by show w.heap.size ≠ w.heap.size + 1; have := HG.out; omega)))
    have HBp_5 : Hid (Ob (u4.setCell ⟨w.heap.size + 1, 1, none⟩ (.bool true)) (w.heap.size + 1) 28 #[.string ⟨#[]⟩, .bool true, .int .i64 0, .slice none 0 0, .slice none 0 0, .slice none 0 0, .slice none 0 0]) := Lib.hid (by have := HBp_4.out.put 1 (.bool true); simpa using this)
    go_wp2_with fail
    go_at_call 79
    refine (pname_any HR5.out).mono ?_
    rintro x u6 ⟨hx, ho, hr⟩
    obtain rfl : x = .returned (.string nm) := by rw [hx, E2.out] <;> rfl
    rw [E2.out] at hr
    clear hx
    have HO6 := Lib.hid (HO5.out.trans ho)
    have HR6 := Lib.hid hr
    have HBr_6 := Lib.hid (HBr_5.out.keep (ho.heap HBr_5.out.lt (by have := HG.out; omega)))
    have HBp_6 := Lib.hid (HBp_5.out.keep (ho.heap HBp_5.out.lt (by have := HG.out; omega)))
    clear ho hr
    have c7 := HBp_6.out.cell 0
    have f7 := HBp_6.out.frozen 0
    have HO7 := Lib.hid (HO6.out.new (r := w.heap.size + 1) (by have := HG.out; omega) 0 (.string nm))
    have HR7 := Lib.hid (HR6.out.set (r := w.heap.size + 1) (by have := HG.out; omega) 0 (.string nm))
    have HBr_7 := Lib.hid (HBr_6.out.keep (Below.heap_setCell u6 ⟨w.heap.size + 1, 0, none⟩ (.string nm) _ (by show w.heap.size ≠ w.heap.size + 1; have := HG.out; omega)))
    have HBp_7 : Hid (Ob (u6.setCell ⟨w.heap.size + 1, 0, none⟩ (.string nm)) (w.heap.size + 1) 28 #[.string nm, .bool true, .int .i64 0, .slice none 0 0, .slice none 0 0, .slice none 0 0, .slice none 0 0]) := Lib.hid (by have := HBp_6.out.put 0 (.string nm); simpa using this)
    go_wp2_with fail
    go_at_call 78
    refine (pmust_lit HR7.out [w_denyover, w_permitover, w_first, w_only, w_denyunless, w_permitunless] #[.string ⟨#[100, 101, 110, 121, 111, 118, 101, 114]⟩, .string ⟨#[112, 101, 114, 109, 105, 116, 111, 118, 101, 114]⟩, .string ⟨#[102, 105, 114, 115, 116]⟩, .string ⟨#[111, 110, 108, 121]⟩, .string ⟨#[100, 101, 110, 121, 117, 110, 108, 101, 115, 115]⟩, .string ⟨#[112, 101, 114, 109, 105, 116, 117, 110, 108, 101, 115, 115]⟩] 6 rfl rfl (by omega) (by first | rfl | (simp; done) | (simp [World.setCell]; done))).mono ?_
    rintro x u8 ⟨hx, ho, hr⟩
    obtain rfl : x = .returned (.int .i64 (al : Int)) := by rw [hx, E3.out] <;> rfl
    rw [E3.out] at hr
    clear hx
    have HO8 := Lib.hid (HO7.out.trans ho)
    have HR8 := Lib.hid hr
    have HBr_8 := Lib.hid (HBr_7.out.keep (ho.heap HBr_7.out.lt (by have := HG.out; omega)))
    have HBp_8 := Lib.hid (HBp_7.out.keep (ho.heap HBp_7.out.lt (by have := HG.out; omega)))
    clear ho hr
    have c9 := HBp_8.out.cell 2
    have f9 := HBp_8.out.frozen 2
    have HO9 := Lib.hid (HO8.out.new (r := w.heap.size + 1) (by have := HG.out; omega) 2 (.int .i64 (al : Int)))
    have HR9 := Lib.hid (HR8.out.set (r := w.heap.size + 1) (by have := HG.out; omega) 2 (.int .i64 (al : Int)))
    have HBr_9 := Lib.hid (HBr_8.out.keep (Below.heap_setCell u8 ⟨w.heap.size + 1, 2, none⟩ (.int .i64 (al : Int)) _ (by show w.heap.size ≠ w.heap.size + 1; have := HG.out; omega)))
    have HBp_9 : Hid (Ob (u8.setCell ⟨w.heap.size + 1, 2, none⟩ (.int .i64 (al : Int))) (w.heap.size + 1) 28 #[.string nm, .bool true, .int .i64 (al : Int), .slice none 0 0, .slice none 0 0, .slice none 0 0, .slice none 0 0]) := Lib.hid (by have := HBp_8.out.put 2 (.int .i64 (al : Int)); simpa using this)
    go_wp2_with fail
    go_at_call 80
    refine (ptarget_any HR9.out).mono ?_
    rintro x u10 ⟨A1, n1, c1, rfl, ho, hr, ht1⟩
    rw [E4.out] at hr ht1
    have HO10 := Lib.hid (HO9.out.trans ho)
    have HR10 := Lib.hid hr
    have HBr_10 := Lib.hid (HBr_9.out.keep (ho.heap HBr_9.out.lt (by have := HG.out; omega)))
    have HBp_10 := Lib.hid (HBp_9.out.keep (ho.heap HBp_9.out.lt (by have := HG.out; omega)))
    have HTt1_10 := Lib.hid (ht1.keep (Kept.refl _ _) (R' := fun b => w.heap.size + 2 ≤ b) (fun b hb _ => by have hb : ((u8.setCell ⟨w.heap.size + 1, 2, none⟩ (.int .i64 (al : Int)))).heap.size ≤ b := hb; have := HBp_9.out.lt; show w.heap.size + 2 ≤ b; omega))
    clear ho hr ht1
    have c11 := HBp_10.out.cell 3
    have f11 := HBp_10.out.frozen 3
    have HO11 := Lib.hid (HO10.out.new (r := w.heap.size + 1) (by have := HG.out; omega) 3 (.slice A1 n1 c1))
    have HR11 := Lib.hid (HR10.out.set (r := w.heap.size + 1) (by have := HG.out; omega) 3 (.slice A1 n1 c1))
    have HBr_11 := Lib.hid (HBr_10.out.keep (Below.heap_setCell u10 ⟨w.heap.size + 1, 3, none⟩ (.slice A1 n1 c1) _ (by show w.heap.size ≠ w.heap.size + 1; have := HG.out; omega)))
    have HBp_11 : Hid (Ob (u10.setCell ⟨w.heap.size + 1, 3, none⟩ (.slice A1 n1 c1)) (w.heap.size + 1) 28 #[.string nm, .bool true, .int .i64 (al : Int), .slice A1 n1 c1, .slice none 0 0, .slice none 0 0, .slice none 0 0]) := Lib.hid (by have := HBp_10.out.put 3 (.slice A1 n1 c1); simpa using this)
    have HTt1_11 := Lib.hid (HTt1_10.out.keep (Only.kept9 ((Only.refl (r := w.heap.size + 1) (w := u10)).setCell (p := ⟨w.heap.size + 1, 3, none⟩) rfl (.slice A1 n1 c1)) (fun b hb => by have hb : w.heap.size + 2 ≤ b := hb; show b ≠ w.heap.size + 1; omega)) (fun _ h _ => h))
    go_wp2_with fail
    go_at_call 78
    refine (pmust_lit HR11.out [m_lb] #[.string ⟨#[123]⟩] 1 rfl rfl (by omega) (by first | rfl | (simp; done) | (simp [World.setCell]; done))).mono ?_
    rintro x u12 ⟨rfl, ho, hr⟩
    rw [E5.out] at hr
    have HO12 := Lib.hid (HO11.out.trans ho)
    have HR12 := Lib.hid hr
    have HBr_12 := Lib.hid (HBr_11.out.keep (ho.heap HBr_11.out.lt (by have := HG.out; omega)))
    have HBp_12 := Lib.hid (HBp_11.out.keep (ho.heap HBp_11.out.lt (by have := HG.out; omega)))
    have HTt1_12 := Lib.hid (HTt1_11.out.keep (ho.kept9 (fun b hb => by have := HG.out; have hb : w.heap.size + 2 ≤ b := hb; show b ≠ g; omega)) (fun _ h _ => h))
    clear ho hr
    have c13_1 := HBp_12.out.cell 1
    go_wp2_with fail
    go_at_call 81
    refine (pkids_any HR12.out HSM.out HD.out.2 HIH.out (dd + 1) HD.out.1).mono ?_
    rintro x u14 ⟨A3, n3, c3, rfl, ho, hr, ht3⟩
    rw [← HIN.out.2.2] at hr
    rw [← HIN.out.2.1] at ht3
    have HO14 := Lib.hid (HO12.out.trans ho)
    have HR14 := Lib.hid hr
    have HBr_14 := Lib.hid (HBr_12.out.keep (ho.heap HBr_12.out.lt (by have := HG.out; omega)))
    have HBp_14 := Lib.hid (HBp_12.out.keep (ho.heap HBp_12.out.lt (by have := HG.out; omega)))
    have HTt1_14 := Lib.hid (HTt1_12.out.keep (ho.kept9 (fun b hb => by have := HG.out; have hb : w.heap.size + 2 ≤ b := hb; show b ≠ g; omega)) (fun _ h _ => h))
    have HTt3_14 := Lib.hid (ht3.keep (Kept.refl _ _) (R' := fun b => w.heap.size + 2 ≤ b) (fun b hb _ => by have hb : (u12).heap.size ≤ b := hb; have := HBp_12.out.lt; show w.heap.size + 2 ≤ b; omega))
    clear ho hr ht3
    have c15 := HBp_14.out.cell 5
    have f15 := HBp_14.out.frozen 5
    have HO15 := Lib.hid (HO14.out.new (r := w.heap.size + 1) (by have := HG.out; omega) 5 (.slice A3 n3 c3))
    have HR15 := Lib.hid (HR14.out.set (r := w.heap.size + 1) (by have := HG.out; omega) 5 (.slice A3 n3 c3))
    have HBr_15 := Lib.hid (HBr_14.out.keep (Below.heap_setCell u14 ⟨w.heap.size + 1, 5, none⟩ (.slice A3 n3 c3) _ (by show w.heap.size ≠ w.heap.size + 1; have := HG.out; omega)))
    have HBp_15 : Hid (Ob (u14.setCell ⟨w.heap.size + 1, 5, none⟩ (.slice A3 n3 c3)) (w.heap.size + 1) 28 #[.string nm, .bool true, .int .i64 (al : Int), .slice A1 n1 c1, .slice none 0 0, .slice A3 n3 c3, .slice none 0 0]) := Lib.hid (by have := HBp_14.out.put 5 (.slice A3 n3 c3); simpa using this)
    have HTt1_15 := Lib.hid (HTt1_14.out.keep (Only.kept9 ((Only.refl (r := w.heap.size + 1) (w := u14)).setCell (p := ⟨w.heap.size + 1, 5, none⟩) rfl (.slice A3 n3 c3)) (fun b hb => by have hb : w.heap.size + 2 ≤ b := hb; show b ≠ w.heap.size + 1; omega)) (fun _ h _ => h))
    have HTt3_15 := Lib.hid (HTt3_14.out.keep (Only.kept9 ((Only.refl (r := w.heap.size + 1) (w := u14)).setCell (p := ⟨w.heap.size + 1, 5, none⟩) rfl (.slice A3 n3 c3)) (fun b hb => by have hb : w.heap.size + 2 ≤ b := hb; show b ≠ w.heap.size + 1; omega)) (fun _ h _ => h))
    go_wp2_with fail
    go_at_call 78
    refine (pmust_lit HR15.out [m_rb] #[.string ⟨#[125]⟩] 1 rfl rfl (by omega) (by first | rfl | (simp; done) | (simp [World.setCell]; done))).mono ?_
    rintro x u16 ⟨rfl, ho, hr⟩
    rw [E7.out] at hr
    have HO16 := Lib.hid (HO15.out.trans ho)
    have HR16 := Lib.hid hr
    have HBr_16 := Lib.hid (HBr_15.out.keep (ho.heap HBr_15.out.lt (by have := HG.out; omega)))
    have HBp_16 := Lib.hid (HBp_15.out.keep (ho.heap HBp_15.out.lt (by have := HG.out; omega)))
    have HTt1_16 := Lib.hid (HTt1_15.out.keep (ho.kept9 (fun b hb => by have := HG.out; have hb : w.heap.size + 2 ≤ b := hb; show b ≠ g; omega)) (fun _ h _ => h))
    have HTt3_16 := Lib.hid (HTt3_15.out.keep (ho.kept9 (fun b hb => by have := HG.out; have hb : w.heap.size + 2 ≤ b := hb; show b ≠ g; omega)) (fun _ h _ => h))
    clear ho hr
    go_wp2_with fail
    go_at_call 83
    refine (pduts_any HR16.out).mono ?_
    rintro x u17 ⟨A4, n4, c4, rfl, ho, hr, ht4⟩
    rw [E8.out] at hr ht4
    have HO17 := Lib.hid (HO16.out.trans ho)
    have HR17 := Lib.hid hr
    have HBr_17 := Lib.hid (HBr_16.out.keep (ho.heap HBr_16.out.lt (by have := HG.out; omega)))
    have HBp_17 := Lib.hid (HBp_16.out.keep (ho.heap HBp_16.out.lt (by have := HG.out; omega)))
    have HTt1_17 := Lib.hid (HTt1_16.out.keep (ho.kept9 (fun b hb => by have := HG.out; have hb : w.heap.size + 2 ≤ b := hb; show b ≠ g; omega)) (fun _ h _ => h))
    have HTt3_17 := Lib.hid (HTt3_16.out.keep (ho.kept9 (fun b hb => by have := HG.out; have hb : w.heap.size + 2 ≤ b := hb; show b ≠ g; omega)) (fun _ h _ => h))
    have HTt4_17 := Lib.hid (ht4.keep (Kept.refl _ _) (R' := fun b => w.heap.size + 2 ≤ b) (fun b hb _ => by have hb : (u16).heap.size ≤ b := hb; have := HBp_16.out.lt; show w.heap.size + 2 ≤ b; omega))
    clear ho hr ht4
    have c18 := HBp_17.out.cell 6
    have f18 := HBp_17.out.frozen 6
    have HO18 := Lib.hid (HO17.out.new (r := w.heap.size + 1) (by have := HG.out; omega) 6 (.slice A4 n4 c4))
    have HR18 := Lib.hid (HR17.out.set (r := w.heap.size + 1) (by have := HG.out; omega) 6 (.slice A4 n4 c4))
    have HBr_18 := Lib.hid (HBr_17.out.keep (Below.heap_setCell u17 ⟨w.heap.size + 1, 6, none⟩ (.slice A4 n4 c4) _ (by show w.heap.size ≠ w.heap.size + 1; have := HG.out; omega)))
    have HBp_18 : Hid (Ob (u17.setCell ⟨w.heap.size + 1, 6, none⟩ (.slice A4 n4 c4)) (w.heap.size + 1) 28 #[.string nm, .bool true, .int .i64 (al : Int), .slice A1 n1 c1, .slice none 0 0, .slice A3 n3 c3, .slice A4 n4 c4]) := Lib.hid (by have := HBp_17.out.put 6 (.slice A4 n4 c4); simpa using this)
    have HTt1_18 := Lib.hid (HTt1_17.out.keep (Only.kept9 ((Only.refl (r := w.heap.size + 1) (w := u17)).setCell (p := ⟨w.heap.size + 1, 6, none⟩) rfl (.slice A4 n4 c4)) (fun b hb => by have hb : w.heap.size + 2 ≤ b := hb; show b ≠ w.heap.size + 1; omega)) (fun _ h _ => h))
    have HTt3_18 := Lib.hid (HTt3_17.out.keep (Only.kept9 ((Only.refl (r := w.heap.size + 1) (w := u17)).setCell (p := ⟨w.heap.size + 1, 6, none⟩) rfl (.slice A4 n4 c4)) (fun b hb => by have hb : w.heap.size + 2 ≤ b := hb; show b ≠ w.heap.size + 1; omega)) (fun _ h _ => h))
    have HTt4_18 := Lib.hid (HTt4_17.out.keep (Only.kept9 ((Only.refl (r := w.heap.size + 1) (w := u17)).setCell (p := ⟨w.heap.size + 1, 6, none⟩) rfl (.slice A4 n4 c4)) (fun b hb => by have hb : w.heap.size + 2 ≤ b := hb; show b ≠ w.heap.size + 1; omega)) (fun _ h _ => h))
    have c19_0 := HBp_18.out.cell 0
    have c19_1 := HBp_18.out.cell 1
    have c19_2 := HBp_18.out.cell 2
    have c19_3 := HBp_18.out.cell 3
    have c19_4 := HBp_18.out.cell 4
    have c19_5 := HBp_18.out.cell 5
    have c19_6 := HBp_18.out.cell 6
    have c20 := HBr_18.out.cell 0
    have f20 := HBr_18.out.frozen 0
    have HO20 := Lib.hid (HO18.out.new (r := w.heap.size) (by have := HG.out; omega) 0 (.string nm))
    have HR20 := Lib.hid (HR18.out.set (r := w.heap.size) (by have := HG.out; omega) 0 (.string nm))
    have HBr_20 : Hid (Ob ((u17.setCell ⟨w.heap.size + 1, 6, none⟩ (.slice A4 n4 c4)).setCell ⟨w.heap.size, 0, none⟩ (.string nm)) (w.heap.size) 28 #[.string nm, .bool false, .int .i64 0, .slice none 0 0, .slice none 0 0, .slice none 0 0, .slice none 0 0]) := Lib.hid (by have := HBr_18.out.put 0 (.string nm); simpa using this)
    have HBp_20 := Lib.hid (HBp_18.out.keep (Below.heap_setCell (u17.setCell ⟨w.heap.size + 1, 6, none⟩ (.slice A4 n4 c4)) ⟨w.heap.size, 0, none⟩ (.string nm) _ (by show w.heap.size + 1 ≠ w.heap.size; have := HG.out; omega)))
    have HTt1_20 := Lib.hid (HTt1_18.out.keep (Only.kept9 ((Only.refl (r := w.heap.size) (w := (u17.setCell ⟨w.heap.size + 1, 6, none⟩ (.slice A4 n4 c4)))).setCell (p := ⟨w.heap.size, 0, none⟩) rfl (.string nm)) (fun b hb => by have hb : w.heap.size + 2 ≤ b := hb; show b ≠ w.heap.size; omega)) (fun _ h _ => h))
    have HTt3_20 := Lib.hid (HTt3_18.out.keep (Only.kept9 ((Only.refl (r := w.heap.size) (w := (u17.setCell ⟨w.heap.size + 1, 6, none⟩ (.slice A4 n4 c4)))).setCell (p := ⟨w.heap.size, 0, none⟩) rfl (.string nm)) (fun b hb => by have hb : w.heap.size + 2 ≤ b := hb; show b ≠ w.heap.size; omega)) (fun _ h _ => h))
    have HTt4_20 := Lib.hid (HTt4_18.out.keep (Only.kept9 ((Only.refl (r := w.heap.size) (w := (u17.setCell ⟨w.heap.size + 1, 6, none⟩ (.slice A4 n4 c4)))).setCell (p := ⟨w.heap.size, 0, none⟩) rfl (.string nm)) (fun b hb => by have hb : w.heap.size + 2 ≤ b := hb; show b ≠ w.heap.size; omega)) (fun _ h _ => h))
    have c21 := HBr_20.out.cell 1
    have f21 := HBr_20.out.frozen 1
    have HO21 := Lib.hid (HO20.out.new (r := w.heap.size) (by have := HG.out; omega) 1 (.bool true))
    have HR21 := Lib.hid (HR20.out.set (r := w.heap.size) (by have := HG.out; omega) 1 (.bool true))
    have HBr_21 : Hid (Ob (((u17.setCell ⟨w.heap.size + 1, 6, none⟩ (.slice A4 n4 c4)).setCell ⟨w.heap.size, 0, none⟩ (.string nm)).setCell ⟨w.heap.size, 1, none⟩ (.bool true)) (w.heap.size) 28 #[.string nm, .bool true, .int .i64 0, .slice none 0 0, .slice none 0 0, .slice none 0 0, .slice none 0 0]) := Lib.hid (by have := HBr_20.out.put 1 (.bool true); simpa using this)
    have HBp_21 := Lib.hid (HBp_20.out.keep (Below.heap_setCell ((u17.setCell ⟨w.heap.size + 1, 6, none⟩ (.slice A4 n4 c4)).setCell ⟨w.heap.size, 0, none⟩ (.string nm)) ⟨w.heap.size, 1, none⟩ (.bool true) _ (by show w.heap.size + 1 ≠ w.heap.size; have := HG.out; omega)))
    have HTt1_21 := Lib.hid (HTt1_20.out.keep (Only.kept9 ((Only.refl (r := w.heap.size) (w := ((u17.setCell ⟨w.heap.size + 1, 6, none⟩ (.slice A4 n4 c4)).setCell ⟨w.heap.size, 0, none⟩ (.string nm)))).setCell (p := ⟨w.heap.size, 1, none⟩) rfl (.bool true)) (fun b hb => by have hb : w.heap.size + 2 ≤ b := hb; show b ≠ w.heap.size; omega)) (fun _ h _ => h))
    have HTt3_21 := Lib.hid (HTt3_20.out.keep (Only.kept9 ((Only.refl (r := w.heap.size) (w := ((u17.setCell ⟨w.heap.size + 1, 6, none⟩ (.slice A4 n4 c4)).setCell ⟨w.heap.size, 0, none⟩ (.string nm)))).setCell (p := ⟨w.heap.size, 1, none⟩) rfl (.bool true)) (fun b hb => by have hb : w.heap.size + 2 ≤ b := hb; show b ≠ w.heap.size; omega)) (fun _ h _ => h))
    have HTt4_21 := Lib.hid (HTt4_20.out.keep (Only.kept9 ((Only.refl (r := w.heap.size) (w := ((u17.setCell ⟨w.heap.size + 1, 6, none⟩ (.slice A4 n4 c4)).setCell ⟨w.heap.size, 0, none⟩ (.string nm)))).setCell (p := ⟨w.heap.size, 1, none⟩) rfl (.bool true)) (fun b hb => by have hb : w.heap.size + 2 ≤ b := hb; show b ≠ w.heap.size; omega)) (fun _ h _ => h))
    have c22 := HBr_21.out.cell 2
    have f22 := HBr_21.out.frozen 2
    have HO22 := Lib.hid (HO21.out.new (r := w.heap.size) (by have := HG.out; omega) 2 (.int .i64 (al : Int)))
    have HR22 := Lib.hid (HR21.out.set (r := w.heap.size) (by have := HG.out; omega) 2 (.int .i64 (al : Int)))
    have HBr_22 : Hid (Ob ((((u17.setCell ⟨w.heap.size + 1, 6, none⟩ (.slice A4 n4 c4)).setCell ⟨w.heap.size, 0, none⟩ (.string nm)).setCell ⟨w.heap.size, 1, none⟩ (.bool true)).setCell ⟨w.heap.size, 2, none⟩ (.int .i64 (al : Int))) (w.heap.size) 28 #[.string nm, .bool true, .int .i64 (al : Int), .slice none 0 0, .slice none 0 0, .slice none 0 0, .slice none 0 0]) := Lib.hid (by have := HBr_21.out.put 2 (.int .i64 (al : Int)); simpa using this)
    have HBp_22 := Lib.hid (HBp_21.out.keep (Below.heap_setCell (((u17.setCell ⟨w.heap.size + 1, 6, none⟩ (.slice A4 n4 c4)).setCell ⟨w.heap.size, 0, none⟩ (.string nm)).setCell ⟨w.heap.size, 1, none⟩ (.bool true)) ⟨w.heap.size, 2, none⟩ (.int .i64 (al : Int)) _ (by show w.heap.size + 1 ≠ w.heap.size; have := HG.out; omega)))
    have HTt1_22 := Lib.hid (HTt1_21.out.keep (Only.kept9 ((Only.refl (r := w.heap.size) (w := (((u17.setCell ⟨w.heap.size + 1, 6, none⟩ (.slice A4 n4 c4)).setCell ⟨w.heap.size, 0, none⟩ (.string nm)).setCell ⟨w.heap.size, 1, none⟩ (.bool true)))).setCell (p := ⟨w.heap.size, 2, none⟩) rfl (.int .i64 (al : Int))) (fun b hb => by have hb : w.heap.size + 2 ≤ b := hb; show b ≠ w.heap.size; omega)) (fun _ h _ => h))
    have HTt3_22 := Lib.hid (HTt3_21.out.keep (Only.kept9 ((Only.refl (r := w.heap.size) (w := (((u17.setCell ⟨w.heap.size + 1, 6, none⟩ (.slice A4 n4 c4)).setCell ⟨w.heap.size, 0, none⟩ (.string nm)).setCell ⟨w.heap.size, 1, none⟩ (.bool true)))).setCell (p := ⟨w.heap.size, 2, none⟩) rfl (.int .i64 (al : Int))) (fun b hb => by have hb : w.heap.size + 2 ≤ b := hb; show b ≠ w.heap.size; omega)) (fun _ h _ => h))
    have HTt4_22 := Lib.hid (HTt4_21.out.keep (Only.kept9 ((Only.refl (r := w.heap.size) (w := (((u17.setCell ⟨w.heap.size + 1, 6, none⟩ (.slice A4 n4 c4)).setCell ⟨w.heap.size, 0, none⟩ (.string nm)).setCell ⟨w.heap.size, 1, none⟩ (.bool true)))).setCell (p := ⟨w.heap.size, 2, none⟩) rfl (.int .i64 (al : Int))) (fun b hb => by have hb : w.heap.size + 2 ≤ b := hb; show b ≠ w.heap.size; omega)) (fun _ h _ => h))
    have c23 := HBr_22.out.cell 3
    have f23 := HBr_22.out.frozen 3
    have HO23 := Lib.hid (HO22.out.new (r := w.heap.size) (by have := HG.out; omega) 3 (.slice A1 n1 c1))
    have HR23 := Lib.hid (HR22.out.set (r := w.heap.size) (by have := HG.out; omega) 3 (.slice A1 n1 c1))
    have HBr_23 : Hid (Ob (((((u17.setCell ⟨w.heap.size + 1, 6, none⟩ (.slice A4 n4 c4)).setCell ⟨w.heap.size, 0, none⟩ (.string nm)).setCell ⟨w.heap.size, 1, none⟩ (.bool true)).setCell ⟨w.heap.size, 2, none⟩ (.int .i64 (al : Int))).setCell ⟨w.heap.size, 3, none⟩ (.slice A1 n1 c1)) (w.heap.size) 28 #[.string nm, .bool true, .int .i64 (al : Int), .slice A1 n1 c1, .slice none 0 0, .slice none 0 0, .slice none 0 0]) := Lib.hid (by have := HBr_22.out.put 3 (.slice A1 n1 c1); simpa using this)
    have HBp_23 := Lib.hid (HBp_22.out.keep (Below.heap_setCell ((((u17.setCell ⟨w.heap.size + 1, 6, none⟩ (.slice A4 n4 c4)).setCell ⟨w.heap.size, 0, none⟩ (.string nm)).setCell ⟨w.heap.size, 1, none⟩ (.bool true)).setCell ⟨w.heap.size, 2, none⟩ (.int .i64 (al : Int))) ⟨w.heap.size, 3, none⟩ (.slice A1 n1 c1) _ (by show w.heap.size + 1 ≠ w.heap.size; have := HG.out; omega)))
    have HTt1_23 := Lib.hid (HTt1_22.out.keep (Only.kept9 ((Only.refl (r := w.heap.size) (w := ((((u17.setCell ⟨w.heap.size + 1, 6, none⟩ (.slice A4 n4 c4)).setCell ⟨w.heap.size, 0, none⟩ (.string nm)).setCell ⟨w.heap.size, 1, none⟩ (.bool true)).setCell ⟨w.heap.size, 2, none⟩ (.int .i64 (al : Int))))).setCell (p := ⟨w.heap.size, 3, none⟩) rfl (.slice A1 n1 c1)) (fun b hb => by have hb : w.heap.size + 2 ≤ b := hb; show b ≠ w.heap.size; omega)) (fun _ h _ => h))
    have HTt3_23 := Lib.hid (HTt3_22.out.keep (Only.kept9 ((Only.refl (r := w.heap.size) (w := ((((u17.setCell ⟨w.heap.size + 1, 6, none⟩ (.slice A4 n4 c4)).setCell ⟨w.heap.size, 0, none⟩ (.string nm)).setCell ⟨w.heap.size, 1, none⟩ (.bool true)).setCell ⟨w.heap.size, 2, none⟩ (.int .i64 (al : Int))))).setCell (p := ⟨w.heap.size, 3, none⟩) rfl (.slice A1 n1 c1)) (fun b hb => by have hb : w.heap.size + 2 ≤ b := hb; show b ≠ w.heap.size; omega)) (fun _ h _ => h))
    have HTt4_23 := Lib.hid (HTt4_22.out.keep (Only.kept9 ((Only.refl (r := w.heap.size) (w := ((((u17.setCell ⟨w.heap.size + 1, 6, none⟩ (.slice A4 n4 c4)).setCell ⟨w.heap.size, 0, none⟩ (.string nm)).setCell ⟨w.heap.size, 1, none⟩ (.bool true)).setCell ⟨w.heap.size, 2, none⟩ (.int .i64 (al : Int))))).setCell (p := ⟨w.heap.size, 3, none⟩) rfl (.slice A1 n1 c1)) (fun b hb => by have hb : w.heap.size + 2 ≤ b := hb; show b ≠ w.heap.size; omega)) (fun _ h _ => h))
    have c24 := HBr_23.out.cell 4
    have f24 := HBr_23.out.frozen 4
    have HO24 := Lib.hid (HO23.out.new (r := w.heap.size) (by have := HG.out; omega) 4 (.slice none 0 0))
    have HR24 := Lib.hid (HR23.out.set (r := w.heap.size) (by have := HG.out; omega) 4 (.slice none 0 0))
    have HBr_24 : Hid (Ob ((((((u17.setCell ⟨w.heap.size + 1, 6, none⟩ (.slice A4 n4 c4)).setCell ⟨w.heap.size, 0, none⟩ (.string nm)).setCell ⟨w.heap.size, 1, none⟩ (.bool true)).setCell ⟨w.heap.size, 2, none⟩ (.int .i64 (al : Int))).setCell ⟨w.heap.size, 3, none⟩ (.slice A1 n1 c1)).setCell ⟨w.heap.size, 4, none⟩ (.slice none 0 0)) (w.heap.size) 28 #[.string nm, .bool true, .int .i64 (al : Int), .slice A1 n1 c1, .slice none 0 0, .slice none 0 0, .slice none 0 0]) := Lib.hid (by have := HBr_23.out.put 4 (.slice none 0 0); simpa using this)
    have HBp_24 := Lib.hid (HBp_23.out.keep (Below.heap_setCell (((((u17.setCell ⟨w.heap.size + 1, 6, none⟩ (.slice A4 n4 c4)).setCell ⟨w.heap.size, 0, none⟩ (.string nm)).setCell ⟨w.heap.size, 1, none⟩ (.bool true)).setCell ⟨w.heap.size, 2, none⟩ (.int .i64 (al : Int))).setCell ⟨w.heap.size, 3, none⟩ (.slice A1 n1 c1)) ⟨w.heap.size, 4, none⟩ (.slice none 0 0) _ (by show w.heap.size + 1 ≠ w.heap.size; have := HG.out; omega)))
    have HTt1_24 := Lib.hid (HTt1_23.out.keep (Only.kept9 ((Only.refl (r := w.heap.size) (w := (((((u17.setCell ⟨w.heap.size + 1, 6, none⟩ (.slice A4 n4 c4)).setCell ⟨w.heap.size, 0, none⟩ (.string nm)).setCell ⟨w.heap.size, 1, none⟩ (.bool true)).setCell ⟨w.heap.size, 2, none⟩ (.int .i64 (al : Int))).setCell ⟨w.heap.size, 3, none⟩ (.slice A1 n1 c1)))).setCell (p := ⟨w.heap.size, 4, none⟩) rfl (.slice none 0 0)) (fun b hb => by have hb : w.heap.size + 2 ≤ b := hb; show b ≠ w.heap.size; omega)) (fun _ h _ => h))
    have HTt3_24 := Lib.hid (HTt3_23.out.keep (Only.kept9 ((Only.refl (r := w.heap.size) (w := (((((u17.setCell ⟨w.heap.size + 1, 6, none⟩ (.slice A4 n4 c4)).setCell ⟨w.heap.size, 0, none⟩ (.string nm)).setCell ⟨w.heap.size, 1, none⟩ (.bool true)).setCell ⟨w.heap.size, 2, none⟩ (.int .i64 (al : Int))).setCell ⟨w.heap.size, 3, none⟩ (.slice A1 n1 c1)))).setCell (p := ⟨w.heap.size, 4, none⟩) rfl (.slice none 0 0)) (fun b hb => by have hb : w.heap.size + 2 ≤ b := hb; show b ≠ w.heap.size; omega)) (fun _ h _ => h))
    have HTt4_24 := Lib.hid (HTt4_23.out.keep (Only.kept9 ((Only.refl (r := w.heap.size) (w := (((((u17.setCell ⟨w.heap.size + 1, 6, none⟩ (.slice A4 n4 c4)).setCell ⟨w.heap.size, 0, none⟩ (.string nm)).setCell ⟨w.heap.size, 1, none⟩ (.bool true)).setCell ⟨w.heap.size, 2, none⟩ (.int .i64 (al : Int))).setCell ⟨w.heap.size, 3, none⟩ (.slice A1 n1 c1)))).setCell (p := ⟨w.heap.size, 4, none⟩) rfl (.slice none 0 0)) (fun b hb => by have hb : w.heap.size + 2 ≤ b := hb; show b ≠ w.heap.size; omega)) (fun _ h _ => h))
    have c25 := HBr_24.out.cell 5
    have f25 := HBr_24.out.frozen 5
    have HO25 := Lib.hid (HO24.out.new (r := w.heap.size) (by have := HG.out; omega) 5 (.slice A3 n3 c3))
    have HR25 := Lib.hid (HR24.out.set (r := w.heap.size) (by have := HG.out; omega) 5 (.slice A3 n3 c3))
    have HBr_25 : Hid (Ob (((((((u17.setCell ⟨w.heap.size + 1, 6, none⟩ (.slice A4 n4 c4)).setCell ⟨w.heap.size, 0, none⟩ (.string nm)).setCell ⟨w.heap.size, 1, none⟩ (.bool true)).setCell ⟨w.heap.size, 2, none⟩ (.int .i64 (al : Int))).setCell ⟨w.heap.size, 3, none⟩ (.slice A1 n1 c1)).setCell ⟨w.heap.size, 4, none⟩ (.slice none 0 0)).setCell ⟨w.heap.size, 5, none⟩ (.slice A3 n3 c3)) (w.heap.size) 28 #[.string nm, .bool true, .int .i64 (al : Int), .slice A1 n1 c1, .slice none 0 0, .slice A3 n3 c3, .slice none 0 0]) := Lib.hid (by have := HBr_24.out.put 5 (.slice A3 n3 c3); simpa using this)
    have HBp_25 := Lib.hid (HBp_24.out.keep (Below.heap_setCell ((((((u17.setCell ⟨w.heap.size + 1, 6, none⟩ (.slice A4 n4 c4)).setCell ⟨w.heap.size, 0, none⟩ (.string nm)).setCell ⟨w.heap.size, 1, none⟩ (.bool true)).setCell ⟨w.heap.size, 2, none⟩ (.int .i64 (al : Int))).setCell ⟨w.heap.size, 3, none⟩ (.slice A1 n1 c1)).setCell ⟨w.heap.size, 4, none⟩ (.slice none 0 0)) ⟨w.heap.size, 5, none⟩ (.slice A3 n3 c3) _ (by show w.heap.size + 1 ≠ w.heap.size; have := HG.out; omega)))
    have HTt1_25 := Lib.hid (HTt1_24.out.keep (Only.kept9 ((Only.refl (r := w.heap.size) (w := ((((((u17.setCell ⟨w.heap.size + 1, 6, none⟩ (.slice A4 n4 c4)).setCell ⟨w.heap.size, 0, none⟩ (.string nm)).setCell ⟨w.heap.size, 1, none⟩ (.bool true)).setCell ⟨w.heap.size, 2, none⟩ (.int .i64 (al : Int))).setCell ⟨w.heap.size, 3, none⟩ (.slice A1 n1 c1)).setCell ⟨w.heap.size, 4, none⟩ (.slice none 0 0)))).setCell (p := ⟨w.heap.size, 5, none⟩) rfl (.slice A3 n3 c3)) (fun b hb => by have hb : w.heap.size + 2 ≤ b := hb; show b ≠ w.heap.size; omega)) (fun _ h _ => h))
    have HTt3_25 := Lib.hid (HTt3_24.out.keep (Only.kept9 ((Only.refl (r := w.heap.size) (w := ((((((u17.setCell ⟨w.heap.size + 1, 6, none⟩ (.slice A4 n4 c4)).setCell ⟨w.heap.size, 0, none⟩ (.string nm)).setCell ⟨w.heap.size, 1, none⟩ (.bool true)).setCell ⟨w.heap.size, 2, none⟩ (.int .i64 (al : Int))).setCell ⟨w.heap.size, 3, none⟩ (.slice A1 n1 c1)).setCell ⟨w.heap.size, 4, none⟩ (.slice none 0 0)))).setCell (p := ⟨w.heap.size, 5, none⟩) rfl (.slice A3 n3 c3)) (fun b hb => by have hb : w.heap.size + 2 ≤ b := hb; show b ≠ w.heap.size; omega)) (fun _ h _ => h))
    have HTt4_25 := Lib.hid (HTt4_24.out.keep (Only.kept9 ((Only.refl (r := w.heap.size) (w := ((((((u17.setCell ⟨w.heap.size + 1, 6, none⟩ (.slice A4 n4 c4)).setCell ⟨w.heap.size, 0, none⟩ (.string nm)).setCell ⟨w.heap.size, 1, none⟩ (.bool true)).setCell ⟨w.heap.size, 2, none⟩ (.int .i64 (al : Int))).setCell ⟨w.heap.size, 3, none⟩ (.slice A1 n1 c1)).setCell ⟨w.heap.size, 4, none⟩ (.slice none 0 0)))).setCell (p := ⟨w.heap.size, 5, none⟩) rfl (.slice A3 n3 c3)) (fun b hb => by have hb : w.heap.size + 2 ≤ b := hb; show b ≠ w.heap.size; omega)) (fun _ h _ => h))
    have c26 := HBr_25.out.cell 6
    have f26 := HBr_25.out.frozen 6
    have HO26 := Lib.hid (HO25.out.new (r := w.heap.size) (by have := HG.out; omega) 6 (.slice A4 n4 c4))
    have HR26 := Lib.hid (HR25.out.set (r := w.heap.size) (by have := HG.out; omega) 6 (.slice A4 n4 c4))
    have HBr_26 : Hid (Ob ((((((((u17.setCell ⟨w.heap.size + 1, 6, none⟩ (.slice A4 n4 c4)).setCell ⟨w.heap.size, 0, none⟩ (.string nm)).setCell ⟨w.heap.size, 1, none⟩ (.bool true)).setCell ⟨w.heap.size, 2, none⟩ (.int .i64 (al : Int))).setCell ⟨w.heap.size, 3, none⟩ (.slice A1 n1 c1)).setCell ⟨w.heap.size, 4, none⟩ (.slice none 0 0)).setCell ⟨w.heap.size, 5, none⟩ (.slice A3 n3 c3)).setCell ⟨w.heap.size, 6, none⟩ (.slice A4 n4 c4)) (w.heap.size) 28 #[.string nm, .bool true, .int .i64 (al : Int), .slice A1 n1 c1, .slice none 0 0, .slice A3 n3 c3, .slice A4 n4 c4]) := Lib.hid (by have := HBr_25.out.put 6 (.slice A4 n4 c4); simpa using this)
    have HBp_26 := Lib.hid (HBp_25.out.keep (Below.heap_setCell (((((((u17.setCell ⟨w.heap.size + 1, 6, none⟩ (.slice A4 n4 c4)).setCell ⟨w.heap.size, 0, none⟩ (.string nm)).setCell ⟨w.heap.size, 1, none⟩ (.bool true)).setCell ⟨w.heap.size, 2, none⟩ (.int .i64 (al : Int))).setCell ⟨w.heap.size, 3, none⟩ (.slice A1 n1 c1)).setCell ⟨w.heap.size, 4, none⟩ (.slice none 0 0)).setCell ⟨w.heap.size, 5, none⟩ (.slice A3 n3 c3)) ⟨w.heap.size, 6, none⟩ (.slice A4 n4 c4) _ (by show w.heap.size + 1 ≠ w.heap.size; have := HG.out; omega)))
    have HTt1_26 := Lib.hid (HTt1_25.out.keep (Only.kept9 ((Only.refl (r := w.heap.size) (w := (((((((u17.setCell ⟨w.heap.size + 1, 6, none⟩ (.slice A4 n4 c4)).setCell ⟨w.heap.size, 0, none⟩ (.string nm)).setCell ⟨w.heap.size, 1, none⟩ (.bool true)).setCell ⟨w.heap.size, 2, none⟩ (.int .i64 (al : Int))).setCell ⟨w.heap.size, 3, none⟩ (.slice A1 n1 c1)).setCell ⟨w.heap.size, 4, none⟩ (.slice none 0 0)).setCell ⟨w.heap.size, 5, none⟩ (.slice A3 n3 c3)))).setCell (p := ⟨w.heap.size, 6, none⟩) rfl (.slice A4 n4 c4)) (fun b hb => by have hb : w.heap.size + 2 ≤ b := hb; show b ≠ w.heap.size; omega)) (fun _ h _ => h))
    have HTt3_26 := Lib.hid (HTt3_25.out.keep (Only.kept9 ((Only.refl (r := w.heap.size) (w := (((((((u17.setCell ⟨w.heap.size + 1, 6, none⟩ (.slice A4 n4 c4)).setCell ⟨w.heap.size, 0, none⟩ (.string nm)).setCell ⟨w.heap.size, 1, none⟩ (.bool true)).setCell ⟨w.heap.size, 2, none⟩ (.int .i64 (al : Int))).setCell ⟨w.heap.size, 3, none⟩ (.slice A1 n1 c1)).setCell ⟨w.heap.size, 4, none⟩ (.slice none 0 0)).setCell ⟨w.heap.size, 5, none⟩ (.slice A3 n3 c3)))).setCell (p := ⟨w.heap.size, 6, none⟩) rfl (.slice A4 n4 c4)) (fun b hb => by have hb : w.heap.size + 2 ≤ b := hb; show b ≠ w.heap.size; omega)) (fun _ h _ => h))
    have HTt4_26 := Lib.hid (HTt4_25.out.keep (Only.kept9 ((Only.refl (r := w.heap.size) (w := (((((((u17.setCell ⟨w.heap.size + 1, 6, none⟩ (.slice A4 n4 c4)).setCell ⟨w.heap.size, 0, none⟩ (.string nm)).setCell ⟨w.heap.size, 1, none⟩ (.bool true)).setCell ⟨w.heap.size, 2, none⟩ (.int .i64 (al : Int))).setCell ⟨w.heap.size, 3, none⟩ (.slice A1 n1 c1)).setCell ⟨w.heap.size, 4, none⟩ (.slice none 0 0)).setCell ⟨w.heap.size, 5, none⟩ (.slice A3 n3 c3)))).setCell (p := ⟨w.heap.size, 6, none⟩) rfl (.slice A4 n4 c4)) (fun b hb => by have hb : w.heap.size + 2 ≤ b := hb; show b ≠ w.heap.size; omega)) (fun _ h _ => h))
    go_wp2_with fail
    refine bodyPost_ret (policy_ret rfl rfl HBr_26.out rfl) rfl ?_
    rw [HIN.out.1]
    exact ⟨_, rfl, HO26.out, HR26.out, A1, n1, c1, none, 0, 0, A3, n3, c3, A4, n4, c4, rfl, A1, n1, c1, none, 0, 0, A3, n3, c3, A4, n4, c4, rfl, HNM.out, HAL.out, HTt1_26.out.keep (Kept.refl _ _) (fun b hb _ => by have hb : w.heap.size + 2 ≤ b := hb; show w.heap.size ≤ b; omega), Rw.nil_ _ _ _ _, Pls.keep HTt3_26.out (Kept.refl _ _) (fun b hb _ => by have hb : w.heap.size + 2 ≤ b := hb; show w.heap.size ≤ b; omega), HTt4_26.out.keep (Kept.refl _ _) (fun b hb _ => by have hb : w.heap.size + 2 ≤ b := hb; show w.heap.size ≤ b; omega)⟩
  · have HIN : Hid (rr = (rulesR s5.rest.length [] s5).1 ∧ kk = [] ∧ s6 = (rulesR s5.rest.length [] s5).2) := by
      show _ ∧ _ ∧ _
      unfold inR at e6
      rw [if_neg hi] at e6
      injection e6 with x1 x2
      injection x2 with x2 x3
      exact ⟨x1.symm, x2.symm, x3.symm⟩
    have hqi : decide (i = 2) = false := decide_eq_false hi
    rw [hqi] at hq
    have E0 : Hid (mostR dd 4 s = s0) := by rw [hdd]; exact Lib.hid e0
    have E1 := Lib.hid e1
    have E2 := Lib.hid e2
    have E3 := Lib.hid e3
    have E4 := Lib.hid e4
    have E5 := Lib.hid e5
    have E7 := Lib.hid e7
    have E8 := Lib.hid e8
    have HG : Hid (g < w.heap.size) := h.lt
    have HBr_1 : Hid (Ob (w.alloc (.cells #[.string ⟨#[]⟩, .bool false, .int .i64 0, .slice none 0 0, .slice none 0 0, .slice none 0 0, .slice none 0 0] 28)) (w.heap.size) 28 #[.string ⟨#[]⟩, .bool false, .int .i64 0, .slice none 0 0, .slice none 0 0, .slice none 0 0, .slice none 0 0]) := Lib.hid (by have := Ob.made w 28 #[.string ⟨#[]⟩, .bool false, .int .i64 0, .slice none 0 0, .slice none 0 0, .slice none 0 0, .slice none 0 0]; simpa using this)
    have HBr_2 := Lib.hid (HBr_1.out.keep (Below.heap_alloc (w.alloc (.cells #[.string ⟨#[]⟩, .bool false, .int .i64 0, .slice none 0 0, .slice none 0 0, .slice none 0 0, .slice none 0 0] 28)) (.cells #[.string ⟨#[]⟩, .bool false, .int .i64 0, .slice none 0 0, .slice none 0 0, .slice none 0 0, .slice none 0 0] 28) _ HBr_1.out.lt))
    have HBp_2 : Hid (Ob ((w.alloc (.cells #[.string ⟨#[]⟩, .bool false, .int .i64 0, .slice none 0 0, .slice none 0 0, .slice none 0 0, .slice none 0 0] 28)).alloc (.cells #[.string ⟨#[]⟩, .bool false, .int .i64 0, .slice none 0 0, .slice none 0 0, .slice none 0 0, .slice none 0 0] 28)) (w.heap.size + 1) 28 #[.string ⟨#[]⟩, .bool false, .int .i64 0, .slice none 0 0, .slice none 0 0, .slice none 0 0, .slice none 0 0]) := Lib.hid (by have := Ob.made (w.alloc (.cells #[.string ⟨#[]⟩, .bool false, .int .i64 0, .slice none 0 0, .slice none 0 0, .slice none 0 0, .slice none 0 0] 28)) 28 #[.string ⟨#[]⟩, .bool false, .int .i64 0, .slice none 0 0, .slice none 0 0, .slice none 0 0, .slice none 0 0]; simpa using this)
    have HR0 := Lib.hid ((h.alloc (.cells #[.string ⟨#[]⟩, .bool false, .int .i64 0, .slice none 0 0, .slice none 0 0, .slice none 0 0, .slice none 0 0] 28)).alloc (.cells #[.string ⟨#[]⟩, .bool false, .int .i64 0, .slice none 0 0, .slice none 0 0, .slice none 0 0, .slice none 0 0] 28))
    have HO0 := Lib.hid (((Only.refl (r := g) (w := w)).al (.cells #[.string ⟨#[]⟩, .bool false, .int .i64 0, .slice none 0 0, .slice none 0 0, .slice none 0 0, .slice none 0 0] 28)).al (.cells #[.string ⟨#[]⟩, .bool false, .int .i64 0, .slice none 0 0, .slice none 0 0, .slice none 0 0, .slice none 0 0] 28))
    clear h hsum e0 e1 e2 e3 e4 e5 e6 e7 e8 ih HI0 hf4 hdd hi
    go_enter Tryz.func41, Tryz.ntmps41
    go_wp2_with fail
    go_at_call 77
    refine (pmost_any HR0.out dd 4).mono ?_
    rintro x u3 ⟨rfl, ho, hr⟩
    rw [E0.out] at hr
    have HO3 := Lib.hid (HO0.out.trans ho)
    have HR3 := Lib.hid hr
    have HBr_3 := Lib.hid (HBr_2.out.keep (ho.heap HBr_2.out.lt (by have := HG.out; omega)))
    have HBp_3 := Lib.hid (HBp_2.out.keep (ho.heap HBp_2.out.lt (by have := HG.out; omega)))
    clear ho hr
    go_wp2_with fail
    go_at_call 78
    refine (pmust_lit HR3.out [w_policy, w_set] #[.string ⟨#[112, 111, 108, 105, 99, 121]⟩, .string ⟨#[115, 101, 116]⟩] 2 rfl rfl (by omega) (by first | rfl | (simp; done) | (simp [World.setCell]; done))).mono ?_
    rintro x u4 ⟨hx, ho, hr⟩
    obtain rfl : x = .returned (.int .i64 (i : Int)) := by rw [hx, E1.out] <;> rfl
    rw [E1.out] at hr
    clear hx
    have HO4 := Lib.hid (HO3.out.trans ho)
    have HR4 := Lib.hid hr
    have HBr_4 := Lib.hid (HBr_3.out.keep (ho.heap HBr_3.out.lt (by have := HG.out; omega)))
    have HBp_4 := Lib.hid (HBp_3.out.keep (ho.heap HBp_3.out.lt (by have := HG.out; omega)))
    clear ho hr
    have c5 := HBp_4.out.cell 1
    have f5 := HBp_4.out.frozen 1
    have HO5 := Lib.hid (HO4.out.new (r := w.heap.size + 1) (by have := HG.out; omega) 1 (.bool false))
    have HR5 := Lib.hid (HR4.out.set (r := w.heap.size + 1) (by have := HG.out; omega) 1 (.bool false))
    have HBr_5 := Lib.hid (HBr_4.out.keep (Below.heap_setCell u4 ⟨w.heap.size + 1, 1, none⟩ (.bool false) _ (by show w.heap.size ≠ w.heap.size + 1; have := HG.out; omega)))
    have HBp_5 : Hid (Ob (u4.setCell ⟨w.heap.size + 1, 1, none⟩ (.bool false)) (w.heap.size + 1) 28 #[.string ⟨#[]⟩, .bool false, .int .i64 0, .slice none 0 0, .slice none 0 0, .slice none 0 0, .slice none 0 0]) := Lib.hid (by have := HBp_4.out.put 1 (.bool false); simpa using this)
    go_wp2_with fail
    go_at_call 79
    refine (pname_any HR5.out).mono ?_
    rintro x u6 ⟨hx, ho, hr⟩
    obtain rfl : x = .returned (.string nm) := by rw [hx, E2.out] <;> rfl
    rw [E2.out] at hr
    clear hx
    have HO6 := Lib.hid (HO5.out.trans ho)
    have HR6 := Lib.hid hr
    have HBr_6 := Lib.hid (HBr_5.out.keep (ho.heap HBr_5.out.lt (by have := HG.out; omega)))
    have HBp_6 := Lib.hid (HBp_5.out.keep (ho.heap HBp_5.out.lt (by have := HG.out; omega)))
    clear ho hr
    have c7 := HBp_6.out.cell 0
    have f7 := HBp_6.out.frozen 0
    have HO7 := Lib.hid (HO6.out.new (r := w.heap.size + 1) (by have := HG.out; omega) 0 (.string nm))
    have HR7 := Lib.hid (HR6.out.set (r := w.heap.size + 1) (by have := HG.out; omega) 0 (.string nm))
    have HBr_7 := Lib.hid (HBr_6.out.keep (Below.heap_setCell u6 ⟨w.heap.size + 1, 0, none⟩ (.string nm) _ (by show w.heap.size ≠ w.heap.size + 1; have := HG.out; omega)))
    have HBp_7 : Hid (Ob (u6.setCell ⟨w.heap.size + 1, 0, none⟩ (.string nm)) (w.heap.size + 1) 28 #[.string nm, .bool false, .int .i64 0, .slice none 0 0, .slice none 0 0, .slice none 0 0, .slice none 0 0]) := Lib.hid (by have := HBp_6.out.put 0 (.string nm); simpa using this)
    go_wp2_with fail
    go_at_call 78
    refine (pmust_lit HR7.out [w_denyover, w_permitover, w_first, w_only, w_denyunless, w_permitunless] #[.string ⟨#[100, 101, 110, 121, 111, 118, 101, 114]⟩, .string ⟨#[112, 101, 114, 109, 105, 116, 111, 118, 101, 114]⟩, .string ⟨#[102, 105, 114, 115, 116]⟩, .string ⟨#[111, 110, 108, 121]⟩, .string ⟨#[100, 101, 110, 121, 117, 110, 108, 101, 115, 115]⟩, .string ⟨#[112, 101, 114, 109, 105, 116, 117, 110, 108, 101, 115, 115]⟩] 6 rfl rfl (by omega) (by first | rfl | (simp; done) | (simp [World.setCell]; done))).mono ?_
    rintro x u8 ⟨hx, ho, hr⟩
    obtain rfl : x = .returned (.int .i64 (al : Int)) := by rw [hx, E3.out] <;> rfl
    rw [E3.out] at hr
    clear hx
    have HO8 := Lib.hid (HO7.out.trans ho)
    have HR8 := Lib.hid hr
    have HBr_8 := Lib.hid (HBr_7.out.keep (ho.heap HBr_7.out.lt (by have := HG.out; omega)))
    have HBp_8 := Lib.hid (HBp_7.out.keep (ho.heap HBp_7.out.lt (by have := HG.out; omega)))
    clear ho hr
    have c9 := HBp_8.out.cell 2
    have f9 := HBp_8.out.frozen 2
    have HO9 := Lib.hid (HO8.out.new (r := w.heap.size + 1) (by have := HG.out; omega) 2 (.int .i64 (al : Int)))
    have HR9 := Lib.hid (HR8.out.set (r := w.heap.size + 1) (by have := HG.out; omega) 2 (.int .i64 (al : Int)))
    have HBr_9 := Lib.hid (HBr_8.out.keep (Below.heap_setCell u8 ⟨w.heap.size + 1, 2, none⟩ (.int .i64 (al : Int)) _ (by show w.heap.size ≠ w.heap.size + 1; have := HG.out; omega)))
    have HBp_9 : Hid (Ob (u8.setCell ⟨w.heap.size + 1, 2, none⟩ (.int .i64 (al : Int))) (w.heap.size + 1) 28 #[.string nm, .bool false, .int .i64 (al : Int), .slice none 0 0, .slice none 0 0, .slice none 0 0, .slice none 0 0]) := Lib.hid (by have := HBp_8.out.put 2 (.int .i64 (al : Int)); simpa using this)
    go_wp2_with fail
    go_at_call 80
    refine (ptarget_any HR9.out).mono ?_
    rintro x u10 ⟨A1, n1, c1, rfl, ho, hr, ht1⟩
    rw [E4.out] at hr ht1
    have HO10 := Lib.hid (HO9.out.trans ho)
    have HR10 := Lib.hid hr
    have HBr_10 := Lib.hid (HBr_9.out.keep (ho.heap HBr_9.out.lt (by have := HG.out; omega)))
    have HBp_10 := Lib.hid (HBp_9.out.keep (ho.heap HBp_9.out.lt (by have := HG.out; omega)))
    have HTt1_10 := Lib.hid (ht1.keep (Kept.refl _ _) (R' := fun b => w.heap.size + 2 ≤ b) (fun b hb _ => by have hb : ((u8.setCell ⟨w.heap.size + 1, 2, none⟩ (.int .i64 (al : Int)))).heap.size ≤ b := hb; have := HBp_9.out.lt; show w.heap.size + 2 ≤ b; omega))
    clear ho hr ht1
    have c11 := HBp_10.out.cell 3
    have f11 := HBp_10.out.frozen 3
    have HO11 := Lib.hid (HO10.out.new (r := w.heap.size + 1) (by have := HG.out; omega) 3 (.slice A1 n1 c1))
    have HR11 := Lib.hid (HR10.out.set (r := w.heap.size + 1) (by have := HG.out; omega) 3 (.slice A1 n1 c1))
    have HBr_11 := Lib.hid (HBr_10.out.keep (Below.heap_setCell u10 ⟨w.heap.size + 1, 3, none⟩ (.slice A1 n1 c1) _ (by show w.heap.size ≠ w.heap.size + 1; have := HG.out; omega)))
    have HBp_11 : Hid (Ob (u10.setCell ⟨w.heap.size + 1, 3, none⟩ (.slice A1 n1 c1)) (w.heap.size + 1) 28 #[.string nm, .bool false, .int .i64 (al : Int), .slice A1 n1 c1, .slice none 0 0, .slice none 0 0, .slice none 0 0]) := Lib.hid (by have := HBp_10.out.put 3 (.slice A1 n1 c1); simpa using this)
    have HTt1_11 := Lib.hid (HTt1_10.out.keep (Only.kept9 ((Only.refl (r := w.heap.size + 1) (w := u10)).setCell (p := ⟨w.heap.size + 1, 3, none⟩) rfl (.slice A1 n1 c1)) (fun b hb => by have hb : w.heap.size + 2 ≤ b := hb; show b ≠ w.heap.size + 1; omega)) (fun _ h _ => h))
    go_wp2_with fail
    go_at_call 78
    refine (pmust_lit HR11.out [m_lb] #[.string ⟨#[123]⟩] 1 rfl rfl (by omega) (by first | rfl | (simp; done) | (simp [World.setCell]; done))).mono ?_
    rintro x u12 ⟨rfl, ho, hr⟩
    rw [E5.out] at hr
    have HO12 := Lib.hid (HO11.out.trans ho)
    have HR12 := Lib.hid hr
    have HBr_12 := Lib.hid (HBr_11.out.keep (ho.heap HBr_11.out.lt (by have := HG.out; omega)))
    have HBp_12 := Lib.hid (HBp_11.out.keep (ho.heap HBp_11.out.lt (by have := HG.out; omega)))
    have HTt1_12 := Lib.hid (HTt1_11.out.keep (ho.kept9 (fun b hb => by have := HG.out; have hb : w.heap.size + 2 ≤ b := hb; show b ≠ g; omega)) (fun _ h _ => h))
    clear ho hr
    have c13_1 := HBp_12.out.cell 1
    go_wp2_with fail
    go_at_call 82
    refine (prules_any HR12.out HSM.out).mono ?_
    rintro x u14 ⟨A3, n3, c3, rfl, ho, hr, ht3⟩
    rw [← HIN.out.2.2] at hr
    rw [← HIN.out.1] at ht3
    have HO14 := Lib.hid (HO12.out.trans ho)
    have HR14 := Lib.hid hr
    have HBr_14 := Lib.hid (HBr_12.out.keep (ho.heap HBr_12.out.lt (by have := HG.out; omega)))
    have HBp_14 := Lib.hid (HBp_12.out.keep (ho.heap HBp_12.out.lt (by have := HG.out; omega)))
    have HTt1_14 := Lib.hid (HTt1_12.out.keep (ho.kept9 (fun b hb => by have := HG.out; have hb : w.heap.size + 2 ≤ b := hb; show b ≠ g; omega)) (fun _ h _ => h))
    have HTt3_14 := Lib.hid (ht3.keep (Kept.refl _ _) (R' := fun b => w.heap.size + 2 ≤ b) (fun b hb _ => by have hb : (u12).heap.size ≤ b := hb; have := HBp_12.out.lt; show w.heap.size + 2 ≤ b; omega))
    clear ho hr ht3
    have c15 := HBp_14.out.cell 4
    have f15 := HBp_14.out.frozen 4
    have HO15 := Lib.hid (HO14.out.new (r := w.heap.size + 1) (by have := HG.out; omega) 4 (.slice A3 n3 c3))
    have HR15 := Lib.hid (HR14.out.set (r := w.heap.size + 1) (by have := HG.out; omega) 4 (.slice A3 n3 c3))
    have HBr_15 := Lib.hid (HBr_14.out.keep (Below.heap_setCell u14 ⟨w.heap.size + 1, 4, none⟩ (.slice A3 n3 c3) _ (by show w.heap.size ≠ w.heap.size + 1; have := HG.out; omega)))
    have HBp_15 : Hid (Ob (u14.setCell ⟨w.heap.size + 1, 4, none⟩ (.slice A3 n3 c3)) (w.heap.size + 1) 28 #[.string nm, .bool false, .int .i64 (al : Int), .slice A1 n1 c1, .slice A3 n3 c3, .slice none 0 0, .slice none 0 0]) := Lib.hid (by have := HBp_14.out.put 4 (.slice A3 n3 c3); simpa using this)
    have HTt1_15 := Lib.hid (HTt1_14.out.keep (Only.kept9 ((Only.refl (r := w.heap.size + 1) (w := u14)).setCell (p := ⟨w.heap.size + 1, 4, none⟩) rfl (.slice A3 n3 c3)) (fun b hb => by have hb : w.heap.size + 2 ≤ b := hb; show b ≠ w.heap.size + 1; omega)) (fun _ h _ => h))
    have HTt3_15 := Lib.hid (HTt3_14.out.keep (Only.kept9 ((Only.refl (r := w.heap.size + 1) (w := u14)).setCell (p := ⟨w.heap.size + 1, 4, none⟩) rfl (.slice A3 n3 c3)) (fun b hb => by have hb : w.heap.size + 2 ≤ b := hb; show b ≠ w.heap.size + 1; omega)) (fun _ h _ => h))
    go_wp2_with fail
    go_at_call 78
    refine (pmust_lit HR15.out [m_rb] #[.string ⟨#[125]⟩] 1 rfl rfl (by omega) (by first | rfl | (simp; done) | (simp [World.setCell]; done))).mono ?_
    rintro x u16 ⟨rfl, ho, hr⟩
    rw [E7.out] at hr
    have HO16 := Lib.hid (HO15.out.trans ho)
    have HR16 := Lib.hid hr
    have HBr_16 := Lib.hid (HBr_15.out.keep (ho.heap HBr_15.out.lt (by have := HG.out; omega)))
    have HBp_16 := Lib.hid (HBp_15.out.keep (ho.heap HBp_15.out.lt (by have := HG.out; omega)))
    have HTt1_16 := Lib.hid (HTt1_15.out.keep (ho.kept9 (fun b hb => by have := HG.out; have hb : w.heap.size + 2 ≤ b := hb; show b ≠ g; omega)) (fun _ h _ => h))
    have HTt3_16 := Lib.hid (HTt3_15.out.keep (ho.kept9 (fun b hb => by have := HG.out; have hb : w.heap.size + 2 ≤ b := hb; show b ≠ g; omega)) (fun _ h _ => h))
    clear ho hr
    go_wp2_with fail
    go_at_call 83
    refine (pduts_any HR16.out).mono ?_
    rintro x u17 ⟨A4, n4, c4, rfl, ho, hr, ht4⟩
    rw [E8.out] at hr ht4
    have HO17 := Lib.hid (HO16.out.trans ho)
    have HR17 := Lib.hid hr
    have HBr_17 := Lib.hid (HBr_16.out.keep (ho.heap HBr_16.out.lt (by have := HG.out; omega)))
    have HBp_17 := Lib.hid (HBp_16.out.keep (ho.heap HBp_16.out.lt (by have := HG.out; omega)))
    have HTt1_17 := Lib.hid (HTt1_16.out.keep (ho.kept9 (fun b hb => by have := HG.out; have hb : w.heap.size + 2 ≤ b := hb; show b ≠ g; omega)) (fun _ h _ => h))
    have HTt3_17 := Lib.hid (HTt3_16.out.keep (ho.kept9 (fun b hb => by have := HG.out; have hb : w.heap.size + 2 ≤ b := hb; show b ≠ g; omega)) (fun _ h _ => h))
    have HTt4_17 := Lib.hid (ht4.keep (Kept.refl _ _) (R' := fun b => w.heap.size + 2 ≤ b) (fun b hb _ => by have hb : (u16).heap.size ≤ b := hb; have := HBp_16.out.lt; show w.heap.size + 2 ≤ b; omega))
    clear ho hr ht4
    have c18 := HBp_17.out.cell 6
    have f18 := HBp_17.out.frozen 6
    have HO18 := Lib.hid (HO17.out.new (r := w.heap.size + 1) (by have := HG.out; omega) 6 (.slice A4 n4 c4))
    have HR18 := Lib.hid (HR17.out.set (r := w.heap.size + 1) (by have := HG.out; omega) 6 (.slice A4 n4 c4))
    have HBr_18 := Lib.hid (HBr_17.out.keep (Below.heap_setCell u17 ⟨w.heap.size + 1, 6, none⟩ (.slice A4 n4 c4) _ (by show w.heap.size ≠ w.heap.size + 1; have := HG.out; omega)))
    have HBp_18 : Hid (Ob (u17.setCell ⟨w.heap.size + 1, 6, none⟩ (.slice A4 n4 c4)) (w.heap.size + 1) 28 #[.string nm, .bool false, .int .i64 (al : Int), .slice A1 n1 c1, .slice A3 n3 c3, .slice none 0 0, .slice A4 n4 c4]) := Lib.hid (by have := HBp_17.out.put 6 (.slice A4 n4 c4); simpa using this)
    have HTt1_18 := Lib.hid (HTt1_17.out.keep (Only.kept9 ((Only.refl (r := w.heap.size + 1) (w := u17)).setCell (p := ⟨w.heap.size + 1, 6, none⟩) rfl (.slice A4 n4 c4)) (fun b hb => by have hb : w.heap.size + 2 ≤ b := hb; show b ≠ w.heap.size + 1; omega)) (fun _ h _ => h))
    have HTt3_18 := Lib.hid (HTt3_17.out.keep (Only.kept9 ((Only.refl (r := w.heap.size + 1) (w := u17)).setCell (p := ⟨w.heap.size + 1, 6, none⟩) rfl (.slice A4 n4 c4)) (fun b hb => by have hb : w.heap.size + 2 ≤ b := hb; show b ≠ w.heap.size + 1; omega)) (fun _ h _ => h))
    have HTt4_18 := Lib.hid (HTt4_17.out.keep (Only.kept9 ((Only.refl (r := w.heap.size + 1) (w := u17)).setCell (p := ⟨w.heap.size + 1, 6, none⟩) rfl (.slice A4 n4 c4)) (fun b hb => by have hb : w.heap.size + 2 ≤ b := hb; show b ≠ w.heap.size + 1; omega)) (fun _ h _ => h))
    have c19_0 := HBp_18.out.cell 0
    have c19_1 := HBp_18.out.cell 1
    have c19_2 := HBp_18.out.cell 2
    have c19_3 := HBp_18.out.cell 3
    have c19_4 := HBp_18.out.cell 4
    have c19_5 := HBp_18.out.cell 5
    have c19_6 := HBp_18.out.cell 6
    have c20 := HBr_18.out.cell 0
    have f20 := HBr_18.out.frozen 0
    have HO20 := Lib.hid (HO18.out.new (r := w.heap.size) (by have := HG.out; omega) 0 (.string nm))
    have HR20 := Lib.hid (HR18.out.set (r := w.heap.size) (by have := HG.out; omega) 0 (.string nm))
    have HBr_20 : Hid (Ob ((u17.setCell ⟨w.heap.size + 1, 6, none⟩ (.slice A4 n4 c4)).setCell ⟨w.heap.size, 0, none⟩ (.string nm)) (w.heap.size) 28 #[.string nm, .bool false, .int .i64 0, .slice none 0 0, .slice none 0 0, .slice none 0 0, .slice none 0 0]) := Lib.hid (by have := HBr_18.out.put 0 (.string nm); simpa using this)
    have HBp_20 := Lib.hid (HBp_18.out.keep (Below.heap_setCell (u17.setCell ⟨w.heap.size + 1, 6, none⟩ (.slice A4 n4 c4)) ⟨w.heap.size, 0, none⟩ (.string nm) _ (by show w.heap.size + 1 ≠ w.heap.size; have := HG.out; omega)))
    have HTt1_20 := Lib.hid (HTt1_18.out.keep (Only.kept9 ((Only.refl (r := w.heap.size) (w := (u17.setCell ⟨w.heap.size + 1, 6, none⟩ (.slice A4 n4 c4)))).setCell (p := ⟨w.heap.size, 0, none⟩) rfl (.string nm)) (fun b hb => by have hb : w.heap.size + 2 ≤ b := hb; show b ≠ w.heap.size; omega)) (fun _ h _ => h))
    have HTt3_20 := Lib.hid (HTt3_18.out.keep (Only.kept9 ((Only.refl (r := w.heap.size) (w := (u17.setCell ⟨w.heap.size + 1, 6, none⟩ (.slice A4 n4 c4)))).setCell (p := ⟨w.heap.size, 0, none⟩) rfl (.string nm)) (fun b hb => by have hb : w.heap.size + 2 ≤ b := hb; show b ≠ w.heap.size; omega)) (fun _ h _ => h))
    have HTt4_20 := Lib.hid (HTt4_18.out.keep (Only.kept9 ((Only.refl (r := w.heap.size) (w := (u17.setCell ⟨w.heap.size + 1, 6, none⟩ (.slice A4 n4 c4)))).setCell (p := ⟨w.heap.size, 0, none⟩) rfl (.string nm)) (fun b hb => by have hb : w.heap.size + 2 ≤ b := hb; show b ≠ w.heap.size; omega)) (fun _ h _ => h))
    have c21 := HBr_20.out.cell 1
    have f21 := HBr_20.out.frozen 1
    have HO21 := Lib.hid (HO20.out.new (r := w.heap.size) (by have := HG.out; omega) 1 (.bool false))
    have HR21 := Lib.hid (HR20.out.set (r := w.heap.size) (by have := HG.out; omega) 1 (.bool false))
    have HBr_21 : Hid (Ob (((u17.setCell ⟨w.heap.size + 1, 6, none⟩ (.slice A4 n4 c4)).setCell ⟨w.heap.size, 0, none⟩ (.string nm)).setCell ⟨w.heap.size, 1, none⟩ (.bool false)) (w.heap.size) 28 #[.string nm, .bool false, .int .i64 0, .slice none 0 0, .slice none 0 0, .slice none 0 0, .slice none 0 0]) := Lib.hid (by have := HBr_20.out.put 1 (.bool false); simpa using this)
    have HBp_21 := Lib.hid (HBp_20.out.keep (Below.heap_setCell ((u17.setCell ⟨w.heap.size + 1, 6, none⟩ (.slice A4 n4 c4)).setCell ⟨w.heap.size, 0, none⟩ (.string nm)) ⟨w.heap.size, 1, none⟩ (.bool false) _ (by show w.heap.size + 1 ≠ w.heap.size; have := HG.out; omega)))
    have HTt1_21 := Lib.hid (HTt1_20.out.keep (Only.kept9 ((Only.refl (r := w.heap.size) (w := ((u17.setCell ⟨w.heap.size + 1, 6, none⟩ (.slice A4 n4 c4)).setCell ⟨w.heap.size, 0, none⟩ (.string nm)))).setCell (p := ⟨w.heap.size, 1, none⟩) rfl (.bool false)) (fun b hb => by have hb : w.heap.size + 2 ≤ b := hb; show b ≠ w.heap.size; omega)) (fun _ h _ => h))
    have HTt3_21 := Lib.hid (HTt3_20.out.keep (Only.kept9 ((Only.refl (r := w.heap.size) (w := ((u17.setCell ⟨w.heap.size + 1, 6, none⟩ (.slice A4 n4 c4)).setCell ⟨w.heap.size, 0, none⟩ (.string nm)))).setCell (p := ⟨w.heap.size, 1, none⟩) rfl (.bool false)) (fun b hb => by have hb : w.heap.size + 2 ≤ b := hb; show b ≠ w.heap.size; omega)) (fun _ h _ => h))
    have HTt4_21 := Lib.hid (HTt4_20.out.keep (Only.kept9 ((Only.refl (r := w.heap.size) (w := ((u17.setCell ⟨w.heap.size + 1, 6, none⟩ (.slice A4 n4 c4)).setCell ⟨w.heap.size, 0, none⟩ (.string nm)))).setCell (p := ⟨w.heap.size, 1, none⟩) rfl (.bool false)) (fun b hb => by have hb : w.heap.size + 2 ≤ b := hb; show b ≠ w.heap.size; omega)) (fun _ h _ => h))
    have c22 := HBr_21.out.cell 2
    have f22 := HBr_21.out.frozen 2
    have HO22 := Lib.hid (HO21.out.new (r := w.heap.size) (by have := HG.out; omega) 2 (.int .i64 (al : Int)))
    have HR22 := Lib.hid (HR21.out.set (r := w.heap.size) (by have := HG.out; omega) 2 (.int .i64 (al : Int)))
    have HBr_22 : Hid (Ob ((((u17.setCell ⟨w.heap.size + 1, 6, none⟩ (.slice A4 n4 c4)).setCell ⟨w.heap.size, 0, none⟩ (.string nm)).setCell ⟨w.heap.size, 1, none⟩ (.bool false)).setCell ⟨w.heap.size, 2, none⟩ (.int .i64 (al : Int))) (w.heap.size) 28 #[.string nm, .bool false, .int .i64 (al : Int), .slice none 0 0, .slice none 0 0, .slice none 0 0, .slice none 0 0]) := Lib.hid (by have := HBr_21.out.put 2 (.int .i64 (al : Int)); simpa using this)
    have HBp_22 := Lib.hid (HBp_21.out.keep (Below.heap_setCell (((u17.setCell ⟨w.heap.size + 1, 6, none⟩ (.slice A4 n4 c4)).setCell ⟨w.heap.size, 0, none⟩ (.string nm)).setCell ⟨w.heap.size, 1, none⟩ (.bool false)) ⟨w.heap.size, 2, none⟩ (.int .i64 (al : Int)) _ (by show w.heap.size + 1 ≠ w.heap.size; have := HG.out; omega)))
    have HTt1_22 := Lib.hid (HTt1_21.out.keep (Only.kept9 ((Only.refl (r := w.heap.size) (w := (((u17.setCell ⟨w.heap.size + 1, 6, none⟩ (.slice A4 n4 c4)).setCell ⟨w.heap.size, 0, none⟩ (.string nm)).setCell ⟨w.heap.size, 1, none⟩ (.bool false)))).setCell (p := ⟨w.heap.size, 2, none⟩) rfl (.int .i64 (al : Int))) (fun b hb => by have hb : w.heap.size + 2 ≤ b := hb; show b ≠ w.heap.size; omega)) (fun _ h _ => h))
    have HTt3_22 := Lib.hid (HTt3_21.out.keep (Only.kept9 ((Only.refl (r := w.heap.size) (w := (((u17.setCell ⟨w.heap.size + 1, 6, none⟩ (.slice A4 n4 c4)).setCell ⟨w.heap.size, 0, none⟩ (.string nm)).setCell ⟨w.heap.size, 1, none⟩ (.bool false)))).setCell (p := ⟨w.heap.size, 2, none⟩) rfl (.int .i64 (al : Int))) (fun b hb => by have hb : w.heap.size + 2 ≤ b := hb; show b ≠ w.heap.size; omega)) (fun _ h _ => h))
    have HTt4_22 := Lib.hid (HTt4_21.out.keep (Only.kept9 ((Only.refl (r := w.heap.size) (w := (((u17.setCell ⟨w.heap.size + 1, 6, none⟩ (.slice A4 n4 c4)).setCell ⟨w.heap.size, 0, none⟩ (.string nm)).setCell ⟨w.heap.size, 1, none⟩ (.bool false)))).setCell (p := ⟨w.heap.size, 2, none⟩) rfl (.int .i64 (al : Int))) (fun b hb => by have hb : w.heap.size + 2 ≤ b := hb; show b ≠ w.heap.size; omega)) (fun _ h _ => h))
    have c23 := HBr_22.out.cell 3
    have f23 := HBr_22.out.frozen 3
    have HO23 := Lib.hid (HO22.out.new (r := w.heap.size) (by have := HG.out; omega) 3 (.slice A1 n1 c1))
    have HR23 := Lib.hid (HR22.out.set (r := w.heap.size) (by have := HG.out; omega) 3 (.slice A1 n1 c1))
    have HBr_23 : Hid (Ob (((((u17.setCell ⟨w.heap.size + 1, 6, none⟩ (.slice A4 n4 c4)).setCell ⟨w.heap.size, 0, none⟩ (.string nm)).setCell ⟨w.heap.size, 1, none⟩ (.bool false)).setCell ⟨w.heap.size, 2, none⟩ (.int .i64 (al : Int))).setCell ⟨w.heap.size, 3, none⟩ (.slice A1 n1 c1)) (w.heap.size) 28 #[.string nm, .bool false, .int .i64 (al : Int), .slice A1 n1 c1, .slice none 0 0, .slice none 0 0, .slice none 0 0]) := Lib.hid (by have := HBr_22.out.put 3 (.slice A1 n1 c1); simpa using this)
    have HBp_23 := Lib.hid (HBp_22.out.keep (Below.heap_setCell ((((u17.setCell ⟨w.heap.size + 1, 6, none⟩ (.slice A4 n4 c4)).setCell ⟨w.heap.size, 0, none⟩ (.string nm)).setCell ⟨w.heap.size, 1, none⟩ (.bool false)).setCell ⟨w.heap.size, 2, none⟩ (.int .i64 (al : Int))) ⟨w.heap.size, 3, none⟩ (.slice A1 n1 c1) _ (by show w.heap.size + 1 ≠ w.heap.size; have := HG.out; omega)))
    have HTt1_23 := Lib.hid (HTt1_22.out.keep (Only.kept9 ((Only.refl (r := w.heap.size) (w := ((((u17.setCell ⟨w.heap.size + 1, 6, none⟩ (.slice A4 n4 c4)).setCell ⟨w.heap.size, 0, none⟩ (.string nm)).setCell ⟨w.heap.size, 1, none⟩ (.bool false)).setCell ⟨w.heap.size, 2, none⟩ (.int .i64 (al : Int))))).setCell (p := ⟨w.heap.size, 3, none⟩) rfl (.slice A1 n1 c1)) (fun b hb => by have hb : w.heap.size + 2 ≤ b := hb; show b ≠ w.heap.size; omega)) (fun _ h _ => h))
    have HTt3_23 := Lib.hid (HTt3_22.out.keep (Only.kept9 ((Only.refl (r := w.heap.size) (w := ((((u17.setCell ⟨w.heap.size + 1, 6, none⟩ (.slice A4 n4 c4)).setCell ⟨w.heap.size, 0, none⟩ (.string nm)).setCell ⟨w.heap.size, 1, none⟩ (.bool false)).setCell ⟨w.heap.size, 2, none⟩ (.int .i64 (al : Int))))).setCell (p := ⟨w.heap.size, 3, none⟩) rfl (.slice A1 n1 c1)) (fun b hb => by have hb : w.heap.size + 2 ≤ b := hb; show b ≠ w.heap.size; omega)) (fun _ h _ => h))
    have HTt4_23 := Lib.hid (HTt4_22.out.keep (Only.kept9 ((Only.refl (r := w.heap.size) (w := ((((u17.setCell ⟨w.heap.size + 1, 6, none⟩ (.slice A4 n4 c4)).setCell ⟨w.heap.size, 0, none⟩ (.string nm)).setCell ⟨w.heap.size, 1, none⟩ (.bool false)).setCell ⟨w.heap.size, 2, none⟩ (.int .i64 (al : Int))))).setCell (p := ⟨w.heap.size, 3, none⟩) rfl (.slice A1 n1 c1)) (fun b hb => by have hb : w.heap.size + 2 ≤ b := hb; show b ≠ w.heap.size; omega)) (fun _ h _ => h))
    have c24 := HBr_23.out.cell 4
    have f24 := HBr_23.out.frozen 4
    have HO24 := Lib.hid (HO23.out.new (r := w.heap.size) (by have := HG.out; omega) 4 (.slice A3 n3 c3))
    have HR24 := Lib.hid (HR23.out.set (r := w.heap.size) (by have := HG.out; omega) 4 (.slice A3 n3 c3))
    have HBr_24 : Hid (Ob ((((((u17.setCell ⟨w.heap.size + 1, 6, none⟩ (.slice A4 n4 c4)).setCell ⟨w.heap.size, 0, none⟩ (.string nm)).setCell ⟨w.heap.size, 1, none⟩ (.bool false)).setCell ⟨w.heap.size, 2, none⟩ (.int .i64 (al : Int))).setCell ⟨w.heap.size, 3, none⟩ (.slice A1 n1 c1)).setCell ⟨w.heap.size, 4, none⟩ (.slice A3 n3 c3)) (w.heap.size) 28 #[.string nm, .bool false, .int .i64 (al : Int), .slice A1 n1 c1, .slice A3 n3 c3, .slice none 0 0, .slice none 0 0]) := Lib.hid (by have := HBr_23.out.put 4 (.slice A3 n3 c3); simpa using this)
    have HBp_24 := Lib.hid (HBp_23.out.keep (Below.heap_setCell (((((u17.setCell ⟨w.heap.size + 1, 6, none⟩ (.slice A4 n4 c4)).setCell ⟨w.heap.size, 0, none⟩ (.string nm)).setCell ⟨w.heap.size, 1, none⟩ (.bool false)).setCell ⟨w.heap.size, 2, none⟩ (.int .i64 (al : Int))).setCell ⟨w.heap.size, 3, none⟩ (.slice A1 n1 c1)) ⟨w.heap.size, 4, none⟩ (.slice A3 n3 c3) _ (by show w.heap.size + 1 ≠ w.heap.size; have := HG.out; omega)))
    have HTt1_24 := Lib.hid (HTt1_23.out.keep (Only.kept9 ((Only.refl (r := w.heap.size) (w := (((((u17.setCell ⟨w.heap.size + 1, 6, none⟩ (.slice A4 n4 c4)).setCell ⟨w.heap.size, 0, none⟩ (.string nm)).setCell ⟨w.heap.size, 1, none⟩ (.bool false)).setCell ⟨w.heap.size, 2, none⟩ (.int .i64 (al : Int))).setCell ⟨w.heap.size, 3, none⟩ (.slice A1 n1 c1)))).setCell (p := ⟨w.heap.size, 4, none⟩) rfl (.slice A3 n3 c3)) (fun b hb => by have hb : w.heap.size + 2 ≤ b := hb; show b ≠ w.heap.size; omega)) (fun _ h _ => h))
    have HTt3_24 := Lib.hid (HTt3_23.out.keep (Only.kept9 ((Only.refl (r := w.heap.size) (w := (((((u17.setCell ⟨w.heap.size + 1, 6, none⟩ (.slice A4 n4 c4)).setCell ⟨w.heap.size, 0, none⟩ (.string nm)).setCell ⟨w.heap.size, 1, none⟩ (.bool false)).setCell ⟨w.heap.size, 2, none⟩ (.int .i64 (al : Int))).setCell ⟨w.heap.size, 3, none⟩ (.slice A1 n1 c1)))).setCell (p := ⟨w.heap.size, 4, none⟩) rfl (.slice A3 n3 c3)) (fun b hb => by have hb : w.heap.size + 2 ≤ b := hb; show b ≠ w.heap.size; omega)) (fun _ h _ => h))
    have HTt4_24 := Lib.hid (HTt4_23.out.keep (Only.kept9 ((Only.refl (r := w.heap.size) (w := (((((u17.setCell ⟨w.heap.size + 1, 6, none⟩ (.slice A4 n4 c4)).setCell ⟨w.heap.size, 0, none⟩ (.string nm)).setCell ⟨w.heap.size, 1, none⟩ (.bool false)).setCell ⟨w.heap.size, 2, none⟩ (.int .i64 (al : Int))).setCell ⟨w.heap.size, 3, none⟩ (.slice A1 n1 c1)))).setCell (p := ⟨w.heap.size, 4, none⟩) rfl (.slice A3 n3 c3)) (fun b hb => by have hb : w.heap.size + 2 ≤ b := hb; show b ≠ w.heap.size; omega)) (fun _ h _ => h))
    have c25 := HBr_24.out.cell 5
    have f25 := HBr_24.out.frozen 5
    have HO25 := Lib.hid (HO24.out.new (r := w.heap.size) (by have := HG.out; omega) 5 (.slice none 0 0))
    have HR25 := Lib.hid (HR24.out.set (r := w.heap.size) (by have := HG.out; omega) 5 (.slice none 0 0))
    have HBr_25 : Hid (Ob (((((((u17.setCell ⟨w.heap.size + 1, 6, none⟩ (.slice A4 n4 c4)).setCell ⟨w.heap.size, 0, none⟩ (.string nm)).setCell ⟨w.heap.size, 1, none⟩ (.bool false)).setCell ⟨w.heap.size, 2, none⟩ (.int .i64 (al : Int))).setCell ⟨w.heap.size, 3, none⟩ (.slice A1 n1 c1)).setCell ⟨w.heap.size, 4, none⟩ (.slice A3 n3 c3)).setCell ⟨w.heap.size, 5, none⟩ (.slice none 0 0)) (w.heap.size) 28 #[.string nm, .bool false, .int .i64 (al : Int), .slice A1 n1 c1, .slice A3 n3 c3, .slice none 0 0, .slice none 0 0]) := Lib.hid (by have := HBr_24.out.put 5 (.slice none 0 0); simpa using this)
    have HBp_25 := Lib.hid (HBp_24.out.keep (Below.heap_setCell ((((((u17.setCell ⟨w.heap.size + 1, 6, none⟩ (.slice A4 n4 c4)).setCell ⟨w.heap.size, 0, none⟩ (.string nm)).setCell ⟨w.heap.size, 1, none⟩ (.bool false)).setCell ⟨w.heap.size, 2, none⟩ (.int .i64 (al : Int))).setCell ⟨w.heap.size, 3, none⟩ (.slice A1 n1 c1)).setCell ⟨w.heap.size, 4, none⟩ (.slice A3 n3 c3)) ⟨w.heap.size, 5, none⟩ (.slice none 0 0) _ (by show w.heap.size + 1 ≠ w.heap.size; have := HG.out; omega)))
    have HTt1_25 := Lib.hid (HTt1_24.out.keep (Only.kept9 ((Only.refl (r := w.heap.size) (w := ((((((u17.setCell ⟨w.heap.size + 1, 6, none⟩ (.slice A4 n4 c4)).setCell ⟨w.heap.size, 0, none⟩ (.string nm)).setCell ⟨w.heap.size, 1, none⟩ (.bool false)).setCell ⟨w.heap.size, 2, none⟩ (.int .i64 (al : Int))).setCell ⟨w.heap.size, 3, none⟩ (.slice A1 n1 c1)).setCell ⟨w.heap.size, 4, none⟩ (.slice A3 n3 c3)))).setCell (p := ⟨w.heap.size, 5, none⟩) rfl (.slice none 0 0)) (fun b hb => by have hb : w.heap.size + 2 ≤ b := hb; show b ≠ w.heap.size; omega)) (fun _ h _ => h))
    have HTt3_25 := Lib.hid (HTt3_24.out.keep (Only.kept9 ((Only.refl (r := w.heap.size) (w := ((((((u17.setCell ⟨w.heap.size + 1, 6, none⟩ (.slice A4 n4 c4)).setCell ⟨w.heap.size, 0, none⟩ (.string nm)).setCell ⟨w.heap.size, 1, none⟩ (.bool false)).setCell ⟨w.heap.size, 2, none⟩ (.int .i64 (al : Int))).setCell ⟨w.heap.size, 3, none⟩ (.slice A1 n1 c1)).setCell ⟨w.heap.size, 4, none⟩ (.slice A3 n3 c3)))).setCell (p := ⟨w.heap.size, 5, none⟩) rfl (.slice none 0 0)) (fun b hb => by have hb : w.heap.size + 2 ≤ b := hb; show b ≠ w.heap.size; omega)) (fun _ h _ => h))
    have HTt4_25 := Lib.hid (HTt4_24.out.keep (Only.kept9 ((Only.refl (r := w.heap.size) (w := ((((((u17.setCell ⟨w.heap.size + 1, 6, none⟩ (.slice A4 n4 c4)).setCell ⟨w.heap.size, 0, none⟩ (.string nm)).setCell ⟨w.heap.size, 1, none⟩ (.bool false)).setCell ⟨w.heap.size, 2, none⟩ (.int .i64 (al : Int))).setCell ⟨w.heap.size, 3, none⟩ (.slice A1 n1 c1)).setCell ⟨w.heap.size, 4, none⟩ (.slice A3 n3 c3)))).setCell (p := ⟨w.heap.size, 5, none⟩) rfl (.slice none 0 0)) (fun b hb => by have hb : w.heap.size + 2 ≤ b := hb; show b ≠ w.heap.size; omega)) (fun _ h _ => h))
    have c26 := HBr_25.out.cell 6
    have f26 := HBr_25.out.frozen 6
    have HO26 := Lib.hid (HO25.out.new (r := w.heap.size) (by have := HG.out; omega) 6 (.slice A4 n4 c4))
    have HR26 := Lib.hid (HR25.out.set (r := w.heap.size) (by have := HG.out; omega) 6 (.slice A4 n4 c4))
    have HBr_26 : Hid (Ob ((((((((u17.setCell ⟨w.heap.size + 1, 6, none⟩ (.slice A4 n4 c4)).setCell ⟨w.heap.size, 0, none⟩ (.string nm)).setCell ⟨w.heap.size, 1, none⟩ (.bool false)).setCell ⟨w.heap.size, 2, none⟩ (.int .i64 (al : Int))).setCell ⟨w.heap.size, 3, none⟩ (.slice A1 n1 c1)).setCell ⟨w.heap.size, 4, none⟩ (.slice A3 n3 c3)).setCell ⟨w.heap.size, 5, none⟩ (.slice none 0 0)).setCell ⟨w.heap.size, 6, none⟩ (.slice A4 n4 c4)) (w.heap.size) 28 #[.string nm, .bool false, .int .i64 (al : Int), .slice A1 n1 c1, .slice A3 n3 c3, .slice none 0 0, .slice A4 n4 c4]) := Lib.hid (by have := HBr_25.out.put 6 (.slice A4 n4 c4); simpa using this)
    have HBp_26 := Lib.hid (HBp_25.out.keep (Below.heap_setCell (((((((u17.setCell ⟨w.heap.size + 1, 6, none⟩ (.slice A4 n4 c4)).setCell ⟨w.heap.size, 0, none⟩ (.string nm)).setCell ⟨w.heap.size, 1, none⟩ (.bool false)).setCell ⟨w.heap.size, 2, none⟩ (.int .i64 (al : Int))).setCell ⟨w.heap.size, 3, none⟩ (.slice A1 n1 c1)).setCell ⟨w.heap.size, 4, none⟩ (.slice A3 n3 c3)).setCell ⟨w.heap.size, 5, none⟩ (.slice none 0 0)) ⟨w.heap.size, 6, none⟩ (.slice A4 n4 c4) _ (by show w.heap.size + 1 ≠ w.heap.size; have := HG.out; omega)))
    have HTt1_26 := Lib.hid (HTt1_25.out.keep (Only.kept9 ((Only.refl (r := w.heap.size) (w := (((((((u17.setCell ⟨w.heap.size + 1, 6, none⟩ (.slice A4 n4 c4)).setCell ⟨w.heap.size, 0, none⟩ (.string nm)).setCell ⟨w.heap.size, 1, none⟩ (.bool false)).setCell ⟨w.heap.size, 2, none⟩ (.int .i64 (al : Int))).setCell ⟨w.heap.size, 3, none⟩ (.slice A1 n1 c1)).setCell ⟨w.heap.size, 4, none⟩ (.slice A3 n3 c3)).setCell ⟨w.heap.size, 5, none⟩ (.slice none 0 0)))).setCell (p := ⟨w.heap.size, 6, none⟩) rfl (.slice A4 n4 c4)) (fun b hb => by have hb : w.heap.size + 2 ≤ b := hb; show b ≠ w.heap.size; omega)) (fun _ h _ => h))
    have HTt3_26 := Lib.hid (HTt3_25.out.keep (Only.kept9 ((Only.refl (r := w.heap.size) (w := (((((((u17.setCell ⟨w.heap.size + 1, 6, none⟩ (.slice A4 n4 c4)).setCell ⟨w.heap.size, 0, none⟩ (.string nm)).setCell ⟨w.heap.size, 1, none⟩ (.bool false)).setCell ⟨w.heap.size, 2, none⟩ (.int .i64 (al : Int))).setCell ⟨w.heap.size, 3, none⟩ (.slice A1 n1 c1)).setCell ⟨w.heap.size, 4, none⟩ (.slice A3 n3 c3)).setCell ⟨w.heap.size, 5, none⟩ (.slice none 0 0)))).setCell (p := ⟨w.heap.size, 6, none⟩) rfl (.slice A4 n4 c4)) (fun b hb => by have hb : w.heap.size + 2 ≤ b := hb; show b ≠ w.heap.size; omega)) (fun _ h _ => h))
    have HTt4_26 := Lib.hid (HTt4_25.out.keep (Only.kept9 ((Only.refl (r := w.heap.size) (w := (((((((u17.setCell ⟨w.heap.size + 1, 6, none⟩ (.slice A4 n4 c4)).setCell ⟨w.heap.size, 0, none⟩ (.string nm)).setCell ⟨w.heap.size, 1, none⟩ (.bool false)).setCell ⟨w.heap.size, 2, none⟩ (.int .i64 (al : Int))).setCell ⟨w.heap.size, 3, none⟩ (.slice A1 n1 c1)).setCell ⟨w.heap.size, 4, none⟩ (.slice A3 n3 c3)).setCell ⟨w.heap.size, 5, none⟩ (.slice none 0 0)))).setCell (p := ⟨w.heap.size, 6, none⟩) rfl (.slice A4 n4 c4)) (fun b hb => by have hb : w.heap.size + 2 ≤ b := hb; show b ≠ w.heap.size; omega)) (fun _ h _ => h))
    go_wp2_with fail
    refine bodyPost_ret (policy_ret rfl rfl HBr_26.out rfl) rfl ?_
    rw [HIN.out.2.1, hqi]
    exact ⟨_, rfl, HO26.out, HR26.out, A1, n1, c1, A3, n3, c3, none, 0, 0, A4, n4, c4, rfl, A1, n1, c1, A3, n3, c3, none, 0, 0, A4, n4, c4, rfl, HNM.out, HAL.out, HTt1_26.out.keep (Kept.refl _ _) (fun b hb _ => by have hb : w.heap.size + 2 ≤ b := hb; show w.heap.size ≤ b; omega), HTt3_26.out.keep (Kept.refl _ _) (fun b hb _ => by have hb : w.heap.size + 2 ≤ b := hb; show w.heap.size ≤ b; omega), Rw.nil_ _ _ _ _, HTt4_26.out.keep (Kept.refl _ _) (fun b hb _ => by have hb : w.heap.size + 2 ≤ b := hb; show w.heap.size ≤ b; omega)⟩
theorem pol_read_all : ∀ f, f ≤ 4 → POk L g f
  | 0, _ => pol_read 0 (fun f' e => by omega)
  | f + 1, h => pol_read (f + 1) (fun f' e => by obtain rfl : f = f' := by omega
                                                 exact pol_read_all f (by omega))
end
end Go.Proofs.YtdbnaaddocahpaaGreatDoor
/- The small functions of bytes of package lex. -/
namespace Go.Proofs.YtdbnaaddocahpaaGreatDoor
set_option linter.unusedVariables false
open Go.RowKit

theorem lett_t {c : UInt8} (h : 97 ≤ (c.toNat : Int) ∧ (c.toNat : Int) ≤ 122) : lett c = true := by unfold lett; simp; omega
theorem lett_f {c : UInt8} (h : (c.toNat : Int) < 97 ∨ 122 < (c.toNat : Int)) : lett c = false := by unfold lett; simp; omega
theorem dgt_t {c : UInt8} (h : 48 ≤ (c.toNat : Int) ∧ (c.toNat : Int) ≤ 57) : dgt c = true := by unfold dgt; simp; omega
theorem dgt_f {c : UInt8} (h : (c.toNat : Int) < 48 ∨ 57 < (c.toNat : Int)) : dgt c = false := by unfold dgt; simp; omega
theorem inm_eq (c : UInt8) : inm c = (lett c || dgt c || decide (c.toNat = 95)) := by unfold inm later dgt; rw [Bool.or_assoc]

set_option maxHeartbeats 800000 in
theorem blank_any (c : UInt8) (w : World) : Calls Tryz.prog 68 #[.int .u8 (c.toNat : Int)] w fun e w' => e = .returned (.bool (blk c)) ∧ w' = w := by
  have hb : blk c = (((c.toNat : Int) == 32) || ((c.toNat : Int) == 10)) := by unfold blk; rw [Bool.eq_iff_iff]; simp; omega
  have HB := Lib.hid hb
  clear hb
  by_cases h1 : (c.toNat : Int) = 32
  · have e1 : ((c.toNat : Int) == 32) = true := by rw [h1]; rfl
    have H1 := Lib.hid h1
    clear h1
    go_enter Tryz.func68, Tryz.ntmps68
    go_wp2_with fail
    go_ret
    exact ⟨ret_bool (by rw [HB.out, H1.out]; rfl), rfl⟩
  · have e1 : ((c.toNat : Int) == 32) = false := by rw [beq_eq_false_iff_ne]; exact h1
    have H1 := Lib.hid e1
    clear h1
    go_enter Tryz.func68, Tryz.ntmps68
    go_wp2_with fail
    go_ret
    exact ⟨ret_bool (by rw [HB.out, H1.out]; rfl), rfl⟩

set_option maxHeartbeats 800000 in
theorem letter_any (c : UInt8) (w : World) : Calls Tryz.prog 69 #[.int .u8 (c.toNat : Int)] w fun e w' => e = .returned (.bool (lett c)) ∧ w' = w := by
  have three : (c.toNat : Int) < 97 ∨ (97 ≤ (c.toNat : Int) ∧ (c.toNat : Int) ≤ 122) ∨ (97 ≤ (c.toNat : Int) ∧ 122 < (c.toNat : Int)) := by omega
  rcases three with h | h | h
  all_goals
    go_enter Tryz.func69, Tryz.ntmps69
    go_wp2_with fail
    go_ret
  · exact ⟨ret_bool (lett_f (by omega)).symm, rfl⟩
  · exact ⟨ret_bool (lett_t h).symm, rfl⟩
  · exact ⟨ret_bool (by rw [decide_eq_false (by omega), lett_f (by omega)]), rfl⟩

set_option maxHeartbeats 800000 in
theorem digit_any (c : UInt8) (w : World) : Calls Tryz.prog 70 #[.int .u8 (c.toNat : Int)] w fun e w' => e = .returned (.bool (dgt c)) ∧ w' = w := by
  have three : (c.toNat : Int) < 48 ∨ (48 ≤ (c.toNat : Int) ∧ (c.toNat : Int) ≤ 57) ∨ (48 ≤ (c.toNat : Int) ∧ 57 < (c.toNat : Int)) := by omega
  rcases three with h | h | h
  all_goals
    go_enter Tryz.func70, Tryz.ntmps70
    go_wp2_with fail
    go_ret
  · exact ⟨ret_bool (dgt_f (by omega)).symm, rfl⟩
  · exact ⟨ret_bool (dgt_t h).symm, rfl⟩
  · exact ⟨ret_bool (by rw [decide_eq_false (by omega), dgt_f (by omega)]), rfl⟩

set_option maxHeartbeats 800000 in
theorem inName_any (c : UInt8) (w : World) : Calls Tryz.prog 71 #[.int .u8 (c.toNat : Int)] w fun e w' => e = .returned (.bool (inm c)) ∧ w' = w := by
  have hi := inm_eq c
  have hl := letter_any c w
  have hd := digit_any c w
  have h95 : decide (c.toNat = 95) = ((c.toNat : Int) == 95) := by rw [Bool.eq_iff_iff]; simp; omega
  rw [h95] at hi
  have HI := Lib.hid hi
  have HL := Lib.hid hl
  have HD := Lib.hid hd
  clear hi hl hd h95
  cases h1 : lett c with
  | true =>
    rw [h1] at HI HL
    clear h1
    go_enter Tryz.func71, Tryz.ntmps71
    go_wp2_with (go_at_call 69; refine HL.out.mono ?_; rintro e w' ⟨rfl, rfl⟩)
    go_ret
    exact ⟨ret_bool (by rw [HI.out]; rfl), rfl⟩
  | false =>
    rw [h1] at HI HL
    clear h1
    cases h2 : dgt c with
    | true =>
      rw [h2] at HI HD
      clear h2
      go_enter Tryz.func71, Tryz.ntmps71
      go_wp2_with (first | (go_at_call 69; refine HL.out.mono ?_; rintro e w' ⟨rfl, rfl⟩) | (go_at_call 70; refine HD.out.mono ?_; rintro e w' ⟨rfl, rfl⟩))
      go_ret
      exact ⟨ret_bool (by rw [HI.out]; rfl), rfl⟩
    | false =>
      rw [h2] at HI HD
      clear h2
      go_enter Tryz.func71, Tryz.ntmps71
      go_wp2_with (first | (go_at_call 69; refine HL.out.mono ?_; rintro e w' ⟨rfl, rfl⟩) | (go_at_call 70; refine HD.out.mono ?_; rintro e w' ⟨rfl, rfl⟩))
      go_ret
      exact ⟨ret_bool (by rw [HI.out]; rfl), rfl⟩
end Go.Proofs.YtdbnaaddocahpaaGreatDoor
/- past: on, as long as there are such bytes. -/
namespace Go.Proofs.YtdbnaaddocahpaaGreatDoor
set_option linter.unusedVariables false
open Go.RowKit

/-- Behind k the run of such bytes ends where it ends behind a. -/
def PastTo (l : List UInt8) (p : UInt8 → Bool) (a k : Nat) : Prop := k + ((l.drop k).takeWhile p).length = a + ((l.drop a).takeWhile p).length
theorem PastTo.step {l : List UInt8} {p : UInt8 → Bool} {a k : Nat} {c : UInt8} (h : PastTo l p a k) (hc : l[k]? = some c) (hp : p c = true) : PastTo l p a (k + 1) := by
  obtain ⟨hk, e⟩ := List.getElem?_eq_some_iff.1 hc
  unfold PastTo at h ⊢
  rw [← h, List.drop_eq_getElem_cons hk, e, List.takeWhile_cons, if_pos hp, List.length_cons]
  omega
theorem PastTo.stop {l : List UInt8} {p : UInt8 → Bool} {a k : Nat} {c : UInt8} (h : PastTo l p a k) (hc : l[k]? = some c) (hp : p c = false) : k = a + ((l.drop a).takeWhile p).length := by
  obtain ⟨hk, e⟩ := List.getElem?_eq_some_iff.1 hc
  unfold PastTo at h
  rw [← h, List.drop_eq_getElem_cons hk, e, List.takeWhile_cons, if_neg (by rw [hp]; simp)]
  simp
theorem PastTo.end {l : List UInt8} {p : UInt8 → Bool} {a k : Nat} (h : PastTo l p a k) (hk : l.length ≤ k) : k = a + ((l.drop a).takeWhile p).length := by
  unfold PastTo at h
  rw [← h, List.drop_of_length_le hk]
  simp

set_option maxHeartbeats 1600000 in
theorem past_blank (s : ByteArray) (hs : s.size ≤ maxLen) (a : Nat) (ha : a ≤ s.size) (w : World) :
    Calls Tryz.prog 67 #[.string s, .int .i64 (a : Int), .func (.func 68) #[] #[]] w fun e w' => e = .returned (.int .i64 ((a + ((s.data.toList.drop a).takeWhile blk).length : Nat) : Int)) ∧ w' = w := by
  have hl := data_len s
  generalize hL : s.data.toList = l at *
  have HD : Hid (∀ k (h : k < s.size), l[k]? = some s[k]) := by
    show ∀ k (h : k < s.size), l[k]? = some s[k]
    subst hL; exact fun k h => data_at h
  have HL := Lib.hid hl
  unfold maxLen at hs
  clear hl hL
  go_enter Tryz.func67, Tryz.ntmps67
  go_wp2_with fail
  go_loop [1] (fun i => ∃ k : Nat, k ≤ s.size ∧ i = .int .i64 k ∧ PastTo l blk a k) (fun i => s.size - (intOf i).toNat)
  case atStart => exact ⟨a, ha, rfl, rfl⟩
  case round =>
    obtain ⟨k, hk, rfl, ht⟩ := hrel
    have HT := Lib.hid ht
    clear ht
    by_cases hlt : k < s.size
    · have hi : 0 ≤ (k : Int) ∧ (k : Int) < s.size := by omega
      have hc := HD.out k hlt
      generalize hcc : s[k] = c at *
      have HC := Lib.hid hc
      clear hc
      have hf := blank_any c w
      cases hp : blk c with
      | true =>
        have HP := Lib.hid hp
        rw [hp] at hf
        have HFC := Lib.hid hf
        clear hp hf
        go_wp2_with (go_at_call 68; refine HFC.out.mono ?_; rintro e w' ⟨rfl, rfl⟩)
        go_round
        case rel => exact ⟨k + 1, by omega, by go_num, HT.out.step HC.out HP.out⟩
        case measure => simp [intOf]; omega
      | false =>
        have HP := Lib.hid hp
        rw [hp] at hf
        have HFC := Lib.hid hf
        clear hp hf
        go_wp2_with (go_at_call 68; refine HFC.out.mono ?_; rintro e w' ⟨rfl, rfl⟩)
        go_ret
        exact ⟨ret_int (by have := HT.out.stop HC.out HP.out; omega), rfl⟩
    · obtain rfl : k = s.size := by omega
      go_wp2_with fail
      go_ret
      exact ⟨ret_int (by have := HT.out.end (by rw [HL.out]; exact Nat.le_refl _); omega), rfl⟩

set_option maxHeartbeats 1600000 in
theorem past_digit (s : ByteArray) (hs : s.size ≤ maxLen) (a : Nat) (ha : a ≤ s.size) (w : World) :
    Calls Tryz.prog 67 #[.string s, .int .i64 (a : Int), .func (.func 70) #[] #[]] w fun e w' => e = .returned (.int .i64 ((a + ((s.data.toList.drop a).takeWhile dgt).length : Nat) : Int)) ∧ w' = w := by
  have hl := data_len s
  generalize hL : s.data.toList = l at *
  have HD : Hid (∀ k (h : k < s.size), l[k]? = some s[k]) := by
    show ∀ k (h : k < s.size), l[k]? = some s[k]
    subst hL; exact fun k h => data_at h
  have HL := Lib.hid hl
  unfold maxLen at hs
  clear hl hL
  go_enter Tryz.func67, Tryz.ntmps67
  go_wp2_with fail
  go_loop [1] (fun i => ∃ k : Nat, k ≤ s.size ∧ i = .int .i64 k ∧ PastTo l dgt a k) (fun i => s.size - (intOf i).toNat)
  case atStart => exact ⟨a, ha, rfl, rfl⟩
  case round =>
    obtain ⟨k, hk, rfl, ht⟩ := hrel
    have HT := Lib.hid ht
    clear ht
    by_cases hlt : k < s.size
    · have hi : 0 ≤ (k : Int) ∧ (k : Int) < s.size := by omega
      have hc := HD.out k hlt
      generalize hcc : s[k] = c at *
      have HC := Lib.hid hc
      clear hc
      have hf := digit_any c w
      cases hp : dgt c with
      | true =>
        have HP := Lib.hid hp
        rw [hp] at hf
        have HFC := Lib.hid hf
        clear hp hf
        go_wp2_with (go_at_call 70; refine HFC.out.mono ?_; rintro e w' ⟨rfl, rfl⟩)
        go_round
        case rel => exact ⟨k + 1, by omega, by go_num, HT.out.step HC.out HP.out⟩
        case measure => simp [intOf]; omega
      | false =>
        have HP := Lib.hid hp
        rw [hp] at hf
        have HFC := Lib.hid hf
        clear hp hf
        go_wp2_with (go_at_call 70; refine HFC.out.mono ?_; rintro e w' ⟨rfl, rfl⟩)
        go_ret
        exact ⟨ret_int (by have := HT.out.stop HC.out HP.out; omega), rfl⟩
    · obtain rfl : k = s.size := by omega
      go_wp2_with fail
      go_ret
      exact ⟨ret_int (by have := HT.out.end (by rw [HL.out]; exact Nat.le_refl _); omega), rfl⟩

set_option maxHeartbeats 1600000 in
theorem past_inName (s : ByteArray) (hs : s.size ≤ maxLen) (a : Nat) (ha : a ≤ s.size) (w : World) :
    Calls Tryz.prog 67 #[.string s, .int .i64 (a : Int), .func (.func 71) #[] #[]] w fun e w' => e = .returned (.int .i64 ((a + ((s.data.toList.drop a).takeWhile inm).length : Nat) : Int)) ∧ w' = w := by
  have hl := data_len s
  generalize hL : s.data.toList = l at *
  have HD : Hid (∀ k (h : k < s.size), l[k]? = some s[k]) := by
    show ∀ k (h : k < s.size), l[k]? = some s[k]
    subst hL; exact fun k h => data_at h
  have HL := Lib.hid hl
  unfold maxLen at hs
  clear hl hL
  go_enter Tryz.func67, Tryz.ntmps67
  go_wp2_with fail
  go_loop [1] (fun i => ∃ k : Nat, k ≤ s.size ∧ i = .int .i64 k ∧ PastTo l inm a k) (fun i => s.size - (intOf i).toNat)
  case atStart => exact ⟨a, ha, rfl, rfl⟩
  case round =>
    obtain ⟨k, hk, rfl, ht⟩ := hrel
    have HT := Lib.hid ht
    clear ht
    by_cases hlt : k < s.size
    · have hi : 0 ≤ (k : Int) ∧ (k : Int) < s.size := by omega
      have hc := HD.out k hlt
      generalize hcc : s[k] = c at *
      have HC := Lib.hid hc
      clear hc
      have hf := inName_any c w
      cases hp : inm c with
      | true =>
        have HP := Lib.hid hp
        rw [hp] at hf
        have HFC := Lib.hid hf
        clear hp hf
        go_wp2_with (go_at_call 71; refine HFC.out.mono ?_; rintro e w' ⟨rfl, rfl⟩)
        go_round
        case rel => exact ⟨k + 1, by omega, by go_num, HT.out.step HC.out HP.out⟩
        case measure => simp [intOf]; omega
      | false =>
        have HP := Lib.hid hp
        rw [hp] at hf
        have HFC := Lib.hid hf
        clear hp hf
        go_wp2_with (go_at_call 71; refine HFC.out.mono ?_; rintro e w' ⟨rfl, rfl⟩)
        go_ret
        exact ⟨ret_int (by have := HT.out.stop HC.out HP.out; omega), rfl⟩
    · obtain rfl : k = s.size := by omega
      go_wp2_with fail
      go_ret
      exact ⟨ret_int (by have := HT.out.end (by rw [HL.out]; exact Nat.le_refl _); omega), rfl⟩
end Go.Proofs.YtdbnaaddocahpaaGreatDoor
/- alone, sixteenth, mark, one of package lex. -/
namespace Go.Proofs.YtdbnaaddocahpaaGreatDoor
set_option linter.unusedVariables false
open Go.RowKit

theorem ret_pair {a b c d : Value} (h1 : a = c) (h2 : b = d) : Ending.returned (.tuple #[a, b]) = .returned (.tuple #[c, d]) := by rw [h1, h2]
theorem ret_three {a b c d e f : Value} (h1 : a = d) (h2 : b = e) (h3 : c = f) : Ending.returned (.tuple #[a, b, c]) = .returned (.tuple #[d, e, f]) := by rw [h1, h2, h3]
theorem int_eq {k : IntKind} {a b : Int} (h : a = b) : Value.int k a = .int k b := by rw [h]
theorem bool_eq {a b : Bool} (h : a = b) : Value.bool a = .bool b := by rw [h]
theorem strv_eq {a b : ByteArray} (h : a = b) : Value.string a = .string b := by rw [h]

theorem odd8_t {c : UInt8} (h : c.toNat < 32 ∨ 126 < c.toNat ∨ c.toNat = 34 ∨ c.toNat = 92) : odd8 c = true := by simpa [odd8, or_assoc] using h
theorem odd8_f {c : UInt8} (h : ¬ (c.toNat < 32 ∨ 126 < c.toNat ∨ c.toNat = 34 ∨ c.toNat = 92)) : odd8 c = false := by
  rw [← Bool.not_eq_true]
  intro h'
  exact h (by simpa [odd8, or_assoc] using h')
theorem byte_ways7 (c : UInt8) : ((c.toNat : Int) < 32) ∨ ((32 ≤ (c.toNat : Int) ∧ 126 < (c.toNat : Int))) ∨ ((c.toNat : Int) = 34) ∨ ((c.toNat : Int) = 92) ∨ ((32 ≤ (c.toNat : Int) ∧ (c.toNat : Int) ≤ 126) ∧ ((c.toNat : Int) == 34) = false ∧ ((c.toNat : Int) == 92) = false ∧ ((c.toNat : Int) != 34) = true ∧ ((c.toNat : Int) != 92) = true) := by
  simp only [beq_eq_false_iff_ne, bne_iff_ne]; omega

set_option maxHeartbeats 800000 in
theorem alone_any (c : UInt8) (w : World) : Calls Tryz.prog 131 #[.int .u8 (c.toNat : Int)] w fun e w' => e = .returned (.bool (!odd8 c)) ∧ w' = w := by
  rcases byte_ways7 c with a | a | a | a | a
  case inr.inr.inl =>
    obtain rfl : c = 34 := UInt8.toNat_inj.1 (by have : (34 : UInt8).toNat = 34 := rfl; omega)
    clear a
    go_enter Tryz.func131, Tryz.ntmps131
    go_wp2_with fail
    go_ret
    exact ⟨rfl, rfl⟩
  case inr.inr.inr.inl =>
    obtain rfl : c = 92 := UInt8.toNat_inj.1 (by have : (92 : UInt8).toNat = 92 := rfl; omega)
    clear a
    go_enter Tryz.func131, Tryz.ntmps131
    go_wp2_with fail
    go_ret
    exact ⟨rfl, rfl⟩
  case inr.inr.inr.inr =>
    have HO : Hid (odd8 c = false) := odd8_f (by obtain ⟨a1, a2, a3, _⟩ := a; simp only [beq_eq_false_iff_ne] at a2 a3; omega)
    go_enter Tryz.func131, Tryz.ntmps131
    go_wp2_with fail
    go_ret
    exact ⟨ret_bool (by rw [HO.out]; rfl), rfl⟩
  all_goals
    have HO : Hid (odd8 c = true) := odd8_t (by omega)
    go_enter Tryz.func131, Tryz.ntmps131
    go_wp2_with fail
    go_ret
    exact ⟨ret_bool (by rw [HO.out]; first | rfl | exact decide_eq_false (by omega)), rfl⟩

theorem hexv_dgt {c : UInt8} (h : dgt c = true) : hexv c = some (c.toNat - 48) := by unfold hexv; rw [if_pos h]
theorem hexv_let {c : UInt8} (h : dgt c = false) (h2 : 97 ≤ c.toNat ∧ c.toNat ≤ 102) : hexv c = some (c.toNat - 87) := by unfold hexv; rw [if_neg (by rw [h]; simp), if_pos h2]
theorem hexv_none {c : UInt8} (h : dgt c = false) (h2 : ¬ (97 ≤ c.toNat ∧ c.toNat ≤ 102)) : hexv c = none := by unfold hexv; rw [if_neg (by rw [h]; simp), if_neg h2]
theorem hexv_lt {c : UInt8} {x : Nat} (h : hexv c = some x) : x < 16 := by
  unfold hexv at h
  split at h
  · rename_i hd; cases h; unfold dgt at hd; simp at hd; omega
  · split at h
    · cases h; omega
    · cases h

set_option maxHeartbeats 800000 in
theorem sixteenth_any (c : UInt8) (w : World) : Calls Tryz.prog 132 #[.int .u8 (c.toNat : Int)] w fun e w' => e = .returned (.tuple #[.int .u8 (((hexv c).getD 0 : Nat) : Int), .bool (hexv c).isSome]) ∧ w' = w := by
  have hd := digit_any c w
  have HD := Lib.hid hd
  have hlt := c.toNat_lt
  clear hd
  cases h : dgt c with
  | true =>
    rw [h] at HD
    have HX := Lib.hid (hexv_dgt h)
    have hb : 48 ≤ (c.toNat : Int) ∧ (c.toNat : Int) ≤ 57 := by unfold dgt at h; simp at h; omega
    clear h
    go_enter Tryz.func132, Tryz.ntmps132
    go_wp2_with (go_at_call 70; refine HD.out.mono ?_; rintro e w' ⟨rfl, rfl⟩)
    go_ret2
    exact ⟨ret_pair (int_eq (by rw [HX.out]; show (c.toNat : Int) - 48 = ((c.toNat - 48 : Nat) : Int); omega)) (by rw [HX.out]; rfl), rfl⟩
  | false =>
    rw [h] at HD
    have three : (c.toNat : Int) < 97 ∨ (97 ≤ (c.toNat : Int) ∧ (c.toNat : Int) ≤ 102) ∨ (97 ≤ (c.toNat : Int) ∧ 102 < (c.toNat : Int)) := by omega
    rcases three with a | a | a
    case inr.inl =>
      have HX := Lib.hid (hexv_let h (by omega))
      clear h
      go_enter Tryz.func132, Tryz.ntmps132
      go_wp2_with (go_at_call 70; refine HD.out.mono ?_; rintro e w' ⟨rfl, rfl⟩)
      go_ret2
      exact ⟨ret_pair (int_eq (by rw [HX.out]; show (c.toNat : Int) - 97 + 10 = ((c.toNat - 87 : Nat) : Int); omega)) (by rw [HX.out]; rfl), rfl⟩
    all_goals
      have HX := Lib.hid (hexv_none h (by omega))
      clear h
      go_enter Tryz.func132, Tryz.ntmps132
      go_wp2_with (go_at_call 70; refine HD.out.mono ?_; rintro e w' ⟨rfl, rfl⟩)
      go_ret2
      exact ⟨by rw [HX.out]; rfl, rfl⟩

/-- One byte in a slice of its own, as a text. -/
theorem conv_one (c : UInt8) (w : World) : (convert 96 9 (.slice (some ⟨w.heap.size, 0, none⟩) 1 1)).run Tryz.prog (w.alloc (.cells #[.int .u8 (c.toNat : Int)] 5)) = .ok (.string ⟨#[c]⟩) (w.alloc (.cells #[.int .u8 (c.toNat : Int)] 5)) :=
  conv_text Tryz.underlying96 Tryz.underlying5 Tryz.underlying9 (Sl.lit w 5 (bv [c]) 1 rfl (by simp [maxLen]))

theorem conv_lit (c : UInt8) (k : Int) (h : (c.toNat : Int) = k) (w : World) : (convert 96 9 (.slice (some ⟨w.heap.size, 0, none⟩) 1 1)).run Tryz.prog (w.alloc (.cells #[.int .u8 k] 5)) = .ok (.string ⟨#[c]⟩) (w.alloc (.cells #[.int .u8 k] 5)) := by
  subst h
  exact conv_one c w

/-- mark's answer. -/
def markV (c : UInt8) : Value := .tuple #[.string (if mrk c = true then ⟨#[c]⟩ else ⟨#[]⟩), .bool (mrk c)]
theorem mrk_ways (c : UInt8) : c = 123 ∨ c = 125 ∨ c = 40 ∨ c = 41 ∨ c = 46 ∨ c = 44 ∨ c = 59 ∨ c = 61 ∨ c = 60 ∨ c = 62 ∨ c = 33 ∨ mrk c = false := by
  unfold mrk
  simp only [Bool.or_eq_false_iff, decide_eq_false_iff_not]
  by_cases c = 123 <;> by_cases c = 125 <;> by_cases c = 40 <;> by_cases c = 41 <;> by_cases c = 46 <;> by_cases c = 44 <;> by_cases c = 59 <;> by_cases c = 61 <;> by_cases c = 60 <;> by_cases c = 62 <;> by_cases c = 33 <;> simp_all
set_option maxHeartbeats 1600000 in
theorem mark_any (c : UInt8) (w : World) : Calls Tryz.prog 76 #[.int .u8 (c.toNat : Int)] w fun e w' => e = .returned (markV c) ∧ Below w.heap.size w w' := by
  have hc0 := conv_lit 123 123 rfl w
  have hc1 := conv_lit 125 125 rfl w
  have hc2 := conv_lit 40 40 rfl w
  have hc3 := conv_lit 41 41 rfl w
  have hc4 := conv_lit 46 46 rfl w
  have hc5 := conv_lit 44 44 rfl w
  have hc6 := conv_lit 59 59 rfl w
  have hc7 := conv_lit 61 61 rfl w
  have hc8 := conv_lit 60 60 rfl w
  have hc9 := conv_lit 62 62 rfl w
  have hc10 := conv_lit 33 33 rfl w
  have HB : Hid (∀ k : Int, Below w.heap.size w (w.alloc (.cells #[.int .u8 k] 5))) := Lib.hid fun k => (Below.refl _ _).alloc (Nat.le_refl _) _
  rcases mrk_ways c with rfl | rfl | rfl | rfl | rfl | rfl | rfl | rfl | rfl | rfl | rfl | h
  case inr.inr.inr.inr.inr.inr.inr.inr.inr.inr.inr =>
    have e : ∀ k : UInt8, mrk k = true → ((c.toNat : Int) == (k.toNat : Int)) = false := fun k hk => by
      rw [beq_eq_false_iff_ne]
      intro he
      have : c = k := UInt8.toNat_inj.1 (by omega)
      rw [this, hk] at h
      cases h
    have e1 : ((c.toNat : Int) == 123) = false := e 123 rfl
    have e2 : ((c.toNat : Int) == 125) = false := e 125 rfl
    have e3 : ((c.toNat : Int) == 40) = false := e 40 rfl
    have e4 : ((c.toNat : Int) == 41) = false := e 41 rfl
    have e5 : ((c.toNat : Int) == 46) = false := e 46 rfl
    have e6 : ((c.toNat : Int) == 44) = false := e 44 rfl
    have e7 : ((c.toNat : Int) == 59) = false := e 59 rfl
    have e8 : ((c.toNat : Int) == 61) = false := e 61 rfl
    have e9 : ((c.toNat : Int) == 60) = false := e 60 rfl
    have e10 : ((c.toNat : Int) == 62) = false := e 62 rfl
    have e11 : ((c.toNat : Int) == 33) = false := e 33 rfl
    have HH := Lib.hid h
    clear e h
    go_enter Tryz.func76, Tryz.ntmps76
    go_wp2_with fail
    go_ret2
    exact ⟨by unfold markV; rw [HH.out]; rfl, Below.refl _ _⟩
  all_goals
    go_enter Tryz.func76, Tryz.ntmps76
    go_wp2_with fail
    go_ret2
    exact ⟨rfl, HB.out _⟩
end Go.Proofs.YtdbnaaddocahpaaGreatDoor
/- strings.Clone, and name of package lex. -/
namespace Go.Proofs.YtdbnaaddocahpaaGreatDoor
set_option linter.unusedVariables false
open Go.RowKit

set_option maxRecDepth 10000 in
set_option maxHeartbeats 4000000 in
theorem slclone_any (s : ByteArray) (w : World) (hlim : s.size ≤ 1000000) :
    Calls Tryz.prog 130 #[.string s] w fun e w' => e = .returned (.string s) ∧ Below w.heap.size w w' := by
  by_cases h0 : s.size = 0
  · have hs : s = ⟨#[]⟩ := by
      apply ByteArray.ext
      exact Array.eq_empty_of_size_eq_zero h0
    subst hs
    clear h0 hlim
    go_enter Tryz.func130, Tryz.ntmps130
    go_wp2_with fail
    go_ret
    exact ⟨rfl, Below.refl _ _⟩
  · obtain ⟨i0, hi, hz0, hz1, hz2⟩ := info_parts u8info
    have hinfo : (Tryz.prog.info? 5).map (·.size) = some 1 := by rw [hi]; simp [hz1]
    have hco : Tryz.prog.cellsOf 5 = 1 := by simp [Program.cellsOf, hi, hz1]
    obtain ⟨M, hM⟩ : ∃ M, M = madeCells (Value.int .u8 0).cells (((s.size : Nat) : Int).toNat * i0.size) := ⟨_, rfl⟩
    have hMs : M.size = s.size := by rw [hM, size_madeCells, hz1]; simp
    have hmk : ∀ W : World, (Instr.makeSlice 96 (.int .i64 (s.size : Int)) (.int .i64 (s.size : Int))).run Tryz.prog W = .ok (.slice (some ⟨W.heap.size, 0, none⟩) s.size s.size) (W.alloc (.cells M 5)) := fun W => by
      have h := run_make (P := Tryz.prog) W 96 5 i0 (.int .u8 0) Tryz.underlying96 hi hz0 .i64 .i64 (s.size : Int) (s.size : Int) (by omega) (by omega) (by rw [hz2]; omega) (by omega)
      rw [← hM] at h
      simpa using h
    clear hM
    have hcp := Lib.run_copy_row_string (P := Tryz.prog) (w.alloc (.cells M 5)) 96 9 3 5 w.heap.size 0 s.size s.size s M 5 Tryz.underlying96 hinfo (heap_alloc_new w _) (Nat.le_refl _) (by omega)
    obtain ⟨Y, hY⟩ : ∃ Y, Y = (M.toList.take 0 ++ Lib.byteCells s.data.toList ++ M.toList.drop (0 + s.size)).toArray := ⟨_, rfl⟩
    rw [← hY] at hcp
    have hYl : Y.toList = Lib.byteCells s.data.toList := by
      rw [hY, List.toList_toArray, List.take_zero, List.nil_append, List.drop_of_length_le (by rw [Array.length_toList]; omega), List.append_nil]
    have hYs : Y.size = s.size := by rw [← Array.length_toList, hYl, Lib.byteCells_length, ← Lib.size_eq]
    have hgY : ((w.alloc (.cells M 5)).setRow w.heap.size Y).heap[w.heap.size]? = some (.cells Y 5 (0, 0)) := setRow_heap _ _ M _ 5 (0, 0) (heap_alloc_new w _)
    have hne : s.data.toList ≠ [] := fun e => h0 (by rw [Lib.size_eq, e]; rfl)
    have hUS := Lib.run_unsafeString_row (P := Tryz.prog) ((w.alloc (.cells M 5)).setRow w.heap.size Y) 144 3 9 5 Tryz.underlying144 hco w.heap.size Y.size (by unfold World.shape?; rw [hgY]) s.data.toList hne (by rw [← Lib.size_eq]; omega) (by rw [← Lib.size_eq]; omega)
      (fun j x hx => Lib.cells_of_row hgY Y.size j _ (by rw [List.take_of_length_le (by rw [Array.length_toList]; exact Nat.le_refl _), hYl]; simp [Lib.byteCells, hx]))
    rw [← Lib.size_eq] at hUS
    have H0 := Lib.hid hYl
    have H1 := Lib.hid hne
    have H2 := Lib.hid hgY
    clear hY hYl hne hgY hco hinfo hi hz0 hz1 hz2
    go_enter Tryz.func130, Tryz.ntmps130
    go_wp2_with fail
    go_ret
    have hb1 : Below w.heap.size w (w.alloc (.cells M 5)) := (Below.refl _ w).alloc (Nat.le_refl _) _
    have hb2 : Below w.heap.size (w.alloc (.cells M 5)) ((w.alloc (.cells M 5)).setRow w.heap.size Y) := ⟨rfl, rfl, rfl, by simp, fun k hk => setRow_other _ _ _ _ (by omega)⟩
    exact ⟨rfl, Lib.below_freeze (hb1.trans hb2) (p := ⟨w.heap.size, 0, none⟩) (Nat.le_refl _) _⟩

set_option maxHeartbeats 800000 in
theorem clone_any (s : ByteArray) (w : World) (hlim : s.size ≤ 1000000) :
    Calls Tryz.prog 109 #[.string s] w fun e w' => e = .returned (.string s) ∧ Below w.heap.size w w' := by
  have H := Lib.hid (slclone_any s w hlim)
  clear hlim
  go_enter Tryz.func109, Tryz.ntmps109
  go_wp2_with (go_at_call 130; refine H.out.mono ?_; rintro e w' ⟨rfl, hb⟩)
  go_ret
  exact ⟨rfl, hb⟩

/-- name's answer. -/
def nameV (s : ByteArray) : Value := .tuple #[.string (if Named s.data.toList then s else ⟨#[]⟩), .bool (decide (Named s.data.toList))]
set_option maxHeartbeats 800000 in
theorem lname_any (s : ByteArray) (w : World) (hlim : s.size ≤ 1000000) :
    Calls Tryz.prog 72 #[.string s] w fun e w' => e = .returned (nameV s) ∧ Below w.heap.size w w' := by
  have H := Lib.hid (clone_any s w hlim)
  have HN := Lib.hid (name_any s (by unfold maxLen; omega) w)
  clear hlim
  by_cases h : Named s.data.toList
  · have HV : Hid (nameV s = .tuple #[.string s, .bool true]) := by show _ = _; unfold nameV; rw [if_pos h, decide_eq_true h]
    rw [decide_eq_true h] at HN
    clear h
    go_enter Tryz.func72, Tryz.ntmps72
    go_wp2_with (first | (go_at_call 65; refine HN.out.mono ?_; rintro e w' ⟨rfl, rfl⟩) | (go_at_call 109; refine H.out.mono ?_; rintro e w' ⟨rfl, hb⟩))
    go_ret2
    exact ⟨by rw [HV.out]; rfl, hb⟩
  · have HV : Hid (nameV s = .tuple #[.string ⟨#[]⟩, .bool false]) := by show _ = _; unfold nameV; rw [if_neg h, decide_eq_false h]
    rw [decide_eq_false h] at HN
    clear h
    go_enter Tryz.func72, Tryz.ntmps72
    go_wp2_with (first | (go_at_call 65; refine HN.out.mono ?_; rintro e w' ⟨rfl, rfl⟩) | (go_at_call 109; refine H.out.mono ?_; rintro e w' ⟨rfl, hb⟩))
    go_ret2
    exact ⟨by rw [HV.out]; rfl, Below.refl _ _⟩
end Go.Proofs.YtdbnaaddocahpaaGreatDoor
/- one of package lex: a byte of a quoted text, and by how many it is written. -/
namespace Go.Proofs.YtdbnaaddocahpaaGreatDoor
set_option linter.unusedVariables false
open Go.RowKit

set_option maxRecDepth 100000 in
theorem or16f : ∀ x : Fin 16, ∀ y : Fin 16, (x.val * 16) ||| y.val = 16 * x.val + y.val := by decide +kernel
theorem u8_or16 {x y : Nat} (hx : x < 16) (hy : y < 16) : bits .or .u8 ((x : Int) * 16) (y : Int) = ((16 * x + y : Nat) : Int) := by
  rw [u8_or _ _ (by omega) (by omega) (by omega) (by omega)]
  have := or16f ⟨x, hx⟩ ⟨y, hy⟩
  dsimp only at this
  rw [show ((x : Int) * 16).toNat = x * 16 by omega, show ((y : Int)).toNat = y by omega, this]

/-- one's answer. -/
def oneV (l : List UInt8) : Value := .tuple #[.int .u8 ((((oneB l).map Prod.fst).getD 0).toNat : Int), .int .i64 ((((oneB l).map Prod.snd).getD 0 : Nat) : Int)]
theorem oneV_none {l : List UInt8} (h : oneB l = none) : oneV l = .tuple #[.int .u8 0, .int .i64 0] := by unfold oneV; rw [h]; rfl
theorem oneV_some {l : List UInt8} {x : UInt8} {k : Nat} (h : oneB l = some (x, k)) : oneV l = .tuple #[.int .u8 (x.toNat : Int), .int .i64 (k : Int)] := by unfold oneV; rw [h]; rfl
theorem list_three {l : List UInt8} {c a b : UInt8} (h0 : l[0]? = some c) (h1 : l[1]? = some a) (h2 : l[2]? = some b) : ∃ r, l = c :: a :: b :: r := by
  match l, h0, h1, h2 with
  | x :: y :: z :: r, h0, h1, h2 => simp at h0 h1 h2; subst h0 h1 h2; exact ⟨r, rfl⟩
theorem list_one {l : List UInt8} {c : UInt8} (h0 : l[0]? = some c) : ∃ r, l = c :: r := by
  match l, h0 with
  | x :: r, h0 => simp at h0; subst h0; exact ⟨r, rfl⟩

set_option maxHeartbeats 1600000 in
theorem one_any (s : ByteArray) (hs : s.size ≤ maxLen) (h0 : 0 < s.size) (w : World) :
    Calls Tryz.prog 111 #[.string s] w fun e w' => e = .returned (oneV s.data.toList) ∧ w' = w := by
  have hl := data_len s
  have hc0 := data_at h0
  unfold maxLen at hs
  generalize hcc : s[0] = c at *
  have hal := alone_any c w
  have HA := Lib.hid hal
  clear hal
  cases ho : odd8 c with
  | false =>
    rw [ho] at HA
    obtain ⟨r, hr⟩ := list_one hc0
    have HR : Hid (oneV s.data.toList = .tuple #[.int .u8 (c.toNat : Int), .int .i64 ((1 : Nat) : Int)]) := by show _ = _; rw [hr]; exact oneV_some (oneB_plain ho)
    clear hl hc0 hr ho
    go_enter Tryz.func111, Tryz.ntmps111
    go_wp2_with (go_at_call 131; refine HA.out.mono ?_; rintro e w' ⟨rfl, rfl⟩)
    go_ret2
    exact ⟨by rw [HR.out]; rfl, rfl⟩
  | true =>
    rw [ho] at HA
    by_cases h92 : c = 92
    · subst h92
      replace HA : Hid (Calls Tryz.prog 131 #[.int .u8 92] w fun e w' => e = .returned (.bool (!true)) ∧ w' = w) := HA
      by_cases h3 : s.size < 3
      · obtain ⟨r, hr⟩ := list_one hc0
        have HR : Hid (oneV s.data.toList = .tuple #[.int .u8 0, .int .i64 0]) := by show _ = _; rw [hr] at hl ⊢; exact oneV_none (oneB_short (by simp only [List.length_cons] at hl; omega))
        clear hl hc0 hr ho
        go_enter Tryz.func111, Tryz.ntmps111
        go_wp2_with (go_at_call 131; refine HA.out.mono ?_; rintro e w' ⟨rfl, rfl⟩)
        go_ret2
        exact ⟨by rw [HR.out]; rfl, rfl⟩
      · have h1' : 1 < s.size := by omega
        have h2' : 2 < s.size := by omega
        have hc1 := data_at h1'
        have hc2 := data_at h2'
        generalize hca : s[1] = a at *
        generalize hcb : s[2] = b at *
        obtain ⟨r, hr⟩ := list_three hc0 hc1 hc2
        have hsa := sixteenth_any a w
        have hsb := sixteenth_any b w
        have HSA := Lib.hid hsa
        have HSB := Lib.hid hsb
        clear hsa hsb hc0 hc1 hc2 hl ho
        have HR := Lib.hid hr
        clear hr
        cases ha : hexv a with
        | none =>
          rw [ha] at HSA
          have HV : Hid (oneV s.data.toList = .tuple #[.int .u8 0, .int .i64 0]) := by show _ = _; rw [HR.out]; exact oneV_none (by rw [oneB_hex, ha, hexB_none1])
          have hb1 : ((hexv b).getD 0) < 16 := by
            cases hb : hexv b with
            | none => simp
            | some y => simpa using hexv_lt hb
          generalize (hexv b).getD 0 = y at *
          generalize (hexv b).isSome = yo at *
          clear ha
          have hx : ((none : Option Nat).getD 0 : Nat) = 0 := rfl
          go_enter Tryz.func111, Tryz.ntmps111
          go_wp2_with (first | (go_at_call 131; refine HA.out.mono ?_; rintro e w' ⟨rfl, rfl⟩) | (go_at_call 132; first | ((with_reducible refine HSA.out.mono ?_); rintro e w' ⟨rfl, rfl⟩) | ((with_reducible refine HSB.out.mono ?_); rintro e w' ⟨rfl, rfl⟩)))
          go_ret2
          exact ⟨by rw [HV.out]; rfl, rfl⟩
        | some x =>
          rw [ha] at HSA
          have hx := hexv_lt ha
          cases hb : hexv b with
          | none =>
            rw [hb] at HSB
            have HV : Hid (oneV s.data.toList = .tuple #[.int .u8 0, .int .i64 0]) := by show _ = _; rw [HR.out]; exact oneV_none (by rw [oneB_hex, hb, hexB_none2])
            clear ha hb
            go_enter Tryz.func111, Tryz.ntmps111
            go_wp2_with (first | (go_at_call 131; refine HA.out.mono ?_; rintro e w' ⟨rfl, rfl⟩) | (go_at_call 132; first | ((with_reducible refine HSA.out.mono ?_); rintro e w' ⟨rfl, rfl⟩) | ((with_reducible refine HSB.out.mono ?_); rintro e w' ⟨rfl, rfl⟩)))
            go_ret2
            exact ⟨by rw [HV.out]; rfl, rfl⟩
          | some y =>
            rw [hb] at HSB
            have hy := hexv_lt hb
            have hor := u8_or16 hx hy
            have hsum : ((UInt8.ofNat (16 * x + y)).toNat : Int) = 16 * (x : Int) + (y : Int) := by
              rw [ofNat_toNat (by omega)]; omega
            have hal2 := alone_any (UInt8.ofNat (16 * x + y)) w
            have HV := Lib.hid (show oneB (92 :: a :: b :: r) = if odd8 (UInt8.ofNat (16 * x + y)) = true then some (UInt8.ofNat (16 * x + y), 3) else none by rw [oneB_hex, ha, hb, hexB_some])
            clear ha hb
            rw [hsum] at hal2
            have HSUM := Lib.hid hsum
            clear hsum
            have HA2 := Lib.hid hal2
            clear hal2
            generalize hzz : UInt8.ofNat (16 * x + y) = z at *
            cases hoz : odd8 z with
            | true =>
              rw [hoz] at HA2
              have HV2 : Hid (oneV s.data.toList = .tuple #[.int .u8 (16 * (x : Int) + (y : Int)), .int .i64 ((3 : Nat) : Int)]) := by
                show _ = _
                rw [HR.out, ← HSUM.out]
                exact oneV_some (by rw [HV.out, if_pos hoz])
              clear hoz hzz
              go_enter Tryz.func111, Tryz.ntmps111
              go_wp2_with (first | (go_at_call 131; first | ((with_reducible refine HA.out.mono ?_); rintro e w' ⟨rfl, rfl⟩) | ((with_reducible refine HA2.out.mono ?_); rintro e w' ⟨rfl, rfl⟩)) | (go_at_call 132; first | ((with_reducible refine HSA.out.mono ?_); rintro e w' ⟨rfl, rfl⟩) | ((with_reducible refine HSB.out.mono ?_); rintro e w' ⟨rfl, rfl⟩)))
              go_ret2
              exact ⟨by rw [HV2.out]; rfl, rfl⟩
            | false =>
              rw [hoz] at HA2
              have HV2 : Hid (oneV s.data.toList = .tuple #[.int .u8 0, .int .i64 0]) := by
                show _ = _
                rw [HR.out]
                exact oneV_none (by rw [HV.out, if_neg (by rw [hoz]; simp)])
              clear hoz hzz
              go_enter Tryz.func111, Tryz.ntmps111
              go_wp2_with (first | (go_at_call 131; first | ((with_reducible refine HA.out.mono ?_); rintro e w' ⟨rfl, rfl⟩) | ((with_reducible refine HA2.out.mono ?_); rintro e w' ⟨rfl, rfl⟩)) | (go_at_call 132; first | ((with_reducible refine HSA.out.mono ?_); rintro e w' ⟨rfl, rfl⟩) | ((with_reducible refine HSB.out.mono ?_); rintro e w' ⟨rfl, rfl⟩)))
              go_ret2
              exact ⟨by rw [HV2.out]; rfl, rfl⟩
    · have h92' : ((c.toNat : Int) != 92) = true := by
        rw [bne_iff_ne]
        intro h
        exact h92 (UInt8.toNat_inj.1 (by have : (92 : UInt8).toNat = 92 := rfl; omega))
      obtain ⟨r, hr⟩ := list_one hc0
      have HR : Hid (oneV s.data.toList = .tuple #[.int .u8 0, .int .i64 0]) := by show _ = _; rw [hr]; exact oneV_none (oneB_odd ho h92)
      clear hl hc0 hr ho h92
      go_enter Tryz.func111, Tryz.ntmps111
      go_wp2_with (go_at_call 131; refine HA.out.mono ?_; rintro e w' ⟨rfl, rfl⟩)
      go_ret2
      exact ⟨by rw [HR.out]; rfl, rfl⟩
end Go.Proofs.YtdbnaaddocahpaaGreatDoor
/- below, above, number of package lex. -/
namespace Go.Proofs.YtdbnaaddocahpaaGreatDoor
set_option linter.unusedVariables false
open Go.RowKit

/-- What a number's digits give: the number, or nothing. -/
def numP (o : Option Nat) (s : Int) : Value := .tuple #[.int .i64 (s * ((o.getD 0 : Nat) : Int)), .bool o.isSome]
def BRel (l : List UInt8) (most : Nat) (n i : Value) : Prop := ∃ k m : Nat, k ≤ l.length ∧ m ≤ most ∧ m = numD (l.take k) ∧ n = .int .i64 (-(m : Int)) ∧ i = .int .i64 (k : Int)

set_option maxHeartbeats 1600000 in
theorem below_any (s : ByteArray) (hs : s.size ≤ 1000000) (hd : AllD s.data.toList) (most : Nat) (hm : 9 ≤ most) (hm2 : most ≤ 9223372036854775808) (w : World) :
    Calls Tryz.prog 110 #[.string s, .int .i64 (-(most : Int))] w fun e w' => e = .returned (numP (decD most s.data.toList) (-1)) ∧ w' = w := by
  have hl := data_len s
  generalize hL : s.data.toList = l at *
  have HD : Hid (∀ k (h : k < s.size), l[k]? = some s[k]) := by
    show ∀ k (h : k < s.size), l[k]? = some s[k]
    subst hL; exact fun k h => data_at h
  have HL := Lib.hid hl
  have HA : Hid (AllD l) := hd
  clear hl hd
  by_cases h0 : s.size = 0
  · have he : l = [] := List.eq_nil_of_length_eq_zero (by rw [HL.out, h0])
    have hse : s = ⟨#[]⟩ := by
      apply ByteArray.ext
      exact Array.eq_empty_of_size_eq_zero h0
    have HV : Hid (numP (decD most l) (-1) = .tuple #[.int .i64 0, .bool false]) := by show _ = _; rw [he]; unfold decD; rw [if_pos (.inl rfl)]; rfl
    subst hse
    clear he h0 HD HL HA hL hs
    go_enter Tryz.func110, Tryz.ntmps110
    go_wp2_with fail
    go_ret2
    exact ⟨by rw [HV.out]; rfl, rfl⟩
  · have h0' : 0 < s.size := by omega
    have hl0 := HD.out 0 h0'
    have hts : s.toList = l := by rw [ByteArray.toList_eq, hL]
    generalize hcc : s[0] = c0 at *
    obtain ⟨r, hr⟩ : ∃ r, l = c0 :: r := by
      match l, hl0 with
      | x :: r, hl0 => simp at hl0; subst hl0; exact ⟨r, rfl⟩
    have e1 : (s.toList == []) = false := by rw [hts, hr]; rfl
    have e1' : s.toList.isEmpty = false := by rw [hts, hr]; rfl
    have e2 : (s.toList == [48]) = decide (l = [48]) := by rw [hts]; rw [Bool.eq_iff_iff]; simp
    have HR := Lib.hid hr
    have HTS := Lib.hid hts
    have HL0 := Lib.hid hl0
    clear hr hts hl0 hL
    by_cases hz : c0 = 48 ∧ l ≠ [48]
    · obtain ⟨rfl, hne⟩ := hz
      have HV : Hid (numP (decD most l) (-1) = .tuple #[.int .i64 0, .bool false]) := by show _ = _; unfold decD; rw [if_pos (.inr (.inl ⟨by rw [HR.out]; rfl, hne⟩))]; rfl
      rw [decide_eq_false hne] at e2
      clear hne
      go_enter Tryz.func110, Tryz.ntmps110
      go_wp2_with fail
      go_ret2
      exact ⟨by rw [HV.out]; rfl, rfl⟩
    · have HZ := Lib.hid hz
      clear hz
      have two : (((c0.toNat : Int) == 48) = true ∧ l = [48]) ∨ ((c0.toNat : Int) == 48) = false := by
        by_cases h : c0 = 48
        · left
          subst h
          exact ⟨rfl, Classical.byContradiction fun hh => HZ.out ⟨rfl, hh⟩⟩
        · right
          rw [beq_eq_false_iff_ne]
          intro hh
          exact h (UInt8.toNat_inj.1 (by have : (48 : UInt8).toNat = 48 := rfl; omega))
      have hstart : BRel l most (.int .i64 0) (.int .i64 0) := ⟨0, 0, by omega, by omega, rfl, rfl, rfl⟩
      have HS := Lib.hid hstart
      clear hstart
      rcases two with ⟨a, b⟩ | a
      case' inl => rw [decide_eq_true b] at e2; clear b
      all_goals
        go_enter Tryz.func110, Tryz.ntmps110
        go_wp2_with fail
        go_loop [6, 22] (fun n i => BRel l most n i) (fun _ i => s.size - (intOf i).toNat)
        case atStart => exact HS.out
        case round =>
          obtain ⟨k, m, hk, hmm, hmd, rfl, rfl⟩ := hrel
          have HM := Lib.hid hmd
          clear hmd
          have hk2 : k ≤ s.size := by have := HL.out; omega
          clear hk
          by_cases hlt : k < s.size
          · have hi : 0 ≤ (k : Int) ∧ (k : Int) < s.size := by omega
            have hc := HD.out k hlt
            generalize hck : s[k] = c at *
            have hcd : 48 ≤ (c.toNat : Int) ∧ (c.toNat : Int) ≤ 57 := by
              have := HA.out c (List.mem_of_getElem? hc)
              unfold dgt at this
              simp at this
              omega
            have HC := Lib.hid hc
            clear hc
            have HN : Hid (numD (l.take (k + 1)) = 10 * m + (c.toNat - 48)) := by
              show _ = _
              obtain ⟨hk3, e⟩ := List.getElem?_eq_some_iff.1 HC.out
              rw [List.take_succ_eq_append_getElem hk3, numD_app, e, ← HM.out]
            by_cases hov : most < 10 * m + (c.toNat - 48)
            · have hq : (-(m : Int)) < (-(most : Int) + ((c.toNat : Int) - 48)).tdiv 10 := by
                rw [show -(most : Int) + ((c.toNat : Int) - 48) = -((most : Int) - ((c.toNat : Int) - 48)) by omega, Int.neg_tdiv, Int.tdiv_eq_ediv_of_nonneg (by omega)]
                omega
              have HV : Hid (numP (decD most l) (-1) = .tuple #[.int .i64 0, .bool false]) := by
                show _ = _
                unfold decD
                rw [if_pos (.inr (.inr (by
                  have := numD_mono (l.take (k + 1)) (l.drop (k + 1))
                  rw [List.take_append_drop] at this
                  have := HN.out
                  omega)))]
                rfl
              go_wp2_with fail
              go_ret2
              exact ⟨by rw [HV.out]; rfl, rfl⟩
            · have hq : ¬ (-(m : Int)) < (-(most : Int) + ((c.toNat : Int) - 48)).tdiv 10 := by
                rw [show -(most : Int) + ((c.toNat : Int) - 48) = -((most : Int) - ((c.toNat : Int) - 48)) by omega, Int.neg_tdiv, Int.tdiv_eq_ediv_of_nonneg (by omega)]
                omega
              go_wp2_with fail
              go_round
              case rel => exact ⟨k + 1, 10 * m + (c.toNat - 48), by have := HL.out; omega, by omega, HN.out.symm, by first | rfl | (exact int_eq (by omega)), by go_num⟩
              case measure => simp [intOf]; omega
          · obtain rfl : k = s.size := by omega
            have HV : Hid (numP (decD most l) (-1) = .tuple #[.int .i64 (-(m : Int)), .bool true]) := by
              show _ = _
              have e : numD l = m := by rw [HM.out, ← HL.out, List.take_length]
              have e3 : decD most l = some m := by
                unfold decD
                rw [if_neg, e]
                rintro (h | ⟨h, h'⟩ | h)
                · rw [HR.out] at h; cases h
                · rw [HR.out] at h; simp at h; exact HZ.out ⟨h, h'⟩
                · omega
              rw [e3]
              unfold numP
              simp
            go_wp2_with fail
            go_ret2
            exact ⟨by rw [HV.out]; rfl, rfl⟩
end Go.Proofs.YtdbnaaddocahpaaGreatDoor
