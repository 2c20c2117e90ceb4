/- Several texts in one: Parse6, Parse7. -/
import Derived.Test.YtmoglaknmlhpgaaGreatDoorOnlR
/- The parser: duties. -/
namespace Go.Proofs.YtmoglaknmlhpgaaGreatDoor
set_option linter.unusedVariables false
open Go.RowKit

def DuP (w : World) (R : Nat → Prop) (vs : List Value) (m : Dut) : Prop := vs = m.cells ∧ m.ok
theorem keeps_dup : Keeps DuP := fun _ _ _ _ _ _ h _ _ => h
theorem dutinfo9 : (Tryz.prog.info? 65).map (fun i => (i.zero, i.size, i.bytes)) = some (some (.agg #[.int .i64 0, .int .i64 0, .string ⟨#[]⟩]), 3, 32) := by kernel_rfl
theorem push_dut9 {w : World} {base n c : Nat} {A : Option Addr} {l : List Dut} {x : Dut} (h : Gr 3 DuP w base 65 A n c l) (hx : x.ok) (hn : n < 1000000) {b : Nat} (hbk : w.heap.size = b) :
  ∃ A' c' w', (Builtin.append_ #[26, 26] 26 #[.slice A n c, .slice (some ⟨b, 0, none⟩) 1 1]).run Tryz.prog (w.alloc (.cells #[.int .i64 x.on, .int .i64 x.kind, .string x.arg] 65)) = .ok (.slice A' (n + 1) c') w' ∧ Gr 3 DuP w' base 65 A' (n + 1) c' (l ++ [x]) ∧ Below base w w' := by
 subst hbk
 obtain ⟨i, hi, hz, hs, hb⟩ := info_of dutinfo9
 exact Gr.push (vs := x.cells) (x := x) Tryz.underlying26 hi hz hs hb rfl (by omega) (by omega) keeps_dup h ⟨rfl, hx⟩ rfl (fun _ _ _ _ h => by
  obtain ⟨rfl, _⟩ := h
  intro v hv
  simp [Dut.cells] at hv
  rcases hv with rfl | rfl | rfl <;> rfl) hn
theorem dutiesR_stop {n : Nat} {l : List Dut} {s s1 : Pz} (h : takeR [w_on] s = (0, s1)) : dutiesR (n + 1) l s = (l, s1) := by
 unfold dutiesR
 rw [h, if_pos rfl]
theorem dutiesR_succ {n i j k : Nat} {l : List Dut} {s s1 s2 s3 s4 s5 : Pz} {nm : ByteArray} {m : Int} (h : takeR [w_on] s = (i, s1)) (hi : i ≠ 0) (h2 : mustR [w_permit, w_deny] s1 = (j, s2)) (h3 : mustR [w_log, w_redact, w_review, w_notify] s2 = (k, s3)) (h4 : nameR s3 = (nm, s4))
  (hm : ((l ++ [(⟨(j : Int), (k : Int), nm⟩ : Dut)]).length : Int) = m) (h5 : mostR m 8 s4 = s5) : dutiesR (n + 1) l s = dutiesR n (l ++ [⟨(j : Int), (k : Int), nm⟩]) s5 := by
 conv => lhs; unfold dutiesR
 rw [h, if_neg hi]
 simp only [h2, h3, h4]
 rw [hm, h5]

section
variable {L g : Nat} {w : World} {s : Pz}
set_option maxHeartbeats 3200000 in
theorem pduts_any (h : Rd L w g s) : Calls Tryz.prog 95 #[.pointer (some ⟨g, 0, none⟩)] w fun x w' => ∃ A n c, x = .returned (.slice A n c) ∧ Only g w w' ∧ Rd L w' g (dutsR s).2 ∧ Dus w' (fun b => w.heap.size ≤ b) A n c (dutsR s).1 := by
 have HG0 : Hid (g < w.heap.size) := h.lt
 have HL0 : Hid (s.rest.length ≤ 5000) := h.ok.2.2.1.1
 have HH := Lib.hid h
 obtain ⟨z, hz⟩ : ∃ z, z = dutsR s := ⟨_, rfl⟩
 have HZ : Hid (z = dutiesR s.rest.length [] s) := hz
 rw [← hz]
 clear h hz
 go_enter Tryz.func95, Tryz.ntmps95
 go_wp2
 go_loopw [3] (fun v wr => ∃ (k : Nat) (A : Option Addr) (c : Nat) (l : List Dut) (s' : Pz) (q : Nat), v = .slice A k c ∧ Only g w wr ∧ Rd L wr g s' ∧ Gr 3 DuP wr w.heap.size 65 A k c l ∧ k + s'.rest.length ≤ s.rest.length ∧ s'.rest.length ≤ q ∧ dutiesR q l s' = z) (fun v wr => restN wr g)
 case atStart => exact ⟨0, none, 0, [], s, s.rest.length, rfl, Only.refl, HH.out, Gr.nil _ _ (Nat.le_refl _), by omega, Nat.le_refl _, HZ.out.symm⟩
 case round =>
  obtain ⟨k, A, c, l, s', q, rfl, ho, hr, hg, hk, hq, he⟩ := hrel
  have HOw := Lib.hid ho
  have HR0 := Lib.hid hr
  have HGr := Lib.hid hg
  have HK := Lib.hid hk
  have HQ := Lib.hid hq
  have HG : Hid (g < wr.heap.size) := hr.lt
  have hq1 := hr.ok.pos
  obtain ⟨q, rfl⟩ : ∃ q', q = q' + 1 := ⟨q - 1, by omega⟩
  have HO0 := Lib.hid (Only.refl (r := g) (w := wr))
  have HRN := Lib.hid hr.restN
  obtain ⟨i, s1, e1⟩ : ∃ i t, takeR [w_on] s' = (i, t) := ⟨_, _, rfl⟩
  have E1 := Lib.hid e1
  by_cases hi : i = 0
  ·subst hi
   have HE := Lib.hid ((dutiesR_stop e1).symm.trans he)
   clear ho hr hg hk hq he e1 hq1
   go_wp2_with fail
   go_at_call 120
   refine (ptake_lit HR0.out [w_on] #[.string ⟨#[111, 110]⟩] 1 rfl rfl (by omega) rfl).mono ?_
   rintro x u1 ⟨hx, ho, hr⟩
   obtain rfl : x = .returned (.int .i64 ((0 : Nat) : Int)) := by rw [hx, E1.out] <;> rfl
   rw [E1.out] at hr
   have HO1 := Lib.hid ho
   have HR1 := Lib.hid hr
   clear ho hr hx
   go_wp2_with fail
   go_ret
   rw [← HE.out]
   exact ⟨A, k, c, rfl, HOw.out.trans HO1.out, HR1.out, (HGr.out.at_only keeps_dup HO1.out HG0.out).rw keeps_dup (by have := HL0.out; have := HK.out; omega)⟩
  ·obtain ⟨j, s2, e2⟩ : ∃ i t, mustR [w_permit, w_deny] s1 = (i, t) := ⟨_, _, rfl⟩
   obtain ⟨n, s3, e3⟩ : ∃ i t, mustR [w_log, w_redact, w_review, w_notify] s2 = (i, t) := ⟨_, _, rfl⟩
   obtain ⟨nm, s4, e4⟩ : ∃ i t, nameR s3 = (i, t) := ⟨_, _, rfl⟩
   have hlen : ((l ++ [(⟨(j : Int), (n : Int), nm⟩ : Dut)]).length : Int) = (k : Int) + 1 := by rw [List.length_append]; have := hg.len; simp; omega
   have HE := Lib.hid ((dutiesR_succ e1 hi e2 e3 e4 hlen rfl).symm.trans he)
   have E2 := Lib.hid e2
   have E3 := Lib.hid e3
   have E4 := Lib.hid e4
   have g1 := take_go hr.ok [w_on]
   have hl1 := takeR_len hr.ok [w_on]
   rw [e1] at g1 hl1
   have hl1 : s1.rest.length + 1 = s'.rest.length := by
    have h3 : s1.rest.length + (if i = 0 then 0 else 1) = s'.rest.length := hl1
    rwa [if_neg hi] at h3
   have g2 := must_go g1.1 [w_permit, w_deny]
   rw [e2] at g2
   have g3 := must_go g2.1 [w_log, w_redact, w_review, w_notify]
   rw [e3] at g3
   have g4 := name_go g3.1
   have hnm := nameR_size g3.1
   rw [e4] at g4 hnm
   have g5 := most_go g4.1 ((k : Int) + 1) 8
   have HTL : Hid ((mostR ((k : Int) + 1) 8 s4).rest.length + 1 ≤ s'.rest.length) := by
    show _ ≤ _
    have a2 : s2.rest.length ≤ s1.rest.length := g2.2
    have a3 : s3.rest.length ≤ s2.rest.length := g3.2
    have a4 : s4.rest.length ≤ s3.rest.length := g4.2
    have a5 : (mostR ((k : Int) + 1) 8 s4).rest.length ≤ s4.rest.length := g5.2
    omega
   have hj : j ≤ 2 := by have := mustR_le [w_permit, w_deny] s1; rw [e2] at this; exact this
   have hn : n ≤ 4 := by have := mustR_le [w_log, w_redact, w_review, w_notify] s2; rw [e3] at this; exact this
   have HOK : Hid ((⟨(j : Int), (n : Int), nm⟩ : Dut).ok) := Lib.hid ⟨in_small (by show -100 ≤ (j : Int); omega) (by show (j : Int) ≤ 100; omega), in_small (by show -100 ≤ (n : Int); omega) (by show (n : Int) ≤ 100; omega), hnm⟩
   have hk63 : k < 1000000 := by have := HL0.out; omega
   have hi2 : 0 < i := by omega
   clear ho hr hg hk hq he e1 e2 e3 e4 hlen g1 g2 g3 g4 g5 hl1 hnm hj hn hq1
   go_wp2_with fail
   go_at_call 120
   refine (ptake_lit HR0.out [w_on] #[.string ⟨#[111, 110]⟩] 1 rfl rfl (by omega) rfl).mono ?_
   rintro x u1 ⟨hx, ho, hr⟩
   obtain rfl : x = .returned (.int .i64 (i : Int)) := by rw [hx, E1.out] <;> rfl
   rw [E1.out] at hr
   clear hx
   have HO1 := Lib.hid (HO0.out.trans ho)
   have HR1 := Lib.hid hr
   clear ho hr
   have HSo : Hid (g < u1.heap.size ∧ wr.heap.size ≤ u1.heap.size) := ⟨HR1.out.lt, HO1.out.size⟩
   have HO2 := Lib.hid (HO1.out.al (.cells #[.int .i64 0, .int .i64 0, .string ⟨#[]⟩] 65))
   have HR2 := Lib.hid (HR1.out.alloc (.cells #[.int .i64 0, .int .i64 0, .string ⟨#[]⟩] 65))
   have HBo_2 := Lib.hid (Ob.made (u1) 65 #[.int .i64 0, .int .i64 0, .string ⟨#[]⟩])
   go_wp2_with fail
   go_at_call 90
   refine (pmust_lit HR2.out [w_permit, w_deny] #[.string ⟨#[112, 101, 114, 109, 105, 116]⟩, .string ⟨#[100, 101, 110, 121]⟩] 2 rfl rfl (by omega) (by first | rfl | (simp; done) | (simp [World.setCell]; done))).mono ?_
   rintro x u3 ⟨hx, ho, hr⟩
   obtain rfl : x = .returned (.int .i64 (j : Int)) := by rw [hx, E2.out] <;> rfl
   rw [E2.out] at hr
   clear hx
   have HO3 := Lib.hid (HO2.out.trans ho)
   have HR3 := Lib.hid hr
   have HBo_3 := Lib.hid (HBo_2.out.keep (ho.heap HBo_2.out.lt (by have := HG.out; have := HSo.out; omega)))
   clear ho hr
   have c4 := HBo_3.out.cell 0
   have f4 := HBo_3.out.frozen 0
   have HO4 := Lib.hid (HO3.out.new (r := u1.heap.size) (by have := HG.out; have := HSo.out; omega) 0 (.int .i64 (j : Int)))
   have HR4 := Lib.hid (HR3.out.set (r := u1.heap.size) (by have := HG.out; have := HSo.out; omega) 0 (.int .i64 (j : Int)))
   have HBo_4 : Hid (Ob (u3.setCell ⟨u1.heap.size, 0, none⟩ (.int .i64 (j : Int))) (u1.heap.size) 65 #[.int .i64 (j : Int), .int .i64 0, .string ⟨#[]⟩]) := Lib.hid (by have := HBo_3.out.put 0 (.int .i64 (j : Int)); simpa using this)
   go_wp2_with fail
   go_at_call 90
   refine (pmust_lit HR4.out [w_log, w_redact, w_review, w_notify] #[.string ⟨#[108, 111, 103]⟩, .string ⟨#[114, 101, 100, 97, 99, 116]⟩, .string ⟨#[114, 101, 118, 105, 101, 119]⟩, .string ⟨#[110, 111, 116, 105, 102, 121]⟩] 4 rfl rfl (by omega) (by first | rfl | (simp; done) | (simp [World.setCell]; done))).mono ?_
   rintro x u5 ⟨hx, ho, hr⟩
   obtain rfl : x = .returned (.int .i64 (n : Int)) := by rw [hx, E3.out] <;> rfl
   rw [E3.out] at hr
   clear hx
   have HO5 := Lib.hid (HO4.out.trans ho)
   have HR5 := Lib.hid hr
   have HBo_5 := Lib.hid (HBo_4.out.keep (ho.heap HBo_4.out.lt (by have := HG.out; have := HSo.out; omega)))
   clear ho hr
   have c6 := HBo_5.out.cell 1
   have f6 := HBo_5.out.frozen 1
   have HO6 := Lib.hid (HO5.out.new (r := u1.heap.size) (by have := HG.out; have := HSo.out; omega) 1 (.int .i64 (n : Int)))
   have HR6 := Lib.hid (HR5.out.set (r := u1.heap.size) (by have := HG.out; have := HSo.out; omega) 1 (.int .i64 (n : Int)))
   have HBo_6 : Hid (Ob (u5.setCell ⟨u1.heap.size, 1, none⟩ (.int .i64 (n : Int))) (u1.heap.size) 65 #[.int .i64 (j : Int), .int .i64 (n : Int), .string ⟨#[]⟩]) := Lib.hid (by have := HBo_5.out.put 1 (.int .i64 (n : Int)); simpa using this)
   go_wp2_with fail
   go_at_call 91
   refine (pname_any HR6.out).mono ?_
   rintro x u7 ⟨hx, ho, hr⟩
   obtain rfl : x = .returned (.string nm) := by rw [hx, E4.out] <;> rfl
   rw [E4.out] at hr
   clear hx
   have HO7 := Lib.hid (HO6.out.trans ho)
   have HR7 := Lib.hid hr
   have HBo_7 := Lib.hid (HBo_6.out.keep (ho.heap HBo_6.out.lt (by have := HG.out; have := HSo.out; omega)))
   clear ho hr
   have c8 := HBo_7.out.cell 2
   have f8 := HBo_7.out.frozen 2
   have HO8 := Lib.hid (HO7.out.new (r := u1.heap.size) (by have := HG.out; have := HSo.out; omega) 2 (.string nm))
   have HR8 := Lib.hid (HR7.out.set (r := u1.heap.size) (by have := HG.out; have := HSo.out; omega) 2 (.string nm))
   have HBo_8 : Hid (Ob (u7.setCell ⟨u1.heap.size, 2, none⟩ (.string nm)) (u1.heap.size) 65 #[.int .i64 (j : Int), .int .i64 (n : Int), .string nm]) := Lib.hid (by have := HBo_7.out.put 2 (.string nm); simpa using this)
   have c9_0 := HBo_8.out.cell 0
   have c9_1 := HBo_8.out.cell 1
   have c9_2 := HBo_8.out.cell 2
   have hgr := HGr.out.at_only keeps_dup HO8.out HG0.out
   obtain ⟨A2, c2, v2, r2, g2, b2⟩ := push_dut9 (x := ⟨(j : Int), (n : Int), nm⟩) hgr HOK.out hk63 (b := u7.heap.size) (by first | rfl | (simp; done) | (simp [World.setCell]; done))
   have HO2w := Lib.hid (((HOw.out.trans HO8.out)).below_at b2)
   have HR2w := Lib.hid (HR8.out.below b2 HG0.out)
   have R2 := Lib.hid r2
   have G2 := Lib.hid g2
   clear hgr r2 g2 b2
   go_wp2_with (at_builtin; refine wpList_append_run (o := ⟨some 23, _, _, _, _, _⟩) rfl _ _ _ _ rfl rfl rfl R2.out ?_)
   go_at_call 89
   refine (pmost_any HR2w.out ((k : Int) + 1) 8).mono ?_
   rintro x u9 ⟨rfl, ho, hr⟩
   have HO3 := Lib.hid (HO2w.out.trans ho)
   have HR3 := Lib.hid hr
   have G3 := Lib.hid (G2.out.at_only keeps_dup ho HG0.out)
   clear ho hr
   go_wp2_with fail
   go_roundw
   case rel => exact ⟨k + 1, A2, c2, _, _, q, rfl, HO3.out, HR3.out, G3.out, by have := HTL.out; have := HK.out; omega, by have := HTL.out; have := HQ.out; omega, HE.out⟩
   case measure => rw [HR3.out.restN, HRN.out]; have := HTL.out; omega
end
end Go.Proofs.YtmoglaknmlhpgaaGreatDoor
/- The parser: expressions. -/
namespace Go.Proofs.YtmoglaknmlhpgaaGreatDoor
set_option linter.unusedVariables false
open Go.RowKit

def NoP (w : World) (R : Nat → Prop) (vs : List Value) (m : Nod) : Prop := vs = m.cells ∧ m.ok
theorem keeps_nop : Keeps NoP := fun _ _ _ _ _ _ h _ _ => h
theorem nodinfo9 : (Tryz.prog.info? 81).map (fun i => (i.zero, i.size, i.bytes)) = some (some (.agg #[.int .i64 0, .int .i64 0, .int .i64 0, .string ⟨#[]⟩, .int .i64 0, .string ⟨#[]⟩, .bool false]), 7, 72) := by kernel_rfl
def Fram (g : Nat) (v : Value) (w w' : World) : Prop := w'.os = w.os ∧ w'.tape = w.tape ∧ w'.output = w.output ∧ w.heap.size ≤ w'.heap.size ∧ ∀ b, b < w.heap.size → b ≠ g → some b ≠ v.ownBlock → w'.heap[b]? = w.heap[b]?
def Ownn (v v' : Value) (w : World) : Prop := v'.ownBlock = v.ownBlock ∨ ∃ b, v'.ownBlock = some b ∧ w.heap.size ≤ b
section
variable {g : Nat} {v v1 v2 : Value} {w w1 w2 : World}
theorem Fram.size (h : Fram g v w w1) : w.heap.size ≤ w1.heap.size := h.2.2.2.1
theorem Fram.heap (h : Fram g v w w1) {b : Nat} (hb : b < w.heap.size) (hg : b ≠ g) (hv : some b ≠ v.ownBlock) : w1.heap[b]? = w.heap[b]? := h.2.2.2.2 b hb hg hv
theorem Fram.refl : Fram g v w w := ⟨rfl, rfl, rfl, Nat.le_refl _, fun _ _ _ _ => rfl⟩
theorem Fram.of_only (h : Only g w w1) : Fram g v w w1 := ⟨h.os, h.tape, h.output, h.size, fun b hb hg _ => h.heap hb hg⟩
theorem Ownn.refl : Ownn v v w := .inl rfl
theorem Ownn.trans (h1 : Ownn v v1 w) (h2 : Ownn v1 v2 w1) (hs : w.heap.size ≤ w1.heap.size) : Ownn v v2 w := by
 rcases h2 with h2 | ⟨b, h2, hb⟩
 ·unfold Ownn
  rw [h2]
  exact h1
 ·exact .inr ⟨b, h2, by omega⟩
theorem Ownn.not (h : Ownn v v1 w) {b : Nat} (hb : b < w.heap.size) (hv : some b ≠ v.ownBlock) : some b ≠ v1.ownBlock := by
 rcases h with h | ⟨c, h, hc⟩
 ·rw [h]; exact hv
 ·rw [h]
  intro e
  injection e with e
  omega
theorem Fram.trans (h1 : Fram g v w w1) (ho : Ownn v v1 w) (h2 : Fram g v1 w1 w2) : Fram g v w w2 :=
 ⟨h2.1.trans h1.1, h2.2.1.trans h1.2.1, h2.2.2.1.trans h1.2.2.1, Nat.le_trans h1.size h2.size, fun b hb hg hv => (h2.heap (Nat.lt_of_lt_of_le hb h1.size) hg (ho.not hb hv)).trans (h1.heap hb hg hv)⟩
theorem Fram.only (h1 : Fram g v w w1) (h2 : Only g w1 w2) : Fram g v w w2 :=
 ⟨h2.os.trans h1.1, h2.tape.trans h1.2.1, h2.output.trans h1.2.2.1, Nat.le_trans h1.size h2.size, fun b hb hg hv => (h2.heap (Nat.lt_of_lt_of_le hb h1.size) hg).trans (h1.heap hb hg hv)⟩
theorem Fram.new (h1 : Fram g v w w1) {r : Nat} (hr : w.heap.size ≤ r) (i : Nat) (u : Value) : Fram g v w (w1.setCell ⟨r, i, none⟩ u) :=
 ⟨h1.1, h1.2.1, h1.2.2.1, by have := h1.size; simpa [World.setCell] using this, fun b hb hg hv => (Below.heap_setCell w1 ⟨r, i, none⟩ u b (show b ≠ r by omega)).trans (h1.heap hb hg hv)⟩
theorem Fram.ob {t : TypeId} {cs : Array Value} {r : Nat} (h : Fram g v w w1) (hb : Ob w r t cs) (hg : r ≠ g) (hv : some r ≠ v.ownBlock) : Ob w1 r t cs := hb.keep (h.heap hb.lt hg hv)
theorem Gr.own_lt {α : Type} {k : Nat} {P : World → (Nat → Prop) → List Value → α → Prop} {w : World} {base : Nat} {E : TypeId} {A : Option Addr} {n c : Nat} {l : List α} (h : Gr k P w base E A n c l) {b : Nat} (hb : w.heap.size ≤ b) : some b ≠ (Value.slice A n c).ownBlock := fun e => by
 have := (h.1.lt b e.symm).2
 omega
end
theorem Gr.set {w : World} {base : Nat} {A : Option Addr} {n c : Nat} {l : List Nod} (h : Gr 7 NoP w base 81 A n c l) {r : Nat} (hv : some r ≠ (Value.slice A n c).ownBlock) (i : Nat) (u : Value) : Gr 7 NoP (w.setCell ⟨r, i, none⟩ u) base 81 A n c l := by
 have o : Only r w (w.setCell ⟨r, i, none⟩ u) := Only.refl.setCell (p := ⟨r, i, none⟩) rfl u
 exact ⟨h.1.grown (row := some r) o (.inr (fun e => hv e.symm)), Nat.le_trans h.2 o.size⟩
theorem push_nod {w : World} {base n c : Nat} {A : Option Addr} {l : List Nod} {op vk vn ac : Int} {vs an : ByteArray} {am : Bool} (h : Gr 7 NoP w base 81 A n c l) (hx : (⟨op, ⟨vk, vn, vs⟩, ⟨ac, an, am⟩⟩ : Nod).ok) (hn : n < 1000000) {b : Nat} (hbk : w.heap.size = b) (g : Nat) :
  ∃ A' c' w', (Builtin.append_ #[75, 75] 75 #[.slice A n c, .slice (some ⟨b, 0, none⟩) 1 1]).run Tryz.prog (w.alloc (.cells #[.int .i64 op, .int .i64 vk, .int .i64 vn, .string vs, .int .i64 ac, .string an, .bool am] 81)) = .ok (.slice A' (n + 1) c') w' ∧ Gr 7 NoP w' base 81 A' (n + 1) c' (l ++ [⟨op, ⟨vk, vn, vs⟩, ⟨ac, an, am⟩⟩]) ∧ Below base w w' ∧
   Fram g (.slice A n c) w w' ∧ Ownn (.slice A n c) (.slice A' (n + 1) c') w := by
 subst hbk
 obtain ⟨x, hxe⟩ : ∃ x : Nod, x = ⟨op, ⟨vk, vn, vs⟩, ⟨ac, an, am⟩⟩ := ⟨_, rfl⟩
 rw [← hxe] at hx
 have hcells : x.cells = [.int .i64 op, .int .i64 vk, .int .i64 vn, .string vs, .int .i64 ac, .string an, .bool am] := by rw [hxe]; rfl
 obtain ⟨i, hi, hz, hs, hb⟩ := info_of nodinfo9
 have hbase := h.2
 have a1 : Below w.heap.size w (w.alloc (.cells x.cells.toArray 81)) := (Below.refl _ _).alloc (Nat.le_refl _) _
 have h' := Gr.below keeps_nop h a1
 have hlit : Rw 7 (NoP (w.alloc (.cells x.cells.toArray 81)) (Nb base (.slice A n c))) (w.alloc (.cells x.cells.toArray 81)) (fun _ => True) (some ⟨w.heap.size, 0, none⟩) 1 1 [x] := by
  have := Rw.lit (k := 7) (P := NoP (w.alloc (.cells x.cells.toArray 81)) (Nb base (.slice A n c))) (R := fun _ => True) w 81 (fun _ => x.cells) [x] (n := 1) rfl (by omega) trivial (fun _ _ => rfl) (fun y hy => by simp at hy; subst hy; exact ⟨rfl, hx⟩)
  simpa using this
 obtain ⟨A', c', w', hrun, hown, hbel, hg, hob⟩ := Ow.app (ty := 75) Tryz.underlying75 hi hz hs hb rfl (by omega) (by omega) h'.1 hlit (fun _ _ h => by
  obtain ⟨rfl, _⟩ := h
  intro v hv
  simp [Nod.cells] at hv
  rcases hv with rfl | rfl | rfl | rfl | rfl | rfl | rfl <;> rfl) (by omega) h'.2
 rw [hcells] at hrun
 rw [← hxe]
 refine ⟨A', c', w', hrun, ⟨hown.mapP fun vs x _ hp => hp, Nat.le_trans h'.2 hbel.size⟩, (a1.mono hbase).trans hbel, ⟨hg.os.trans rfl, hg.tape.trans rfl, hg.output.trans rfl, Nat.le_trans a1.size hg.size, fun b hb _ hv => (hg.block b (Nat.lt_of_lt_of_le hb a1.size) hv).trans (a1.block b hb)⟩, ?_⟩
 rcases hob with e | e
 ·exact .inl e
 ·exact .inr ⟨_, e, a1.size⟩

def EOk (L g n : Nat) : Prop := ∀ (w : World) (s : Pz) (l : List Nod) (bag : Bool) (base : Nat) (A : Option Addr) (k c : Nat), Rd L w g s → g < base → Gr 7 NoP w base 81 A k c l → s.rest.length ≤ n → k + 2 * s.rest.length ≤ 900000 →
 Calls Tryz.prog 160 #[.pointer (some ⟨g, 0, none⟩), .slice A k c, .bool bag] w fun x w' => ∃ A' k' c', x = .returned (.slice A' k' c') ∧ Fram g (.slice A k c) w w' ∧ Ownn (.slice A k c) (.slice A' k' c') w ∧ Rd L w' g (exprR n l bag s).2 ∧ Gr 7 NoP w' base 81 A' k' c' (exprR n l bag s).1
def COk (L g n : Nat) : Prop := ∀ (w : World) (s : Pz) (l : List Nod) (base : Nat) (A : Option Addr) (k c : Nat), Rd L w g s → g < base → Gr 7 NoP w base 81 A k c l → s.rest.length ≤ n → k + 2 * s.rest.length ≤ 899998 →
 Calls Tryz.prog 171 #[.pointer (some ⟨g, 0, none⟩), .slice A k c] w fun x w' => ∃ A' k' c', x = .returned (.tuple #[.slice A' k' c', .int .i64 (callR (exprR n) l s).2.1]) ∧ Fram g (.slice A k c) w w' ∧ Ownn (.slice A k c) (.slice A' k' c') w ∧ Rd L w' g (callR (exprR n) l s).2.2 ∧ Gr 7 NoP w' base 81 A' k' c' (callR (exprR n) l s).1 ∧ k' + 2 * (callR (exprR n) l s).2.2.rest.length ≤ k + 2 * s.rest.length + 2

section
variable {L g : Nat}
set_option maxHeartbeats 6400000 in
theorem call_step (n : Nat) (ih : EOk L g n) : COk L g n := by
 intro w s l base A k c h hgb hgr hn hk
 have HIH := Lib.hid ih
 have HR0 := Lib.hid h
 have HGB := Lib.hid hgb
 have HG0 := Lib.hid hgr
 have hgl := hgr.len
 obtain ⟨i, s1, e1⟩ : ∃ i t, mustR [w_one, w_size, w_has, w_eq, w_less, w_add, w_sub, w_mul, w_not, w_and, w_or] s = (i, t) := ⟨_, _, rfl⟩
 have hi : i ≤ 11 := by have := mustR_le [w_one, w_size, w_has, w_eq, w_less, w_add, w_sub, w_mul, w_not, w_and, w_or] s; rw [e1] at this; exact this
 have g1 := must_go h.ok [w_one, w_size, w_has, w_eq, w_less, w_add, w_sub, w_mul, w_not, w_and, w_or]
 rw [e1] at g1
 have g1l : s1.rest.length ≤ s.rest.length := g1.2
 obtain ⟨l2, s2, e2⟩ : ∃ a t, exprR n l (isBag (2 + (i : Int))) s1 = (a, t) := ⟨_, _, rfl⟩
 have g2 := expr_go n l (isBag (2 + (i : Int))) s1 g1.1 (by omega)
 rw [e2] at g2
 obtain ⟨⟨g2o, g2l⟩, g2c⟩ := g2
 simp only at g2l g2c g2o
 obtain ⟨l3, s3, e3⟩ : ∃ a t, (if isTwo (2 + (i : Int)) = true then exprR n l2 false s2 else (l2, s2)) = (a, t) := ⟨_, _, rfl⟩
 obtain ⟨j, s4, e4⟩ : ∃ a t, mustR [m_rp] s3 = (a, t) := ⟨_, _, rfl⟩
 have HE : Hid (callR (exprR n) l s = (l3, 2 + (i : Int), s4)) := by
  show _ = _
  unfold callR
  simp only [e1, e2, e3, e4]
 rw [HE.out]
 have HN : Hid (s1.rest.length ≤ n ∧ s2.rest.length ≤ n ∧ k + 2 * s1.rest.length ≤ 900000 ∧ l2.length + 2 * s2.rest.length ≤ k + 2 * s.rest.length + 1 ∧ k + 2 * s.rest.length ≤ 899998 ∧ l.length = k ∧ s2.rest.length ≤ s.rest.length) := ⟨by omega, by omega, by omega, by omega, hk, hgl, by omega⟩
 have E1 := Lib.hid e1
 have E2 := Lib.hid e2
 have E4 := Lib.hid e4
 have G2O := Lib.hid g2o
 have HI := Lib.hid hi
 have hcs : i = 1 ∨ i = 2 ∨ i = 3 ∨ i = 9 ∨ (i ≠ 1 ∧ i ≠ 2 ∧ i ≠ 3 ∧ i ≠ 9) := by omega
 rcases hcs with rfl | rfl | rfl | rfl | ⟨hi1, hi2, hi3, hi9⟩
 ·have E2 : Hid (exprR n l true s1 = (l2, s2)) := E2
  obtain ⟨rfl, rfl⟩ : l2 = l3 ∧ s2 = s3 := by have e3 : (l2, s2) = (l3, s3) := e3; exact ⟨congrArg Prod.fst e3, congrArg Prod.snd e3⟩
  have HN3 : Hid (s2.ok L) := G2O
  have h4 := must_go HN3.out [m_rp]
  rw [E4.out] at h4
  have HN4 : Hid (s4.rest.length ≤ s2.rest.length) := h4.2
  clear h hgb hgr hn hk hi e1 e2 e3 e4 g1 g1l g2o g2l g2c ih hgl h4
  go_enter Tryz.func171, Tryz.ntmps171
  go_wp2_with fail
  go_at_call 90
  refine (pmust_lit HR0.out [w_one, w_size, w_has, w_eq, w_less, w_add, w_sub, w_mul, w_not, w_and, w_or] #[.string ⟨#[111, 110, 101]⟩, .string ⟨#[115, 105, 122, 101]⟩, .string ⟨#[104, 97, 115]⟩, .string ⟨#[101, 113]⟩, .string ⟨#[108, 101, 115, 115]⟩, .string ⟨#[97, 100, 100]⟩, .string ⟨#[115, 117, 98]⟩, .string ⟨#[109, 117, 108]⟩, .string ⟨#[110, 111, 116]⟩, .string ⟨#[97, 110, 100]⟩, .string ⟨#[111, 114]⟩] 11 rfl rfl (by omega) rfl).mono ?_
  rintro x u1 ⟨hx, ho, hr⟩
  obtain rfl : x = .returned (.int .i64 ((1 : Nat) : Int)) := by rw [hx, E1.out] <;> rfl
  rw [E1.out] at hr
  have F1 := Lib.hid (Fram.of_only (v := .slice A k c) ho)
  have HR1 := Lib.hid hr
  have G1 := Lib.hid (HG0.out.at_only keeps_nop ho HGB.out)
  clear hx ho hr
  go_wp2_with fail
  go_at_call 160
  refine (HIH.out _ s1 l true base A k c HR1.out HGB.out G1.out HN.out.1 HN.out.2.2.1).mono ?_
  rintro x u2 ⟨A2, k2, c2, rfl, hf, hw, hr, hg⟩
  rw [E2.out] at hr hg
  have F2 := Lib.hid (F1.out.trans Ownn.refl hf)
  have W2 := Lib.hid (Ownn.trans (w := w) Ownn.refl hw F1.out.size)
  have HR2 := Lib.hid hr
  have G2 := Lib.hid hg
  have HL2 := Lib.hid hg.len
  clear hf hw hr hg
  go_wp2_with fail
  go_at_call 90
  refine (pmust_lit HR2.out [m_rp] #[.string ⟨#[41]⟩] 1 rfl rfl (by omega) rfl).mono ?_
  rintro x u4 ⟨rfl, ho, hr⟩
  rw [E4.out] at hr
  have F4 := Lib.hid (F2.out.only ho)
  have HR4 := Lib.hid hr
  have G4 := Lib.hid (G2.out.at_only keeps_nop ho HGB.out)
  clear ho hr
  go_wp2_with fail
  go_ret2
  refine ⟨A2, k2, c2, by rfl, F4.out, W2.out, HR4.out, G4.out, ?_⟩
  have h1 := HN.out; have h2 := HL2.out; have h4 := HN4.out; show k2 + 2 * s4.rest.length ≤ _; omega
 ·have E2 : Hid (exprR n l true s1 = (l2, s2)) := E2
  obtain ⟨rfl, rfl⟩ : l2 = l3 ∧ s2 = s3 := by have e3 : (l2, s2) = (l3, s3) := e3; exact ⟨congrArg Prod.fst e3, congrArg Prod.snd e3⟩
  have HN3 : Hid (s2.ok L) := G2O
  have h4 := must_go HN3.out [m_rp]
  rw [E4.out] at h4
  have HN4 : Hid (s4.rest.length ≤ s2.rest.length) := h4.2
  clear h hgb hgr hn hk hi e1 e2 e3 e4 g1 g1l g2o g2l g2c ih hgl h4
  go_enter Tryz.func171, Tryz.ntmps171
  go_wp2_with fail
  go_at_call 90
  refine (pmust_lit HR0.out [w_one, w_size, w_has, w_eq, w_less, w_add, w_sub, w_mul, w_not, w_and, w_or] #[.string ⟨#[111, 110, 101]⟩, .string ⟨#[115, 105, 122, 101]⟩, .string ⟨#[104, 97, 115]⟩, .string ⟨#[101, 113]⟩, .string ⟨#[108, 101, 115, 115]⟩, .string ⟨#[97, 100, 100]⟩, .string ⟨#[115, 117, 98]⟩, .string ⟨#[109, 117, 108]⟩, .string ⟨#[110, 111, 116]⟩, .string ⟨#[97, 110, 100]⟩, .string ⟨#[111, 114]⟩] 11 rfl rfl (by omega) rfl).mono ?_
  rintro x u1 ⟨hx, ho, hr⟩
  obtain rfl : x = .returned (.int .i64 ((2 : Nat) : Int)) := by rw [hx, E1.out] <;> rfl
  rw [E1.out] at hr
  have F1 := Lib.hid (Fram.of_only (v := .slice A k c) ho)
  have HR1 := Lib.hid hr
  have G1 := Lib.hid (HG0.out.at_only keeps_nop ho HGB.out)
  clear hx ho hr
  go_wp2_with fail
  go_at_call 160
  refine (HIH.out _ s1 l true base A k c HR1.out HGB.out G1.out HN.out.1 HN.out.2.2.1).mono ?_
  rintro x u2 ⟨A2, k2, c2, rfl, hf, hw, hr, hg⟩
  rw [E2.out] at hr hg
  have F2 := Lib.hid (F1.out.trans Ownn.refl hf)
  have W2 := Lib.hid (Ownn.trans (w := w) Ownn.refl hw F1.out.size)
  have HR2 := Lib.hid hr
  have G2 := Lib.hid hg
  have HL2 := Lib.hid hg.len
  clear hf hw hr hg
  go_wp2_with fail
  go_at_call 90
  refine (pmust_lit HR2.out [m_rp] #[.string ⟨#[41]⟩] 1 rfl rfl (by omega) rfl).mono ?_
  rintro x u4 ⟨rfl, ho, hr⟩
  rw [E4.out] at hr
  have F4 := Lib.hid (F2.out.only ho)
  have HR4 := Lib.hid hr
  have G4 := Lib.hid (G2.out.at_only keeps_nop ho HGB.out)
  clear ho hr
  go_wp2_with fail
  go_ret2
  refine ⟨A2, k2, c2, by rfl, F4.out, W2.out, HR4.out, G4.out, ?_⟩
  have h1 := HN.out; have h2 := HL2.out; have h4 := HN4.out; show k2 + 2 * s4.rest.length ≤ _; omega
 ·have E2 : Hid (exprR n l true s1 = (l2, s2)) := E2
  have e3 : exprR n l2 false s2 = (l3, s3) := e3
  have g3 := expr_go n l2 false s2 G2O.out HN.out.2.1
  rw [e3] at g3
  obtain ⟨⟨g3o, g3l⟩, g3c⟩ := g3
  have HN3 : Hid (l3.length + 2 * s3.rest.length ≤ l2.length + 2 * s2.rest.length + 1 ∧ s3.ok L) := ⟨g3c, g3o⟩
  have E3 := Lib.hid e3
  clear g3o g3l g3c
  have h4 := must_go HN3.out.2 [m_rp]
  rw [E4.out] at h4
  have HN4 : Hid (s4.rest.length ≤ s3.rest.length) := h4.2
  clear h hgb hgr hn hk hi e1 e2 e3 e4 g1 g1l g2o g2l g2c ih hgl h4
  go_enter Tryz.func171, Tryz.ntmps171
  go_wp2_with fail
  go_at_call 90
  refine (pmust_lit HR0.out [w_one, w_size, w_has, w_eq, w_less, w_add, w_sub, w_mul, w_not, w_and, w_or] #[.string ⟨#[111, 110, 101]⟩, .string ⟨#[115, 105, 122, 101]⟩, .string ⟨#[104, 97, 115]⟩, .string ⟨#[101, 113]⟩, .string ⟨#[108, 101, 115, 115]⟩, .string ⟨#[97, 100, 100]⟩, .string ⟨#[115, 117, 98]⟩, .string ⟨#[109, 117, 108]⟩, .string ⟨#[110, 111, 116]⟩, .string ⟨#[97, 110, 100]⟩, .string ⟨#[111, 114]⟩] 11 rfl rfl (by omega) rfl).mono ?_
  rintro x u1 ⟨hx, ho, hr⟩
  obtain rfl : x = .returned (.int .i64 ((3 : Nat) : Int)) := by rw [hx, E1.out] <;> rfl
  rw [E1.out] at hr
  have F1 := Lib.hid (Fram.of_only (v := .slice A k c) ho)
  have HR1 := Lib.hid hr
  have G1 := Lib.hid (HG0.out.at_only keeps_nop ho HGB.out)
  clear hx ho hr
  go_wp2_with fail
  go_at_call 160
  refine (HIH.out _ s1 l true base A k c HR1.out HGB.out G1.out HN.out.1 HN.out.2.2.1).mono ?_
  rintro x u2 ⟨A2, k2, c2, rfl, hf, hw, hr, hg⟩
  rw [E2.out] at hr hg
  have F2 := Lib.hid (F1.out.trans Ownn.refl hf)
  have W2 := Lib.hid (Ownn.trans (w := w) Ownn.refl hw F1.out.size)
  have HR2 := Lib.hid hr
  have G2 := Lib.hid hg
  have HL2 := Lib.hid hg.len
  clear hf hw hr hg
  go_wp2_with fail
  go_at_call 160
  refine (HIH.out _ s2 l2 false base A2 k2 c2 HR2.out HGB.out G2.out HN.out.2.1 (by have := HN.out; have := HL2.out; have : l2.length = k2 := HL2.out; show k2 + 2 * s2.rest.length ≤ 900000; omega)).mono ?_
  rintro x u3 ⟨A3, k3, c3, rfl, hf, hw, hr, hg⟩
  rw [E3.out] at hr hg
  have F3 := Lib.hid (F2.out.trans W2.out hf)
  have W3 := Lib.hid (Ownn.trans W2.out hw F2.out.size)
  have HR3 := Lib.hid hr
  have G3 := Lib.hid hg
  have HL3 := Lib.hid hg.len
  clear hf hw hr hg
  go_wp2_with fail
  go_at_call 90
  refine (pmust_lit HR3.out [m_rp] #[.string ⟨#[41]⟩] 1 rfl rfl (by omega) rfl).mono ?_
  rintro x u4 ⟨rfl, ho, hr⟩
  rw [E4.out] at hr
  have F4 := Lib.hid (F3.out.only ho)
  have HR4 := Lib.hid hr
  have G4 := Lib.hid (G3.out.at_only keeps_nop ho HGB.out)
  clear ho hr
  go_wp2_with fail
  go_ret2
  refine ⟨A3, k3, c3, by rfl, F4.out, W3.out, HR4.out, G4.out, ?_⟩
  have h1 := HN.out; have h2 := HL3.out; have h3 := HN3.out.1; have h4 := HN4.out; show k3 + 2 * s4.rest.length ≤ _; omega
 ·have E2 : Hid (exprR n l false s1 = (l2, s2)) := E2
  obtain ⟨rfl, rfl⟩ : l2 = l3 ∧ s2 = s3 := by have e3 : (l2, s2) = (l3, s3) := e3; exact ⟨congrArg Prod.fst e3, congrArg Prod.snd e3⟩
  have HN3 : Hid (s2.ok L) := G2O
  have h4 := must_go HN3.out [m_rp]
  rw [E4.out] at h4
  have HN4 : Hid (s4.rest.length ≤ s2.rest.length) := h4.2
  clear h hgb hgr hn hk hi e1 e2 e3 e4 g1 g1l g2o g2l g2c ih hgl h4
  go_enter Tryz.func171, Tryz.ntmps171
  go_wp2_with fail
  go_at_call 90
  refine (pmust_lit HR0.out [w_one, w_size, w_has, w_eq, w_less, w_add, w_sub, w_mul, w_not, w_and, w_or] #[.string ⟨#[111, 110, 101]⟩, .string ⟨#[115, 105, 122, 101]⟩, .string ⟨#[104, 97, 115]⟩, .string ⟨#[101, 113]⟩, .string ⟨#[108, 101, 115, 115]⟩, .string ⟨#[97, 100, 100]⟩, .string ⟨#[115, 117, 98]⟩, .string ⟨#[109, 117, 108]⟩, .string ⟨#[110, 111, 116]⟩, .string ⟨#[97, 110, 100]⟩, .string ⟨#[111, 114]⟩] 11 rfl rfl (by omega) rfl).mono ?_
  rintro x u1 ⟨hx, ho, hr⟩
  obtain rfl : x = .returned (.int .i64 ((9 : Nat) : Int)) := by rw [hx, E1.out] <;> rfl
  rw [E1.out] at hr
  have F1 := Lib.hid (Fram.of_only (v := .slice A k c) ho)
  have HR1 := Lib.hid hr
  have G1 := Lib.hid (HG0.out.at_only keeps_nop ho HGB.out)
  clear hx ho hr
  go_wp2_with fail
  go_at_call 160
  refine (HIH.out _ s1 l false base A k c HR1.out HGB.out G1.out HN.out.1 HN.out.2.2.1).mono ?_
  rintro x u2 ⟨A2, k2, c2, rfl, hf, hw, hr, hg⟩
  rw [E2.out] at hr hg
  have F2 := Lib.hid (F1.out.trans Ownn.refl hf)
  have W2 := Lib.hid (Ownn.trans (w := w) Ownn.refl hw F1.out.size)
  have HR2 := Lib.hid hr
  have G2 := Lib.hid hg
  have HL2 := Lib.hid hg.len
  clear hf hw hr hg
  go_wp2_with fail
  go_at_call 90
  refine (pmust_lit HR2.out [m_rp] #[.string ⟨#[41]⟩] 1 rfl rfl (by omega) rfl).mono ?_
  rintro x u4 ⟨rfl, ho, hr⟩
  rw [E4.out] at hr
  have F4 := Lib.hid (F2.out.only ho)
  have HR4 := Lib.hid hr
  have G4 := Lib.hid (G2.out.at_only keeps_nop ho HGB.out)
  clear ho hr
  go_wp2_with fail
  go_ret2
  refine ⟨A2, k2, c2, by rfl, F4.out, W2.out, HR4.out, G4.out, ?_⟩
  have h1 := HN.out; have h2 := HL2.out; have h4 := HN4.out; show k2 + 2 * s4.rest.length ≤ _; omega
 ·have q3 : ((2 + (i : Int)) == 3) = false := by rw [beq_eq_false_iff_ne]; omega
  have q4 : ((2 + (i : Int)) == 4) = false := by rw [beq_eq_false_iff_ne]; omega
  have q5 : ((2 + (i : Int)) == 5) = false := by rw [beq_eq_false_iff_ne]; omega
  have q11 : ((2 + (i : Int)) == 11) = false := by rw [beq_eq_false_iff_ne]; omega
  have p3 : ((2 + (i : Int)) != 3) = true := by rw [bne_iff_ne]; omega
  have p4 : ((2 + (i : Int)) != 4) = true := by rw [bne_iff_ne]; omega
  have p11 : ((2 + (i : Int)) != 11) = true := by rw [bne_iff_ne]; omega
  have hwr : IntKind.i64.wrap (2 + (i : Int)) = 2 + (i : Int) := IntWalk.i64_in _ (by omega)
  have hbag : isBag (2 + (i : Int)) = false := by simp [isBag]; omega
  have htwo : isTwo (2 + (i : Int)) = true := by simp [isTwo]; omega
  rw [hbag] at E2
  rw [if_pos htwo] at e3
  clear hbag htwo hi1 hi2 hi3 hi9
  have g3 := expr_go n l2 false s2 G2O.out HN.out.2.1
  rw [e3] at g3
  obtain ⟨⟨g3o, g3l⟩, g3c⟩ := g3
  have HN3 : Hid (l3.length + 2 * s3.rest.length ≤ l2.length + 2 * s2.rest.length + 1 ∧ s3.ok L) := ⟨g3c, g3o⟩
  have E3 := Lib.hid e3
  clear g3o g3l g3c
  have h4 := must_go HN3.out.2 [m_rp]
  rw [E4.out] at h4
  have HN4 : Hid (s4.rest.length ≤ s3.rest.length) := h4.2
  clear h hgb hgr hn hk hi e1 e2 e3 e4 g1 g1l g2o g2l g2c ih hgl h4
  go_enter Tryz.func171, Tryz.ntmps171
  go_wp2_with fail
  go_at_call 90
  refine (pmust_lit HR0.out [w_one, w_size, w_has, w_eq, w_less, w_add, w_sub, w_mul, w_not, w_and, w_or] #[.string ⟨#[111, 110, 101]⟩, .string ⟨#[115, 105, 122, 101]⟩, .string ⟨#[104, 97, 115]⟩, .string ⟨#[101, 113]⟩, .string ⟨#[108, 101, 115, 115]⟩, .string ⟨#[97, 100, 100]⟩, .string ⟨#[115, 117, 98]⟩, .string ⟨#[109, 117, 108]⟩, .string ⟨#[110, 111, 116]⟩, .string ⟨#[97, 110, 100]⟩, .string ⟨#[111, 114]⟩] 11 rfl rfl (by omega) rfl).mono ?_
  rintro x u1 ⟨hx, ho, hr⟩
  obtain rfl : x = .returned (.int .i64 ((i : Nat) : Int)) := by rw [hx, E1.out] <;> rfl
  rw [E1.out] at hr
  have F1 := Lib.hid (Fram.of_only (v := .slice A k c) ho)
  have HR1 := Lib.hid hr
  have G1 := Lib.hid (HG0.out.at_only keeps_nop ho HGB.out)
  clear hx ho hr
  go_wp2_with fail
  go_at_call 160
  refine (HIH.out _ s1 l false base A k c HR1.out HGB.out G1.out HN.out.1 HN.out.2.2.1).mono ?_
  rintro x u2 ⟨A2, k2, c2, rfl, hf, hw, hr, hg⟩
  rw [E2.out] at hr hg
  have F2 := Lib.hid (F1.out.trans Ownn.refl hf)
  have W2 := Lib.hid (Ownn.trans (w := w) Ownn.refl hw F1.out.size)
  have HR2 := Lib.hid hr
  have G2 := Lib.hid hg
  have HL2 := Lib.hid hg.len
  clear hf hw hr hg
  go_wp2_with fail
  go_at_call 160
  refine (HIH.out _ s2 l2 false base A2 k2 c2 HR2.out HGB.out G2.out HN.out.2.1 (by have := HN.out; have := HL2.out; have : l2.length = k2 := HL2.out; show k2 + 2 * s2.rest.length ≤ 900000; omega)).mono ?_
  rintro x u3 ⟨A3, k3, c3, rfl, hf, hw, hr, hg⟩
  rw [E3.out] at hr hg
  have F3 := Lib.hid (F2.out.trans W2.out hf)
  have W3 := Lib.hid (Ownn.trans W2.out hw F2.out.size)
  have HR3 := Lib.hid hr
  have G3 := Lib.hid hg
  have HL3 := Lib.hid hg.len
  clear hf hw hr hg
  go_wp2_with fail
  go_at_call 90
  refine (pmust_lit HR3.out [m_rp] #[.string ⟨#[41]⟩] 1 rfl rfl (by omega) rfl).mono ?_
  rintro x u4 ⟨rfl, ho, hr⟩
  rw [E4.out] at hr
  have F4 := Lib.hid (F3.out.only ho)
  have HR4 := Lib.hid hr
  have G4 := Lib.hid (G3.out.at_only keeps_nop ho HGB.out)
  clear ho hr
  go_wp2_with fail
  go_ret2
  refine ⟨A3, k3, c3, by rfl, F4.out, W3.out, HR4.out, G4.out, ?_⟩
  have h1 := HN.out; have h2 := HL3.out; have h3 := HN3.out.1; have h4 := HN4.out; show k3 + 2 * s4.rest.length ≤ _; omega
end
end Go.Proofs.YtmoglaknmlhpgaaGreatDoor
