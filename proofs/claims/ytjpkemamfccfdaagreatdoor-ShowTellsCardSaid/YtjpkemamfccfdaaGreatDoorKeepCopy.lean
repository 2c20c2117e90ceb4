/- bailiffkeep: a policy in new memory. -/
import Derived.Test.YtjpkemamfccfdaaGreatDoorKeepCopyT
import Derived.Test.YtjpkemamfccfdaaGreatDoorKeepIs
import Derived.Test.YtjpkemamfccfdaaGreatDoorHTail
import Derived.Test.YtjpkemamfccfdaaGreatDoorGrPol
import Derived.Deep.CutRange
import Derived.Laws.ResultCell
namespace Go.Proofs.YtjpkemamfccfdaaGreatDoor
set_option linter.unusedVariables false
open Go.RowKit

theorem dutsC_len {l : List Dut} : l.length ≤ dutsC l := by unfold dutsC; omega
theorem copy_r1 {w w5 : World} {p : Pol} {A1 A2 A3 A4 B1 B4 : Option Addr} {n1 n2 n3 n4 k1 k2 k3 k4 d1 d4 : Nat} (h0 : Below w.heap.size w w5) (ob : Ob w5 w.heap.size 28 #[.string p.id, .bool p.set, .int .i64 p.alg, .slice A1 n1 k1, .slice A2 n2 k2, .slice A3 n3 k3, .slice A4 n4 k4]) (oz : Ob w5 (w.heap.size + 1) 28 #[.string ⟨#[]⟩, .bool false, .int .i64 0, .slice none 0 0, .slice none 0 0, .slice none 0 0, .slice none 0 0])
    (t : Tg w5 (fun b => w.heap.size + 2 ≤ b) B1 n1 d1 p.tg) (u : Dus w5 (fun b => w.heap.size + 2 ≤ b) B4 n4 d4 p.ob) :
    ∃ B1' d1' B4' d4', Ob ((w5.setCell ⟨w.heap.size, 3, none⟩ (.slice B1 n1 d1)).setCell ⟨w.heap.size, 6, none⟩ (.slice B4 n4 d4)) w.heap.size 28 #[.string p.id, .bool p.set, .int .i64 p.alg, .slice B1' n1 d1', .slice A2 n2 k2, .slice A3 n3 k3, .slice B4' n4 d4'] ∧
      Ob ((w5.setCell ⟨w.heap.size, 3, none⟩ (.slice B1 n1 d1)).setCell ⟨w.heap.size, 6, none⟩ (.slice B4 n4 d4)) (w.heap.size + 1) 28 #[.string ⟨#[]⟩, .bool false, .int .i64 0, .slice none 0 0, .slice none 0 0, .slice none 0 0, .slice none 0 0] ∧ Below w.heap.size w ((w5.setCell ⟨w.heap.size, 3, none⟩ (.slice B1 n1 d1)).setCell ⟨w.heap.size, 6, none⟩ (.slice B4 n4 d4)) ∧
      Tg ((w5.setCell ⟨w.heap.size, 3, none⟩ (.slice B1 n1 d1)).setCell ⟨w.heap.size, 6, none⟩ (.slice B4 n4 d4)) (fun b => w.heap.size + 2 ≤ b) B1' n1 d1' p.tg ∧ Dus ((w5.setCell ⟨w.heap.size, 3, none⟩ (.slice B1 n1 d1)).setCell ⟨w.heap.size, 6, none⟩ (.slice B4 n4 d4)) (fun b => w.heap.size + 2 ≤ b) B4' n4 d4' p.ob := by
  have o : Only w.heap.size w5 ((w5.setCell ⟨w.heap.size, 3, none⟩ (.slice B1 n1 d1)).setCell ⟨w.heap.size, 6, none⟩ (.slice B4 n4 d4)) := (Only.refl.setCell (p := ⟨w.heap.size, 3, none⟩) rfl _).setCell (p := ⟨w.heap.size, 6, none⟩) rfl _
  have hk := o.kept (R := fun b => w.heap.size + 2 ≤ b) (fun b hb => by omega)
  refine ⟨B1, d1, B4, d4, ?_, oz.keep (o.heap oz.lt (by omega)), (h0.setCell (p := ⟨w.heap.size, 3, none⟩) (Nat.le_refl _) _).setCell (p := ⟨w.heap.size, 6, none⟩) (Nat.le_refl _) _, t.keep hk (fun _ h _ => h), u.keep hk (fun _ h _ => h)⟩
  have := (ob.put 3 (.slice B1 n1 d1)).put 6 (.slice B4 n4 d4)
  simpa using this

theorem copy_r6 {wr w5 : World} {r : Rul} {A5 A6 A7 B1 B2 B3 : Option Addr} {m1 m2 m3 c5 c6 c7 e1 e2 e3 : Nat} (h0 : Below wr.heap.size wr w5) (ob : Ob w5 wr.heap.size 54 #[.string r.id, .bool r.deny, .slice A5 m1 c5, .slice A6 m2 c6, .slice A7 m3 c7])
    (t : Tg w5 (fun b => wr.heap.size + 1 ≤ b) B1 m1 e1 r.tg) (u : Nds w5 (fun b => wr.heap.size + 1 ≤ b) B2 m2 e2 r.cond) (v : Dus w5 (fun b => wr.heap.size + 1 ≤ b) B3 m3 e3 r.ob) :
    ∃ B1' e1' B2' e2' B3' e3', Ob (((w5.setCell ⟨wr.heap.size, 2, none⟩ (.slice B1 m1 e1)).setCell ⟨wr.heap.size, 3, none⟩ (.slice B2 m2 e2)).setCell ⟨wr.heap.size, 4, none⟩ (.slice B3 m3 e3)) wr.heap.size 54 #[.string r.id, .bool r.deny, .slice B1' m1 e1', .slice B2' m2 e2', .slice B3' m3 e3'] ∧ Below wr.heap.size wr (((w5.setCell ⟨wr.heap.size, 2, none⟩ (.slice B1 m1 e1)).setCell ⟨wr.heap.size, 3, none⟩ (.slice B2 m2 e2)).setCell ⟨wr.heap.size, 4, none⟩ (.slice B3 m3 e3)) ∧
      Tg (((w5.setCell ⟨wr.heap.size, 2, none⟩ (.slice B1 m1 e1)).setCell ⟨wr.heap.size, 3, none⟩ (.slice B2 m2 e2)).setCell ⟨wr.heap.size, 4, none⟩ (.slice B3 m3 e3)) (fun b => wr.heap.size + 1 ≤ b) B1' m1 e1' r.tg ∧ Nds (((w5.setCell ⟨wr.heap.size, 2, none⟩ (.slice B1 m1 e1)).setCell ⟨wr.heap.size, 3, none⟩ (.slice B2 m2 e2)).setCell ⟨wr.heap.size, 4, none⟩ (.slice B3 m3 e3)) (fun b => wr.heap.size + 1 ≤ b) B2' m2 e2' r.cond ∧ Dus (((w5.setCell ⟨wr.heap.size, 2, none⟩ (.slice B1 m1 e1)).setCell ⟨wr.heap.size, 3, none⟩ (.slice B2 m2 e2)).setCell ⟨wr.heap.size, 4, none⟩ (.slice B3 m3 e3)) (fun b => wr.heap.size + 1 ≤ b) B3' m3 e3' r.ob := by
  have o : Only wr.heap.size w5 (((w5.setCell ⟨wr.heap.size, 2, none⟩ (.slice B1 m1 e1)).setCell ⟨wr.heap.size, 3, none⟩ (.slice B2 m2 e2)).setCell ⟨wr.heap.size, 4, none⟩ (.slice B3 m3 e3)) := ((Only.refl.setCell (p := ⟨wr.heap.size, 2, none⟩) rfl _).setCell (p := ⟨wr.heap.size, 3, none⟩) rfl _).setCell (p := ⟨wr.heap.size, 4, none⟩) rfl _
  have hk := o.kept (R := fun b => wr.heap.size + 1 ≤ b) (fun b hb => by omega)
  refine ⟨B1, e1, B2, e2, B3, e3, ?_, ((h0.setCell (p := ⟨wr.heap.size, 2, none⟩) (Nat.le_refl _) _).setCell (p := ⟨wr.heap.size, 3, none⟩) (Nat.le_refl _) _).setCell (p := ⟨wr.heap.size, 4, none⟩) (Nat.le_refl _) _, t.keep hk (fun _ h _ => h), u.keep hk (fun _ h _ => h), v.keep hk (fun _ h _ => h)⟩
  have := ((ob.put 2 (.slice B1 m1 e1)).put 3 (.slice B2 m2 e2)).put 4 (.slice B3 m3 e3)
  simpa using this
theorem sumC_len {α : Type} {f : α → Nat} (hf : ∀ x, 1 ≤ f x) : ∀ l : List α, l.length ≤ sumC f l
  | [] => Nat.zero_le _
  | x :: l => by
    have := sumC_len hf l
    have := hf x
    rw [List.length_cons]
    show _ ≤ f x + sumC f l
    omega
theorem kids_len {w : World} {R : Nat → Prop} {d n c : Nat} {A : Option Addr} {l : List Pol} (h : Pls w R d A n c l) : n ≤ sumC (polC d) l := by
  match d, h with
  | 0, h =>
    rcases Nat.eq_zero_or_pos n with h0 | h0
    · omega
    · obtain ⟨_, _, _, _, _, _, _, _, _, _, hp⟩ := Rw.at_ h h0
      exact hp.elim
  | d + 1, h =>
    rw [← Rw.len h]
    exact sumC_len (fun x => by unfold polC; omega) l
/-- The copy: the target and the duties lie ahead of s1, the rules between s1 and s2, the kids behind; a row's elements lie apart from the row. -/
def CopyTo (w w' : World) (d : Nat) (p : Pol) (B1 : Option Addr) (n1 d1 : Nat) (B2 : Option Addr) (n2 d2 : Nat) (B3 : Option Addr) (n3 d3 : Nat) (B4 : Option Addr) (n4 d4 : Nat) : Prop :=
  ∃ s1 s2, w.heap.size ≤ s1 ∧ s1 ≤ s2 ∧ s2 ≤ w'.heap.size ∧ Tg w' (fun b => w.heap.size ≤ b ∧ b < s1) B1 n1 d1 p.tg ∧ Dus w' (fun b => w.heap.size ≤ b ∧ b < s1) B4 n4 d4 p.ob ∧
    Ow 5 (RulAt w' (fun b => Nb s1 (.slice B2 n2 d2) b ∧ b < s2)) w' s1 54 B2 n2 d2 p.rules ∧ (∀ b, (Value.slice B2 n2 d2).ownBlock = some b → b < s2) ∧ Gr 7 (fun w R => PolAt w R d) w' s2 28 B3 n3 d3 p.kids
theorem CopyTo.at_ {w w' : World} {d : Nat} {p : Pol} {B1 B2 B3 B4 : Option Addr} {n1 n2 n3 n4 d1 d2 d3 d4 : Nat} (h : CopyTo w w' d p B1 n1 d1 B2 n2 d2 B3 n3 d3 B4 n4 d4) (hid : p.id.size ≤ maxLen) (ha : InI p.alg) (hn2 : n2 ≤ 3000) (hn3 : n3 ≤ 3000) :
    PolAt w' (fun b => w.heap.size ≤ b) (d + 1) [.string p.id, .bool p.set, .int .i64 p.alg, .slice B1 n1 d1, .slice B2 n2 d2, .slice B3 n3 d3, .slice B4 n4 d4] p := by
  obtain ⟨s1, s2, l1, l2, l3, ht, hd, hr, hl, hk⟩ := h
  refine ⟨B1, n1, d1, B2, n2, d2, B3, n3, d3, B4, n4, d4, rfl, hid, ha, ht.keep (Kept.refl _ _) (fun b hb _ => hb.1), ?_, ?_, hd.keep (Kept.refl _ _) (fun b hb _ => hb.1)⟩
  · have := (hr.mapP (P' := RulAt w' (fun b => s1 ≤ b)) (fun vs x _ h => h.keep (Kept.refl _ _) (fun b hb _ => hb.1.1))).rw (by omega) (R := fun b => s1 ≤ b) (fun _ _ h => h)
    exact Rus.keep this (Kept.refl _ _) (fun b hb _ => Nat.le_trans l1 hb)
  · have := Gr.rw (keeps_pol d) hk (by omega)
    exact Pls.keep this (Kept.refl _ _) (fun b hb _ => Nat.le_trans (Nat.le_trans l1 l2) hb)
def CpOk (d : Nat) : Prop := ∀ {w : World} {R : Nat → Prop} {p : Pol} {A1 A2 A3 A4 : Option Addr} {n1 n2 n3 n4 k1 k2 k3 k4 : Nat}, polC (d + 1) p ≤ 3000 → p.id.size ≤ maxLen → InI p.alg → Tg w R A1 n1 k1 p.tg → Rus w R A2 n2 k2 p.rules → Pls w R d A3 n3 k3 p.kids → Dus w R A4 n4 k4 p.ob →
    Calls Tryz.prog 10 #[.agg #[.string p.id, .bool p.set, .int .i64 p.alg, .slice A1 n1 k1, .slice A2 n2 k2, .slice A3 n3 k3, .slice A4 n4 k4]] w
      fun e w' => ∃ B1 d1 B2 d2 B3 d3 B4 d4, e = .returned (.agg #[.string p.id, .bool p.set, .int .i64 p.alg, .slice B1 n1 d1, .slice B2 n2 d2, .slice B3 n3 d3, .slice B4 n4 d4]) ∧ Below w.heap.size w w' ∧ CopyTo w w' d p B1 n1 d1 B2 n2 d2 B3 n3 d3 B4 n4 d4
/-- What holds behind the last stores. -/
theorem copy_end {w wa wb wr Wf W9 : World} {d : Nat} {p : Pol} {B1 B2 B3 B4 : Option Addr} {n1 n2 n3 n4 d1 d2 d3 d4 : Nat} (ha : Below w.heap.size w wa) (hab : Below wa.heap.size wa wb) (hbr : Below wb.heap.size wb wr) (hlt : w.heap.size + 2 ≤ wa.heap.size)
    (o1 : Only w.heap.size wr W9) (o2 : Only (w.heap.size + 1) W9 Wf) (t : Tg wa (fun b => w.heap.size + 2 ≤ b) B1 n1 d1 p.tg) (u : Dus wa (fun b => w.heap.size + 2 ≤ b) B4 n4 d4 p.ob) (hr : Gr 5 RulAt wb wa.heap.size 54 B2 n2 d2 p.rules) (hk : Gr 7 (fun w R => PolAt w R d) wr wb.heap.size 28 B3 n3 d3 p.kids) :
    Below w.heap.size w Wf ∧ CopyTo w Wf d p B1 n1 d1 B2 n2 d2 B3 n3 d3 B4 n4 d4 := by
  have har : Below wa.heap.size wa wr := hab.trans (hbr.mono hab.size)
  have hs9 := o1.size
  have hsf := o2.size
  have hwr : Below w.heap.size w wr := ha.trans (har.mono ha.size)
  have b9 : Below w.heap.size wr Wf := by
    refine ⟨o2.os.trans o1.os, o2.tape.trans o1.tape, o2.output.trans o1.output, by omega, fun k hk => (o2.heap (k := k) (by have := hwr.size; omega) (by omega)).trans (o1.heap (k := k) (by have := hwr.size; omega) (by omega))⟩
  have kp : ∀ {R : Nat → Prop}, (∀ b, R b → w.heap.size + 2 ≤ b) → Kept R wr Wf := fun {R} h => (o1.kept (fun b hb => by have := h b hb; omega)).trans (o2.kept (fun b hb => by have := h b hb; omega))
  refine ⟨hwr.trans b9, wa.heap.size, wb.heap.size, ha.size, hab.size, by have := hbr.size; omega, ?_, ?_, ?_, fun b e => (hr.1.lt b e).2, ?_⟩
  · exact (t.keep (Kept.all har _) (R' := fun b => w.heap.size + 2 ≤ b ∧ b < wa.heap.size) (fun b hb hlt => ⟨hb, hlt⟩)).keep (kp (fun b hb => hb.1)) (fun b hb _ => ⟨by have := hb.1; omega, hb.2⟩)
  · exact (u.keep (Kept.all har _) (R' := fun b => w.heap.size + 2 ≤ b ∧ b < wa.heap.size) (fun b hb hlt => ⟨hb, hlt⟩)).keep (kp (fun b hb => hb.1)) (fun b hb _ => ⟨by have := hb.1; omega, hb.2⟩)
  · have e1 := (hr.1.mapP (P' := RulAt Wf (fun b => Nb wa.heap.size (.slice B2 n2 d2) b ∧ b < wb.heap.size)) (fun vs x _ h => ((h.keep (Kept.all hbr _) (R' := fun b => Nb wa.heap.size (.slice B2 n2 d2) b ∧ b < wb.heap.size) (fun b hb hlt => ⟨hb, hlt⟩)).keep (kp (fun b hb => Nat.le_trans hlt hb.1.1)) (fun _ h _ => h)))).below hbr
    exact (e1.only o1 (by omega)).only o2 (by omega)
  · exact ((Gr.only (keeps_pol d) hk o1 (by have := hab.size; omega)).only (keeps_pol d) o2 (by have := hab.size; omega))
set_option maxRecDepth 100000 in
set_option maxHeartbeats 3200000 in
theorem copy_step (d : Nat) (IH : ∀ d', d = d' + 1 → CpOk d') : CpOk d := by
  intro w R p A1 A2 A3 A4 n1 n2 n3 n4 k1 k2 k3 k4 hs hid halg h1 h2 h3 h4
  have hst := small_tg hs
  have hn4 : n4 ≤ 3000 := by
    have := Rw.len h4
    have := dutsC_len (l := p.ob)
    unfold polC at hs
    omega
  have T1 := Lib.hid h1
  have T4 := Lib.hid h4
  have CT : Hid (∀ V : World, Below w.heap.size w V → Calls Tryz.prog 22 #[.slice A1 n1 k1] V fun e w' => ∃ A' c', e = .returned (.slice A' n1 c') ∧ Below V.heap.size V w' ∧ Tg w' (fun b => V.heap.size ≤ b) A' n1 c' p.tg) :=
    fun V hV => ctarget_any hst (h1.keep (Kept.all hV _) (fun _ h _ => h))
  have BW : Below w.heap.size w ((w.alloc (.cells #[.string p.id, .bool p.set, .int .i64 p.alg, .slice A1 n1 k1, .slice A2 n2 k2, .slice A3 n3 k3, .slice A4 n4 k4] 28)).alloc (.cells #[.string ⟨#[]⟩, .bool false, .int .i64 0, .slice none 0 0, .slice none 0 0, .slice none 0 0, .slice none 0 0] 28)) := ((Below.refl _ _).alloc (Nat.le_refl _) _).alloc (by rw [size_al]; omega) _
  have OB : Ob ((w.alloc (.cells #[.string p.id, .bool p.set, .int .i64 p.alg, .slice A1 n1 k1, .slice A2 n2 k2, .slice A3 n3 k3, .slice A4 n4 k4] 28)).alloc (.cells #[.string ⟨#[]⟩, .bool false, .int .i64 0, .slice none 0 0, .slice none 0 0, .slice none 0 0, .slice none 0 0] 28)) w.heap.size 28 #[.string p.id, .bool p.set, .int .i64 p.alg, .slice A1 n1 k1, .slice A2 n2 k2, .slice A3 n3 k3, .slice A4 n4 k4] :=
    (Ob.made w _ _).below (B := w.heap.size + 1) ((Below.refl _ _).alloc (by rw [size_al]; omega) _) (by omega)
  have OZ : Ob ((w.alloc (.cells #[.string p.id, .bool p.set, .int .i64 p.alg, .slice A1 n1 k1, .slice A2 n2 k2, .slice A3 n3 k3, .slice A4 n4 k4] 28)).alloc (.cells #[.string ⟨#[]⟩, .bool false, .int .i64 0, .slice none 0 0, .slice none 0 0, .slice none 0 0, .slice none 0 0] 28)) (w.heap.size + 1) 28 #[.string ⟨#[]⟩, .bool false, .int .i64 0, .slice none 0 0, .slice none 0 0, .slice none 0 0, .slice none 0 0] := by
    have := Ob.made (w.alloc (.cells #[.string p.id, .bool p.set, .int .i64 p.alg, .slice A1 n1 k1, .slice A2 n2 k2, .slice A3 n3 k3, .slice A4 n4 k4] 28)) 28 #[.string ⟨#[]⟩, .bool false, .int .i64 0, .slice none 0 0, .slice none 0 0, .slice none 0 0, .slice none 0 0]
    rwa [size_al] at this
  have SZ : ((w.alloc (.cells #[.string p.id, .bool p.set, .int .i64 p.alg, .slice A1 n1 k1, .slice A2 n2 k2, .slice A3 n3 k3, .slice A4 n4 k4] 28)).alloc (.cells #[.string ⟨#[]⟩, .bool false, .int .i64 0, .slice none 0 0, .slice none 0 0, .slice none 0 0, .slice none 0 0] 28)).heap.size = w.heap.size + 2 := by simp
  clear h1 h4
  go_enter Tryz.func10, Tryz.ntmps10
  go_wp2_with fail
  generalize (w.alloc (.cells #[.string p.id, .bool p.set, .int .i64 p.alg, .slice A1 n1 k1, .slice A2 n2 k2, .slice A3 n3 k3, .slice A4 n4 k4] 28)).alloc (.cells #[.string ⟨#[]⟩, .bool false, .int .i64 0, .slice none 0 0, .slice none 0 0, .slice none 0 0, .slice none 0 0] 28) = W0 at *
  have KO : Hid (∀ V : World, Below (w.heap.size + 2) W0 V → Ob V w.heap.size 28 #[.string p.id, .bool p.set, .int .i64 p.alg, .slice A1 n1 k1, .slice A2 n2 k2, .slice A3 n3 k3, .slice A4 n4 k4] ∧ Ob V (w.heap.size + 1) 28 #[.string ⟨#[]⟩, .bool false, .int .i64 0, .slice none 0 0, .slice none 0 0, .slice none 0 0, .slice none 0 0] ∧ Below w.heap.size w V) := fun V hV => ⟨OB.below hV (by omega), OZ.below hV (by omega), BW.trans (hV.mono (by omega))⟩
  have KS : Hid (∀ V : World, Below (w.heap.size + 2) W0 V → V.cell? ⟨w.heap.size, 3, none⟩ = some (.slice A1 n1 k1) ∧ V.cell? ⟨w.heap.size, 6, none⟩ = some (.slice A4 n4 k4)) :=
    fun V hV => ⟨(hV.cell (by show w.heap.size < _; omega)).trans (OB.cell 3), (hV.cell (by show w.heap.size < _; omega)).trans (OB.cell 6)⟩
  have HOB := Lib.hid OB
  have HOZ := Lib.hid OZ
  have HSZ := Lib.hid SZ
  have HBW := Lib.hid BW
  clear OB OZ SZ BW
  go_cut [] from 9 to 17 (fun wx => ∃ B1 d1 B4 d4, Ob wx w.heap.size 28 #[.string p.id, .bool p.set, .int .i64 p.alg, .slice B1 n1 d1, .slice A2 n2 k2, .slice A3 n3 k3, .slice B4 n4 d4] ∧ Ob wx (w.heap.size + 1) 28 #[.string ⟨#[]⟩, .bool false, .int .i64 0, .slice none 0 0, .slice none 0 0, .slice none 0 0, .slice none 0 0] ∧ Below w.heap.size w wx ∧
    Tg wx (fun b => w.heap.size + 2 ≤ b) B1 n1 d1 p.tg ∧ Dus wx (fun b => w.heap.size + 2 ≤ b) B4 n4 d4 p.ob)
  case first =>
    refine wp_region_held_tail (fun w' => Below (w.heap.size + 2) W0 w') 8 (by kernel_rfl) (by kernel_rfl) ?_
    intro G
    change HeadW _ _ _ _ _ _ _ _ _ _ (W0.drewN 1)
    have S0 := Lib.hid (below_drewN (Below.refl (w.heap.size + 2) W0) 1)
    refine HeadW_take (i := 0) (v := ?_) G rfl (by kernel_rfl) (by kernel_rfl) (by kernel_rfl) (fun _ _ _ h => h) (Or.inl ⟨by rfl, ?_⟩) S0.out ?_
    rotate_left
    · intro w hS
      go_simp
      try with_reducible rfl
    refine HeadW_take (i := 1) (v := ?_) G rfl (by kernel_rfl) (by kernel_rfl) (by kernel_rfl) (fun _ _ _ h => h) (Or.inl ⟨by rfl, ?_⟩) S0.out ?_
    rotate_left
    · intro w hS
      have hk := KS.out _ hS
      have hk1 := hk.1
      go_simp
      try with_reducible rfl
    refine HeadW_take (i := 4) (v := ?_) G rfl (by kernel_rfl) (by kernel_rfl) (by kernel_rfl) (fun _ _ _ h => h) (Or.inl ⟨by rfl, ?_⟩) S0.out ?_
    rotate_left
    · intro w hS
      go_simp
      try with_reducible rfl
    refine HeadW_take (i := 5) (v := ?_) G rfl (by kernel_rfl) (by kernel_rfl) (by kernel_rfl) (fun _ _ _ h => h) (Or.inl ⟨by rfl, ?_⟩) S0.out ?_
    rotate_left
    · intro w hS
      have hk := KS.out _ hS
      have hk2 := hk.2
      go_simp
      try with_reducible rfl
    refine HeadW_ready (rs := [2, 3]) (by kernel_rfl) rfl rfl ?_
    refine AllW.cons rfl (fun K hK => ?_) (AllW.cons rfl (fun K hK => ?_) AllW.nil)
    · go_simp
      refine (CT.out _ (HBW.out.trans ((below_drewN (Below.refl W0.heap.size W0) 1).mono (by have := HSZ.out; omega)))).mono ?_
      rintro e w1 ⟨B1, d1, rfl, hb, ht⟩
      have SV := Lib.hid (S0.out.trans (hb.mono (by show _ ≤ W0.heap.size; have := HSZ.out; omega)))
      have LT : w.heap.size + 2 ≤ w1.heap.size := by have := SV.out.size; have := HSZ.out; omega
      refine hK _ _ SV.out ?_
      clear hK K
      refine HeadW_take (i := 7) (v := ?_) G rfl (by kernel_rfl) (by kernel_rfl) (by kernel_rfl) (fun _ _ _ h => h) (Or.inl ⟨by rfl, ?_⟩) SV.out ?_
      rotate_left
      · intro w hS
        go_simp
        try with_reducible rfl
      refine HeadW_ready (rs := [3]) (by kernel_rfl) rfl rfl ?_
      refine AllW.cons rfl (fun K hK => ?_) AllW.nil
      go_simp
      refine hK _ _ (SV.out.alloc (by have := HSZ.out; omega) _) ?_
      clear hK K
      have S2 := Lib.hid (SV.out.alloc LT (.cells #[] 56))
      have T2 := Lib.hid (ht.keep (Kept.all ((Below.refl _ _).alloc (Nat.le_refl _) (.cells #[] 56)) _) (fun _ h _ => h))
      obtain ⟨A5, c5, w5, r5, b5, o5, q5⟩ := copy_duts_at (Ob.made w1 56 #[]) (T4.out.keep (Kept.all (HBW.out.trans (S2.out.mono (by omega))) _) (fun _ h _ => h)) (by omega) (by simp)
      refine HeadW_ready (rs := [6]) (by kernel_rfl) rfl rfl ?_
      refine AllW.cons rfl (fun K hK => ?_) AllW.nil
      refine step_append_run rfl (.tmp 12) (.tmp 14) _ _ rfl (by first | rfl | simp [Act.eval]) (by first | rfl | simp [Act.eval]) r5 ?_
      have S3 := Lib.hid (S2.out.trans (b5.mono LT))
      refine hK _ _ S3.out ?_
      clear hK K
      have T5 : Hid (Tg w5 (fun b => w.heap.size + 2 ≤ b) B1 n1 d1 p.tg) := Lib.hid (ht.keep (Kept.all (((Below.refl w1.heap.size w1).alloc (Nat.le_refl _) (.cells #[] 56)).trans b5) _) (fun b hb _ => by have h : W0.heap.size ≤ b := hb; have := HSZ.out; omega))
      have D5 := Lib.hid (o5.keep (Kept.refl _ _) (R' := fun b => w.heap.size + 2 ≤ b) (fun b hb _ => by have h : b = w1.heap.size ∨ b = (w1.alloc (.cells #[] 56)).heap.size := hb; rw [size_al] at h; have := HSZ.out; show _ ≤ b; omega))
      intro _
      refine ⟨by kernel_rfl, ?_⟩
      simp only [List.drop_succ_cons, List.drop_zero]
      obtain ⟨o5, z5, e5⟩ := KO.out _ S3.out
      have f1 := o5.frozen 3
      have f2 := (o5.put 3 (.slice B1 n1 d1)).frozen 6
      have f3 := o5.cell 3
      have f4 := (o5.put 3 (.slice B1 n1 d1)).cell 6
      have HRel := Lib.hid (copy_r1 e5 o5 z5 T5.out D5.out)
      clear o5 z5 e5
      go_wp2_with fail
      go_meet
      case rel => exact HRel.out
    · go_simp
      have SA := Lib.hid (S0.out.alloc (by show _ ≤ W0.heap.size; have := HSZ.out; omega) (.cells #[] 56))
      refine hK _ _ SA.out ?_
      clear hK K
      refine HeadW_ready (rs := [2]) (by kernel_rfl) rfl rfl ?_
      refine AllW.cons rfl (fun K hK => ?_) AllW.nil
      go_simp
      refine (CT.out _ (HBW.out.trans (SA.out.mono (by omega)))).mono ?_
      rintro e w1 ⟨B1, d1, rfl, hb, ht⟩
      have SV := Lib.hid (SA.out.trans (hb.mono (by rw [size_al]; show _ ≤ W0.heap.size + 1; have := HSZ.out; omega)))
      have LT : W0.heap.size + 1 ≤ w1.heap.size := by have := hb.size; rwa [size_al] at this
      have OE : Ob w1 W0.heap.size 56 #[] := (Ob.made (W0.drewN 1) 56 #[]).below hb (by rw [size_al]; show W0.heap.size < W0.heap.size + 1; omega)
      refine hK _ _ SV.out ?_
      clear hK K
      refine HeadW_take (i := 7) (v := ?_) G rfl (by kernel_rfl) (by kernel_rfl) (by kernel_rfl) (fun _ _ _ h => h) (Or.inl ⟨by rfl, ?_⟩) SV.out ?_
      rotate_left
      · intro w hS
        go_simp
        try with_reducible rfl
      obtain ⟨A5, c5, w5, r5, b5, o5, q5⟩ := copy_duts_at OE (T4.out.keep (Kept.all (HBW.out.trans (SV.out.mono (by omega))) _) (fun _ h _ => h)) (by omega) (by omega)
      refine HeadW_ready (rs := [6]) (by kernel_rfl) rfl rfl ?_
      refine AllW.cons rfl (fun K hK => ?_) AllW.nil
      refine step_append_run rfl (.tmp 12) (.tmp 14) _ _ rfl (by first | rfl | simp [Act.eval]) (by first | rfl | simp [Act.eval]) r5 ?_
      have S3 := Lib.hid (SV.out.trans (b5.mono (by have := HSZ.out; omega)))
      refine hK _ _ S3.out ?_
      clear hK K
      have T5 : Hid (Tg w5 (fun b => w.heap.size + 2 ≤ b) B1 n1 d1 p.tg) := Lib.hid (ht.keep (Kept.below_ q5 (fun b hb => by have h : ((W0.drewN 1).alloc (.cells #[] 56)).heap.size ≤ b := hb; rw [size_al] at h; have h : W0.heap.size + 1 ≤ b := h; show b ≠ W0.heap.size; omega)) (fun b hb _ => by have h : ((W0.drewN 1).alloc (.cells #[] 56)).heap.size ≤ b := hb; rw [size_al] at h; have h : W0.heap.size + 1 ≤ b := h; have := HSZ.out; show _ ≤ b; omega))
      have D5 := Lib.hid (o5.keep (Kept.refl _ _) (R' := fun b => w.heap.size + 2 ≤ b) (fun b hb _ => by have h : b = _ ∨ b = _ := hb; have := HSZ.out; show _ ≤ b; omega))
      intro _
      refine ⟨by kernel_rfl, ?_⟩
      simp only [List.drop_succ_cons, List.drop_zero]
      obtain ⟨o5, z5, e5⟩ := KO.out _ S3.out
      have f1 := o5.frozen 3
      have f2 := (o5.put 3 (.slice B1 n1 d1)).frozen 6
      have f3 := o5.cell 3
      have f4 := (o5.put 3 (.slice B1 n1 d1)).cell 6
      have HRel := Lib.hid (copy_r1 e5 o5 z5 T5.out D5.out)
      clear o5 z5 e5
      go_wp2_with fail
      go_meet
      case rel => exact HRel.out
  case rest =>
    obtain ⟨wa, hwa⟩ : ∃ wa, wa = wc := ⟨wc, rfl⟩
    subst hwa
    obtain ⟨B1p, d1p, B4p, d4p, hob, hoz, hbw, htp, hdp⟩ := hcut
    have OBw := Lib.hid hob
    have OZw := Lib.hid hoz
    have BWw := Lib.hid hbw
    have TPw := Lib.hid htp
    have DPw := Lib.hid hdp
    have cb4 := hob.cell 4
    have hle2 := Rw.le h2
    have hcap2 := Rw.cap h2
    have hbig2 := Rw.big h2
    have HL2 := Lib.hid (Rw.len h2)
    have HC2 : Hid (n2 + sumC ruleC p.rules ≤ 3000) := by
      show n2 + sumC ruleC p.rules ≤ 3000
      have := Rw.len h2
      unfold polC at hs
      omega
    unfold maxLen at hcap2
    have H2 := Lib.hid h2
    clear hob hoz hbw htp hdp h2
    go_wp2
    go_loopw [3, 21] (fun v i wr => ∃ (k : Nat) (A : Option Addr) (c : Nat), k ≤ n2 ∧ i = .int .i64 k ∧ v = .slice A k c ∧ Below wa.heap.size wa wr ∧ Gr 5 RulAt wr wa.heap.size 54 A k c (p.rules.take k)) (fun v i _ => n2 - (intOf i).toNat)
    case atStart => exact ⟨0, none, 0, Nat.zero_le _, rfl, rfl, Below.refl _ _, Gr.nil _ _ (Nat.le_refl _)⟩
    case round =>
      obtain ⟨k, A, c, hk, rfl, rfl, hb, hg⟩ := hrel
      have HB := Lib.hid hb
      have HG := Lib.hid hg
      clear hb hg
      by_cases hlt : k < n2
      · obtain ⟨b, o, r, A5, m1, c5, A6, m2, c6, A7, m3, c7, rfl, hRb, hbl, hr, hrid, ⟨g0, g1, g2, g3, g4⟩, ht, hn, hd⟩ := (H2.out.keep (Kept.all (BWw.out.trans (HB.out.mono BWw.out.size)) _) (fun _ h _ => h)).at_ hlt
        have HX := Lib.hid hr
        have hsr := sumC_le (f := ruleC) hr
        have hcr : tgC r.tg ≤ ruleC r ∧ r.cond.length ≤ ruleC r ∧ dutsC r.ob ≤ ruleC r := by unfold ruleC; omega
        have hls := dutsC_len (l := r.ob)
        have hl6 := Rw.len hn
        have hl7 := Rw.len hd
        have hts : tgC r.tg ≤ 3000 := by have := HC2.out; omega
        have HM2 : Hid (m2 ≤ 1000000) := by show m2 ≤ 1000000; have := HC2.out; omega
        have HM3 : Hid (m3 ≤ 1000000) := by show m3 ≤ 1000000; have := HC2.out; omega
        have CR : Hid (∀ V : World, Below wr.heap.size wr V → Calls Tryz.prog 22 #[.slice A5 m1 c5] V fun e w' => ∃ A' c', e = .returned (.slice A' m1 c') ∧ Below V.heap.size V w' ∧ Tg w' (fun b => V.heap.size ≤ b) A' m1 c' r.tg) :=
          fun V hV => ctarget_any hts (ht.keep (Kept.all hV _) (fun _ h _ => h))
        have HN := Lib.hid hn
        have HD := Lib.hid hd
        have HID := Lib.hid hrid
        have hbr : Below wr.heap.size wr (wr.alloc (.cells #[.string r.id, .bool r.deny, .slice A5 m1 c5, .slice A6 m2 c6, .slice A7 m3 c7] 54)) := (Below.refl _ _).alloc (Nat.le_refl _) _
        have hor := Ob.made wr 54 #[.string r.id, .bool r.deny, .slice A5 m1 c5, .slice A6 m2 c6, .slice A7 m3 c7]
        have hzr : (wr.alloc (.cells #[.string r.id, .bool r.deny, .slice A5 m1 c5, .slice A6 m2 c6, .slice A7 m3 c7] 54)).heap.size = wr.heap.size + 1 := size_al _ _
        clear hr hsr hcr hls hl6 hl7 ht hn hd hts hrid
        go_wp2_with fail
        generalize wr.alloc (.cells #[.string r.id, .bool r.deny, .slice A5 m1 c5, .slice A6 m2 c6, .slice A7 m3 c7] 54) = W1 at *
        have KRO : Hid (∀ V : World, Below (wr.heap.size + 1) W1 V → Ob V wr.heap.size 54 #[.string r.id, .bool r.deny, .slice A5 m1 c5, .slice A6 m2 c6, .slice A7 m3 c7]) := fun V hV => hor.below hV (by omega)
        have KRS : Hid (∀ V : World, Below (wr.heap.size + 1) W1 V → V.cell? ⟨wr.heap.size, 2, none⟩ = some (.slice A5 m1 c5) ∧ V.cell? ⟨wr.heap.size, 3, none⟩ = some (.slice A6 m2 c6) ∧ V.cell? ⟨wr.heap.size, 4, none⟩ = some (.slice A7 m3 c7)) :=
          fun V hV => ⟨(hor.below hV (by omega)).cell 2, (hor.below hV (by omega)).cell 3, (hor.below hV (by omega)).cell 4⟩
        have HRB := Lib.hid hbr
        have HRZ := Lib.hid hzr
        clear hor hbr hzr g0 g1 g2 g3 g4
        go_cut [] from 25 to 38 (fun wx => ∃ B1 e1 B2 e2 B3 e3, Ob wx wr.heap.size 54 #[.string r.id, .bool r.deny, .slice B1 m1 e1, .slice B2 m2 e2, .slice B3 m3 e3] ∧ Below wr.heap.size wr wx ∧ Tg wx (fun b => wr.heap.size + 1 ≤ b) B1 m1 e1 r.tg ∧ Nds wx (fun b => wr.heap.size + 1 ≤ b) B2 m2 e2 r.cond ∧ Dus wx (fun b => wr.heap.size + 1 ≤ b) B3 m3 e3 r.ob)
        case first =>
          refine wp_region_held_tail (fun w' => Below (wr.heap.size + 1) W1 w') 12 (by kernel_rfl) (by kernel_rfl) ?_
          intro G
          change HeadW _ _ _ _ _ _ _ _ _ _ (W1.drewN 1)
          have S0 := Lib.hid (below_drewN (Below.refl (wr.heap.size + 1) W1) 1)
          have hz0 : (W1.drewN 1).heap.size ≤ W1.heap.size ∧ W1.heap.size ≤ (W1.drewN 1).heap.size := ⟨Nat.le_refl _, Nat.le_refl _⟩
          generalize W1.drewN 1 = v0 at *
          have LBv0 : wr.heap.size + 1 ≤ v0.heap.size := by have := HRZ.out; omega
          refine HeadW_take (i := 0) (v := ?_) G rfl (by kernel_rfl) (by kernel_rfl) (by kernel_rfl) (fun _ _ _ h => h) (Or.inl ⟨by rfl, ?_⟩) S0.out ?_
          rotate_left
          · intro wz hS
            go_simp
            try with_reducible rfl
          refine HeadW_take (i := 1) (v := ?_) G rfl (by kernel_rfl) (by kernel_rfl) (by kernel_rfl) (fun _ _ _ h => h) (Or.inl ⟨by rfl, ?_⟩) S0.out ?_
          rotate_left
          · intro wz hS
            have hk1 := (KRS.out _ hS).1
            go_simp
            try with_reducible rfl
          refine HeadW_take (i := 4) (v := ?_) G rfl (by kernel_rfl) (by kernel_rfl) (by kernel_rfl) (fun _ _ _ h => h) (Or.inl ⟨by rfl, ?_⟩) S0.out ?_
          rotate_left
          · intro wz hS
            go_simp
            try with_reducible rfl
          refine HeadW_take (i := 5) (v := ?_) G rfl (by kernel_rfl) (by kernel_rfl) (by kernel_rfl) (fun _ _ _ h => h) (Or.inl ⟨by rfl, ?_⟩) S0.out ?_
          rotate_left
          · intro wz hS
            have hk1 := (KRS.out _ hS).2.1
            go_simp
            try with_reducible rfl
          refine HeadW_take (i := 8) (v := ?_) G rfl (by kernel_rfl) (by kernel_rfl) (by kernel_rfl) (fun _ _ _ h => h) (Or.inl ⟨by rfl, ?_⟩) S0.out ?_
          rotate_left
          · intro wz hS
            go_simp
            try with_reducible rfl
          refine HeadW_take (i := 9) (v := ?_) G rfl (by kernel_rfl) (by kernel_rfl) (by kernel_rfl) (fun _ _ _ h => h) (Or.inl ⟨by rfl, ?_⟩) S0.out ?_
          rotate_left
          · intro wz hS
            have hk1 := (KRS.out _ hS).2.2
            go_simp
            try with_reducible rfl
          refine HeadW_ready (rs := [2, 3, 7]) (by kernel_rfl) rfl rfl ?_
          refine AllW.cons rfl (fun K hK => ?_) (AllW.cons rfl (fun K hK => ?_) (AllW.cons rfl (fun K hK => ?_) AllW.nil))
          · go_simp
            refine (CR.out _ (HRB.out.trans (S0.out.mono (by omega)))).mono ?_
            rintro e v1 ⟨B1, e1, rfl, hb, ht⟩
            have S1 := Lib.hid (S0.out.trans (hb.mono LBv0))
            have LBv1 : wr.heap.size + 1 ≤ v1.heap.size := Nat.le_trans LBv0 hb.size
            have HSv1 := hb.size
            have T1 : Hid (Tg v1 (fun b => wr.heap.size + 1 ≤ b ∧ b ≠ 0 ∧ b ≠ 0) B1 m1 e1 r.tg) := Lib.hid (ht.keep (Kept.refl _ _) (fun b hb hlt => by have hb : v0.heap.size ≤ b := hb; refine ⟨by omega, ?_, ?_⟩ <;> omega))
            refine hK _ _ S1.out ?_
            clear hK K hb ht
            refine HeadW_take (i := 11) (v := ?_) G rfl (by kernel_rfl) (by kernel_rfl) (by kernel_rfl) (fun _ _ _ h => h) (Or.inl ⟨by rfl, ?_⟩) S1.out ?_
            rotate_left
            · intro wz hS
              go_simp
              try with_reducible rfl
            refine HeadW_ready (rs := [3, 7]) (by kernel_rfl) rfl rfl ?_
            refine AllW.cons rfl (fun K hK => ?_) (AllW.cons rfl (fun K hK => ?_) AllW.nil)
            · go_simp
              have hb : Below v1.heap.size v1 (v1.alloc (.cells #[] 52)) := (Below.refl _ _).alloc (Nat.le_refl _) _
              have S2 := Lib.hid (S1.out.trans (hb.mono LBv1))
              have hz : (v1.alloc (.cells #[] 52)).heap.size ≤ v1.heap.size + 1 ∧ v1.heap.size + 1 ≤ (v1.alloc (.cells #[] 52)).heap.size := by rw [size_al]; omega
              have E1_2 := Lib.hid (Ob.made v1 52 #[])
              have T2 : Hid (Tg (v1.alloc (.cells #[] 52)) (fun b => wr.heap.size + 1 ≤ b ∧ b ≠ v1.heap.size ∧ b ≠ 0) B1 m1 e1 r.tg) := Lib.hid (T1.out.keep (Kept.all hb _) (fun b hb hlt => by obtain ⟨a1, a2, a3⟩ := hb; refine ⟨a1, ?_, ?_⟩ <;> omega))
              refine hK _ _ S2.out ?_
              clear hK K hb
              generalize v1.alloc (.cells #[] 52) = v2 at *
              have LBv2 : wr.heap.size + 1 ≤ v2.heap.size := by omega
              have X1_2 : v1.heap.size < v2.heap.size := by omega
              refine HeadW_ready (rs := [6, 7]) (by kernel_rfl) rfl rfl ?_
              refine AllW.cons rfl (fun K hK => ?_) (AllW.cons rfl (fun K hK => ?_) AllW.nil)
              · obtain ⟨B2, e2, v3, ra, ba, oa, qa⟩ := copy_nods_at E1_2.out (HN.out.keep (Kept.all (HRB.out.trans (S2.out.mono (by omega))) _) (fun _ h _ => h)) HM2.out (by omega)
                refine step_append_run rfl (.tmp 28) (.tmp 30) _ _ rfl (by first | rfl | simp [Act.eval]) (by first | rfl | simp [Act.eval]) ra ?_
                have S3 := Lib.hid (S2.out.trans (ba.mono (by omega)))
                have HSv3 := ba.size
                have LBv3 : wr.heap.size + 1 ≤ v3.heap.size := Nat.le_trans LBv2 ba.size
                have T3 : Hid (Tg v3 (fun b => wr.heap.size + 1 ≤ b ∧ b ≠ v1.heap.size ∧ b ≠ 0) B1 m1 e1 r.tg) := Lib.hid (T2.out.keep (Kept.below_ qa (fun b hb => by obtain ⟨a1, a2, a3⟩ := hb; exact a2)) (fun b hb hlt => by obtain ⟨a1, a2, a3⟩ := hb; refine ⟨a1, ?_, ?_⟩ <;> omega))
                have Tx3 : Hid (Tg v3 (fun b => wr.heap.size + 1 ≤ b ∧ b ≠ 0 ∧ b ≠ 0) B1 m1 e1 r.tg) := Lib.hid (T3.out.keep (Kept.refl _ _) (fun b hb hlt => by obtain ⟨a1, a2, a3⟩ := hb; refine ⟨a1, ?_, ?_⟩ <;> omega))
                have N3 : Hid (Nds v3 (fun b => wr.heap.size + 1 ≤ b ∧ b ≠ 0 ∧ b ≠ 0) B2 m2 e2 r.cond) := Lib.hid (oa.keep (Kept.refl _ _) (fun b hb hlt => by have hb : b = v1.heap.size ∨ b = v2.heap.size := hb; refine ⟨?_, ?_, ?_⟩ <;> omega))
                refine hK _ _ S3.out ?_
                clear hK K ra ba oa qa
                refine HeadW_ready (rs := [7]) (by kernel_rfl) rfl rfl ?_
                refine AllW.cons rfl (fun K hK => ?_) AllW.nil
                go_simp
                have hb : Below v3.heap.size v3 (v3.alloc (.cells #[] 56)) := (Below.refl _ _).alloc (Nat.le_refl _) _
                have S4 := Lib.hid (S3.out.trans (hb.mono LBv3))
                have hz : (v3.alloc (.cells #[] 56)).heap.size ≤ v3.heap.size + 1 ∧ v3.heap.size + 1 ≤ (v3.alloc (.cells #[] 56)).heap.size := by rw [size_al]; omega
                have E2_4 := Lib.hid (Ob.made v3 56 #[])
                have T4 : Hid (Tg (v3.alloc (.cells #[] 56)) (fun b => wr.heap.size + 1 ≤ b ∧ b ≠ 0 ∧ b ≠ v3.heap.size) B1 m1 e1 r.tg) := Lib.hid (Tx3.out.keep (Kept.all hb _) (fun b hb hlt => by obtain ⟨a1, a2, a3⟩ := hb; refine ⟨a1, ?_, ?_⟩ <;> omega))
                have N4 : Hid (Nds (v3.alloc (.cells #[] 56)) (fun b => wr.heap.size + 1 ≤ b ∧ b ≠ 0 ∧ b ≠ v3.heap.size) B2 m2 e2 r.cond) := Lib.hid (N3.out.keep (Kept.all hb _) (fun b hb hlt => by obtain ⟨a1, a2, a3⟩ := hb; refine ⟨a1, ?_, ?_⟩ <;> omega))
                refine hK _ _ S4.out ?_
                clear hK K hb
                generalize v3.alloc (.cells #[] 56) = v4 at *
                have LBv4 : wr.heap.size + 1 ≤ v4.heap.size := by omega
                have X2_4 : v3.heap.size < v4.heap.size := by omega
                refine HeadW_ready (rs := [10]) (by kernel_rfl) rfl rfl ?_
                refine AllW.cons rfl (fun K hK => ?_) AllW.nil
                obtain ⟨B3, e3, v5, ra, ba, oa, qa⟩ := copy_duts_at E2_4.out (HD.out.keep (Kept.all (HRB.out.trans (S4.out.mono (by omega))) _) (fun _ h _ => h)) HM3.out (by omega)
                refine step_append_run rfl (.tmp 32) (.tmp 34) _ _ rfl (by first | rfl | simp [Act.eval]) (by first | rfl | simp [Act.eval]) ra ?_
                have S5 := Lib.hid (S4.out.trans (ba.mono (by omega)))
                have HSv5 := ba.size
                have LBv5 : wr.heap.size + 1 ≤ v5.heap.size := Nat.le_trans LBv4 ba.size
                have T5 : Hid (Tg v5 (fun b => wr.heap.size + 1 ≤ b ∧ b ≠ 0 ∧ b ≠ v3.heap.size) B1 m1 e1 r.tg) := Lib.hid (T4.out.keep (Kept.below_ qa (fun b hb => by obtain ⟨a1, a2, a3⟩ := hb; exact a3)) (fun b hb hlt => by obtain ⟨a1, a2, a3⟩ := hb; refine ⟨a1, ?_, ?_⟩ <;> omega))
                have N5 : Hid (Nds v5 (fun b => wr.heap.size + 1 ≤ b ∧ b ≠ 0 ∧ b ≠ v3.heap.size) B2 m2 e2 r.cond) := Lib.hid (N4.out.keep (Kept.below_ qa (fun b hb => by obtain ⟨a1, a2, a3⟩ := hb; exact a3)) (fun b hb hlt => by obtain ⟨a1, a2, a3⟩ := hb; refine ⟨a1, ?_, ?_⟩ <;> omega))
                have Tx5 : Hid (Tg v5 (fun b => wr.heap.size + 1 ≤ b ∧ b ≠ 0 ∧ b ≠ 0) B1 m1 e1 r.tg) := Lib.hid (T5.out.keep (Kept.refl _ _) (fun b hb hlt => by obtain ⟨a1, a2, a3⟩ := hb; refine ⟨a1, ?_, ?_⟩ <;> omega))
                have Nx5 : Hid (Nds v5 (fun b => wr.heap.size + 1 ≤ b ∧ b ≠ 0 ∧ b ≠ 0) B2 m2 e2 r.cond) := Lib.hid (N5.out.keep (Kept.refl _ _) (fun b hb hlt => by obtain ⟨a1, a2, a3⟩ := hb; refine ⟨a1, ?_, ?_⟩ <;> omega))
                have D5 : Hid (Dus v5 (fun b => wr.heap.size + 1 ≤ b ∧ b ≠ 0 ∧ b ≠ 0) B3 m3 e3 r.ob) := Lib.hid (oa.keep (Kept.refl _ _) (fun b hb hlt => by have hb : b = v3.heap.size ∨ b = v4.heap.size := hb; refine ⟨?_, ?_, ?_⟩ <;> omega))
                refine hK _ _ S5.out ?_
                clear hK K ra ba oa qa
                intro _
                refine ⟨by kernel_rfl, ?_⟩
                simp only [List.drop_succ_cons, List.drop_zero]
                have ob := KRO.out _ S5.out
                have f1 := ob.frozen 2
                have f2 := (ob.put 2 (.slice B1 m1 e1)).frozen 3
                have f3 := ((ob.put 2 (.slice B1 m1 e1)).put 3 (.slice B2 m2 e2)).frozen 4
                have f4 := ob.cell 2
                have f5 := (ob.put 2 (.slice B1 m1 e1)).cell 3
                have f6 := ((ob.put 2 (.slice B1 m1 e1)).put 3 (.slice B2 m2 e2)).cell 4
                have HRel := Lib.hid (copy_r6 (HRB.out.trans (S5.out.mono (by omega))) ob (Tx5.out.keep (Kept.refl _ _) (fun b hb _ => hb.1)) (Nx5.out.keep (Kept.refl _ _) (fun b hb _ => hb.1)) (D5.out.keep (Kept.refl _ _) (fun b hb _ => hb.1)))
                clear ob
                go_wp2_with fail
                go_meet
                case rel => exact HRel.out
              · go_simp
                have hb : Below v2.heap.size v2 (v2.alloc (.cells #[] 56)) := (Below.refl _ _).alloc (Nat.le_refl _) _
                have S6 := Lib.hid (S2.out.trans (hb.mono LBv2))
                have hz : (v2.alloc (.cells #[] 56)).heap.size ≤ v2.heap.size + 1 ∧ v2.heap.size + 1 ≤ (v2.alloc (.cells #[] 56)).heap.size := by rw [size_al]; omega
                have E1_6 := Lib.hid (E1_2.out.below hb E1_2.out.lt)
                have E2_6 := Lib.hid (Ob.made v2 56 #[])
                have T6 : Hid (Tg (v2.alloc (.cells #[] 56)) (fun b => wr.heap.size + 1 ≤ b ∧ b ≠ v1.heap.size ∧ b ≠ v2.heap.size) B1 m1 e1 r.tg) := Lib.hid (T2.out.keep (Kept.all hb _) (fun b hb hlt => by obtain ⟨a1, a2, a3⟩ := hb; refine ⟨a1, ?_, ?_⟩ <;> omega))
                refine hK _ _ S6.out ?_
                clear hK K hb
                generalize v2.alloc (.cells #[] 56) = v6 at *
                have LBv6 : wr.heap.size + 1 ≤ v6.heap.size := by omega
                have X1_6 : v1.heap.size < v6.heap.size := by have := X1_2; omega
                have X2_6 : v2.heap.size < v6.heap.size := by omega
                refine HeadW_ready (rs := [6]) (by kernel_rfl) rfl rfl ?_
                refine AllW.cons rfl (fun K hK => ?_) AllW.nil
                obtain ⟨B2, e2, v7, ra, ba, oa, qa⟩ := copy_nods_at E1_6.out (HN.out.keep (Kept.all (HRB.out.trans (S6.out.mono (by omega))) _) (fun _ h _ => h)) HM2.out (by omega)
                refine step_append_run rfl (.tmp 28) (.tmp 30) _ _ rfl (by first | rfl | simp [Act.eval]) (by first | rfl | simp [Act.eval]) ra ?_
                have S7 := Lib.hid (S6.out.trans (ba.mono (by omega)))
                have HSv7 := ba.size
                have LBv7 : wr.heap.size + 1 ≤ v7.heap.size := Nat.le_trans LBv6 ba.size
                have E2_7 := Lib.hid (E2_6.out.keep (qa.2 _ (by show v2.heap.size ≠ v1.heap.size; omega) E2_6.out.lt))
                have T7 : Hid (Tg v7 (fun b => wr.heap.size + 1 ≤ b ∧ b ≠ v1.heap.size ∧ b ≠ v2.heap.size) B1 m1 e1 r.tg) := Lib.hid (T6.out.keep (Kept.below_ qa (fun b hb => by obtain ⟨a1, a2, a3⟩ := hb; exact a2)) (fun b hb hlt => by obtain ⟨a1, a2, a3⟩ := hb; refine ⟨a1, ?_, ?_⟩ <;> omega))
                have Tx7 : Hid (Tg v7 (fun b => wr.heap.size + 1 ≤ b ∧ b ≠ 0 ∧ b ≠ v2.heap.size) B1 m1 e1 r.tg) := Lib.hid (T7.out.keep (Kept.refl _ _) (fun b hb hlt => by obtain ⟨a1, a2, a3⟩ := hb; refine ⟨a1, ?_, ?_⟩ <;> omega))
                have N7 : Hid (Nds v7 (fun b => wr.heap.size + 1 ≤ b ∧ b ≠ 0 ∧ b ≠ v2.heap.size) B2 m2 e2 r.cond) := Lib.hid (oa.keep (Kept.refl _ _) (fun b hb hlt => by have hb : b = v1.heap.size ∨ b = v6.heap.size := hb; refine ⟨?_, ?_, ?_⟩ <;> omega))
                refine hK _ _ S7.out ?_
                clear hK K ra ba oa qa
                have X2_7 : v2.heap.size < v7.heap.size := by have := X2_6; omega
                refine HeadW_ready (rs := [10]) (by kernel_rfl) rfl rfl ?_
                refine AllW.cons rfl (fun K hK => ?_) AllW.nil
                obtain ⟨B3, e3, v8, ra, ba, oa, qa⟩ := copy_duts_at E2_7.out (HD.out.keep (Kept.all (HRB.out.trans (S7.out.mono (by omega))) _) (fun _ h _ => h)) HM3.out (by omega)
                refine step_append_run rfl (.tmp 32) (.tmp 34) _ _ rfl (by first | rfl | simp [Act.eval]) (by first | rfl | simp [Act.eval]) ra ?_
                have S8 := Lib.hid (S7.out.trans (ba.mono (by omega)))
                have HSv8 := ba.size
                have LBv8 : wr.heap.size + 1 ≤ v8.heap.size := Nat.le_trans LBv7 ba.size
                have T8 : Hid (Tg v8 (fun b => wr.heap.size + 1 ≤ b ∧ b ≠ 0 ∧ b ≠ v2.heap.size) B1 m1 e1 r.tg) := Lib.hid (Tx7.out.keep (Kept.below_ qa (fun b hb => by obtain ⟨a1, a2, a3⟩ := hb; exact a3)) (fun b hb hlt => by obtain ⟨a1, a2, a3⟩ := hb; refine ⟨a1, ?_, ?_⟩ <;> omega))
                have N8 : Hid (Nds v8 (fun b => wr.heap.size + 1 ≤ b ∧ b ≠ 0 ∧ b ≠ v2.heap.size) B2 m2 e2 r.cond) := Lib.hid (N7.out.keep (Kept.below_ qa (fun b hb => by obtain ⟨a1, a2, a3⟩ := hb; exact a3)) (fun b hb hlt => by obtain ⟨a1, a2, a3⟩ := hb; refine ⟨a1, ?_, ?_⟩ <;> omega))
                have Tx8 : Hid (Tg v8 (fun b => wr.heap.size + 1 ≤ b ∧ b ≠ 0 ∧ b ≠ 0) B1 m1 e1 r.tg) := Lib.hid (T8.out.keep (Kept.refl _ _) (fun b hb hlt => by obtain ⟨a1, a2, a3⟩ := hb; refine ⟨a1, ?_, ?_⟩ <;> omega))
                have Nx8 : Hid (Nds v8 (fun b => wr.heap.size + 1 ≤ b ∧ b ≠ 0 ∧ b ≠ 0) B2 m2 e2 r.cond) := Lib.hid (N8.out.keep (Kept.refl _ _) (fun b hb hlt => by obtain ⟨a1, a2, a3⟩ := hb; refine ⟨a1, ?_, ?_⟩ <;> omega))
                have D8 : Hid (Dus v8 (fun b => wr.heap.size + 1 ≤ b ∧ b ≠ 0 ∧ b ≠ 0) B3 m3 e3 r.ob) := Lib.hid (oa.keep (Kept.refl _ _) (fun b hb hlt => by have hb : b = v2.heap.size ∨ b = v7.heap.size := hb; refine ⟨?_, ?_, ?_⟩ <;> omega))
                refine hK _ _ S8.out ?_
                clear hK K ra ba oa qa
                intro _
                refine ⟨by kernel_rfl, ?_⟩
                simp only [List.drop_succ_cons, List.drop_zero]
                have ob := KRO.out _ S8.out
                have f1 := ob.frozen 2
                have f2 := (ob.put 2 (.slice B1 m1 e1)).frozen 3
                have f3 := ((ob.put 2 (.slice B1 m1 e1)).put 3 (.slice B2 m2 e2)).frozen 4
                have f4 := ob.cell 2
                have f5 := (ob.put 2 (.slice B1 m1 e1)).cell 3
                have f6 := ((ob.put 2 (.slice B1 m1 e1)).put 3 (.slice B2 m2 e2)).cell 4
                have HRel := Lib.hid (copy_r6 (HRB.out.trans (S8.out.mono (by omega))) ob (Tx8.out.keep (Kept.refl _ _) (fun b hb _ => hb.1)) (Nx8.out.keep (Kept.refl _ _) (fun b hb _ => hb.1)) (D8.out.keep (Kept.refl _ _) (fun b hb _ => hb.1)))
                clear ob
                go_wp2_with fail
                go_meet
                case rel => exact HRel.out
            · go_simp
              have hb : Below v1.heap.size v1 (v1.alloc (.cells #[] 56)) := (Below.refl _ _).alloc (Nat.le_refl _) _
              have S9 := Lib.hid (S1.out.trans (hb.mono LBv1))
              have hz : (v1.alloc (.cells #[] 56)).heap.size ≤ v1.heap.size + 1 ∧ v1.heap.size + 1 ≤ (v1.alloc (.cells #[] 56)).heap.size := by rw [size_al]; omega
              have E2_9 := Lib.hid (Ob.made v1 56 #[])
              have T9 : Hid (Tg (v1.alloc (.cells #[] 56)) (fun b => wr.heap.size + 1 ≤ b ∧ b ≠ 0 ∧ b ≠ v1.heap.size) B1 m1 e1 r.tg) := Lib.hid (T1.out.keep (Kept.all hb _) (fun b hb hlt => by obtain ⟨a1, a2, a3⟩ := hb; refine ⟨a1, ?_, ?_⟩ <;> omega))
              refine hK _ _ S9.out ?_
              clear hK K hb
              generalize v1.alloc (.cells #[] 56) = v9 at *
              have LBv9 : wr.heap.size + 1 ≤ v9.heap.size := by omega
              have X2_9 : v1.heap.size < v9.heap.size := by omega
              refine HeadW_ready (rs := [3]) (by kernel_rfl) rfl rfl ?_
              refine AllW.cons rfl (fun K hK => ?_) AllW.nil
              go_simp
              have hb : Below v9.heap.size v9 (v9.alloc (.cells #[] 52)) := (Below.refl _ _).alloc (Nat.le_refl _) _
              have S10 := Lib.hid (S9.out.trans (hb.mono LBv9))
              have hz : (v9.alloc (.cells #[] 52)).heap.size ≤ v9.heap.size + 1 ∧ v9.heap.size + 1 ≤ (v9.alloc (.cells #[] 52)).heap.size := by rw [size_al]; omega
              have E2_10 := Lib.hid (E2_9.out.below hb E2_9.out.lt)
              have E1_10 := Lib.hid (Ob.made v9 52 #[])
              have T10 : Hid (Tg (v9.alloc (.cells #[] 52)) (fun b => wr.heap.size + 1 ≤ b ∧ b ≠ v9.heap.size ∧ b ≠ v1.heap.size) B1 m1 e1 r.tg) := Lib.hid (T9.out.keep (Kept.all hb _) (fun b hb hlt => by obtain ⟨a1, a2, a3⟩ := hb; refine ⟨a1, ?_, ?_⟩ <;> omega))
              refine hK _ _ S10.out ?_
              clear hK K hb
              generalize v9.alloc (.cells #[] 52) = v10 at *
              have LBv10 : wr.heap.size + 1 ≤ v10.heap.size := by omega
              have X1_10 : v9.heap.size < v10.heap.size := by omega
              have X2_10 : v1.heap.size < v10.heap.size := by have := X2_9; omega
              refine HeadW_ready (rs := [6]) (by kernel_rfl) rfl rfl ?_
              refine AllW.cons rfl (fun K hK => ?_) AllW.nil
              obtain ⟨B2, e2, v11, ra, ba, oa, qa⟩ := copy_nods_at E1_10.out (HN.out.keep (Kept.all (HRB.out.trans (S10.out.mono (by omega))) _) (fun _ h _ => h)) HM2.out (by omega)
              refine step_append_run rfl (.tmp 28) (.tmp 30) _ _ rfl (by first | rfl | simp [Act.eval]) (by first | rfl | simp [Act.eval]) ra ?_
              have S11 := Lib.hid (S10.out.trans (ba.mono (by omega)))
              have HSv11 := ba.size
              have LBv11 : wr.heap.size + 1 ≤ v11.heap.size := Nat.le_trans LBv10 ba.size
              have E2_11 := Lib.hid (E2_10.out.keep (qa.2 _ (by show v1.heap.size ≠ v9.heap.size; omega) E2_10.out.lt))
              have T11 : Hid (Tg v11 (fun b => wr.heap.size + 1 ≤ b ∧ b ≠ v9.heap.size ∧ b ≠ v1.heap.size) B1 m1 e1 r.tg) := Lib.hid (T10.out.keep (Kept.below_ qa (fun b hb => by obtain ⟨a1, a2, a3⟩ := hb; exact a2)) (fun b hb hlt => by obtain ⟨a1, a2, a3⟩ := hb; refine ⟨a1, ?_, ?_⟩ <;> omega))
              have Tx11 : Hid (Tg v11 (fun b => wr.heap.size + 1 ≤ b ∧ b ≠ 0 ∧ b ≠ v1.heap.size) B1 m1 e1 r.tg) := Lib.hid (T11.out.keep (Kept.refl _ _) (fun b hb hlt => by obtain ⟨a1, a2, a3⟩ := hb; refine ⟨a1, ?_, ?_⟩ <;> omega))
              have N11 : Hid (Nds v11 (fun b => wr.heap.size + 1 ≤ b ∧ b ≠ 0 ∧ b ≠ v1.heap.size) B2 m2 e2 r.cond) := Lib.hid (oa.keep (Kept.refl _ _) (fun b hb hlt => by have hb : b = v9.heap.size ∨ b = v10.heap.size := hb; refine ⟨?_, ?_, ?_⟩ <;> omega))
              refine hK _ _ S11.out ?_
              clear hK K ra ba oa qa
              have X2_11 : v1.heap.size < v11.heap.size := by have := X2_10; omega
              refine HeadW_ready (rs := [10]) (by kernel_rfl) rfl rfl ?_
              refine AllW.cons rfl (fun K hK => ?_) AllW.nil
              obtain ⟨B3, e3, v12, ra, ba, oa, qa⟩ := copy_duts_at E2_11.out (HD.out.keep (Kept.all (HRB.out.trans (S11.out.mono (by omega))) _) (fun _ h _ => h)) HM3.out (by omega)
              refine step_append_run rfl (.tmp 32) (.tmp 34) _ _ rfl (by first | rfl | simp [Act.eval]) (by first | rfl | simp [Act.eval]) ra ?_
              have S12 := Lib.hid (S11.out.trans (ba.mono (by omega)))
              have HSv12 := ba.size
              have LBv12 : wr.heap.size + 1 ≤ v12.heap.size := Nat.le_trans LBv11 ba.size
              have T12 : Hid (Tg v12 (fun b => wr.heap.size + 1 ≤ b ∧ b ≠ 0 ∧ b ≠ v1.heap.size) B1 m1 e1 r.tg) := Lib.hid (Tx11.out.keep (Kept.below_ qa (fun b hb => by obtain ⟨a1, a2, a3⟩ := hb; exact a3)) (fun b hb hlt => by obtain ⟨a1, a2, a3⟩ := hb; refine ⟨a1, ?_, ?_⟩ <;> omega))
              have N12 : Hid (Nds v12 (fun b => wr.heap.size + 1 ≤ b ∧ b ≠ 0 ∧ b ≠ v1.heap.size) B2 m2 e2 r.cond) := Lib.hid (N11.out.keep (Kept.below_ qa (fun b hb => by obtain ⟨a1, a2, a3⟩ := hb; exact a3)) (fun b hb hlt => by obtain ⟨a1, a2, a3⟩ := hb; refine ⟨a1, ?_, ?_⟩ <;> omega))
              have Tx12 : Hid (Tg v12 (fun b => wr.heap.size + 1 ≤ b ∧ b ≠ 0 ∧ b ≠ 0) B1 m1 e1 r.tg) := Lib.hid (T12.out.keep (Kept.refl _ _) (fun b hb hlt => by obtain ⟨a1, a2, a3⟩ := hb; refine ⟨a1, ?_, ?_⟩ <;> omega))
              have Nx12 : Hid (Nds v12 (fun b => wr.heap.size + 1 ≤ b ∧ b ≠ 0 ∧ b ≠ 0) B2 m2 e2 r.cond) := Lib.hid (N12.out.keep (Kept.refl _ _) (fun b hb hlt => by obtain ⟨a1, a2, a3⟩ := hb; refine ⟨a1, ?_, ?_⟩ <;> omega))
              have D12 : Hid (Dus v12 (fun b => wr.heap.size + 1 ≤ b ∧ b ≠ 0 ∧ b ≠ 0) B3 m3 e3 r.ob) := Lib.hid (oa.keep (Kept.refl _ _) (fun b hb hlt => by have hb : b = v1.heap.size ∨ b = v11.heap.size := hb; refine ⟨?_, ?_, ?_⟩ <;> omega))
              refine hK _ _ S12.out ?_
              clear hK K ra ba oa qa
              intro _
              refine ⟨by kernel_rfl, ?_⟩
              simp only [List.drop_succ_cons, List.drop_zero]
              have ob := KRO.out _ S12.out
              have f1 := ob.frozen 2
              have f2 := (ob.put 2 (.slice B1 m1 e1)).frozen 3
              have f3 := ((ob.put 2 (.slice B1 m1 e1)).put 3 (.slice B2 m2 e2)).frozen 4
              have f4 := ob.cell 2
              have f5 := (ob.put 2 (.slice B1 m1 e1)).cell 3
              have f6 := ((ob.put 2 (.slice B1 m1 e1)).put 3 (.slice B2 m2 e2)).cell 4
              have HRel := Lib.hid (copy_r6 (HRB.out.trans (S12.out.mono (by omega))) ob (Tx12.out.keep (Kept.refl _ _) (fun b hb _ => hb.1)) (Nx12.out.keep (Kept.refl _ _) (fun b hb _ => hb.1)) (D12.out.keep (Kept.refl _ _) (fun b hb _ => hb.1)))
              clear ob
              go_wp2_with fail
              go_meet
              case rel => exact HRel.out
          · go_simp
            have hb : Below v0.heap.size v0 (v0.alloc (.cells #[] 52)) := (Below.refl _ _).alloc (Nat.le_refl _) _
            have S13 := Lib.hid (S0.out.trans (hb.mono LBv0))
            have hz : (v0.alloc (.cells #[] 52)).heap.size ≤ v0.heap.size + 1 ∧ v0.heap.size + 1 ≤ (v0.alloc (.cells #[] 52)).heap.size := by rw [size_al]; omega
            have E1_13 := Lib.hid (Ob.made v0 52 #[])
            refine hK _ _ S13.out ?_
            clear hK K hb
            generalize v0.alloc (.cells #[] 52) = v13 at *
            have LBv13 : wr.heap.size + 1 ≤ v13.heap.size := by omega
            have X1_13 : v0.heap.size < v13.heap.size := by omega
            refine HeadW_ready (rs := [2, 7]) (by kernel_rfl) rfl rfl ?_
            refine AllW.cons rfl (fun K hK => ?_) (AllW.cons rfl (fun K hK => ?_) AllW.nil)
            · go_simp
              refine (CR.out _ (HRB.out.trans (S13.out.mono (by omega)))).mono ?_
              rintro e v14 ⟨B1, e1, rfl, hb, ht⟩
              have S14 := Lib.hid (S13.out.trans (hb.mono LBv13))
              have LBv14 : wr.heap.size + 1 ≤ v14.heap.size := Nat.le_trans LBv13 hb.size
              have HSv14 := hb.size
              have E1_14 := Lib.hid (E1_13.out.below hb E1_13.out.lt)
              have X1_14 : v0.heap.size < v14.heap.size := by have := X1_13; omega
              have T14 : Hid (Tg v14 (fun b => wr.heap.size + 1 ≤ b ∧ b ≠ v0.heap.size ∧ b ≠ 0) B1 m1 e1 r.tg) := Lib.hid (ht.keep (Kept.refl _ _) (fun b hb hlt => by have hb : v13.heap.size ≤ b := hb; refine ⟨by omega, ?_, ?_⟩ <;> omega))
              refine hK _ _ S14.out ?_
              clear hK K hb ht
              refine HeadW_take (i := 11) (v := ?_) G rfl (by kernel_rfl) (by kernel_rfl) (by kernel_rfl) (fun _ _ _ h => h) (Or.inl ⟨by rfl, ?_⟩) S14.out ?_
              rotate_left
              · intro wz hS
                go_simp
                try with_reducible rfl
              refine HeadW_ready (rs := [6, 7]) (by kernel_rfl) rfl rfl ?_
              refine AllW.cons rfl (fun K hK => ?_) (AllW.cons rfl (fun K hK => ?_) AllW.nil)
              · obtain ⟨B2, e2, v15, ra, ba, oa, qa⟩ := copy_nods_at E1_14.out (HN.out.keep (Kept.all (HRB.out.trans (S14.out.mono (by omega))) _) (fun _ h _ => h)) HM2.out (by omega)
                refine step_append_run rfl (.tmp 28) (.tmp 30) _ _ rfl (by first | rfl | simp [Act.eval]) (by first | rfl | simp [Act.eval]) ra ?_
                have S15 := Lib.hid (S14.out.trans (ba.mono (by omega)))
                have HSv15 := ba.size
                have LBv15 : wr.heap.size + 1 ≤ v15.heap.size := Nat.le_trans LBv14 ba.size
                have T15 : Hid (Tg v15 (fun b => wr.heap.size + 1 ≤ b ∧ b ≠ v0.heap.size ∧ b ≠ 0) B1 m1 e1 r.tg) := Lib.hid (T14.out.keep (Kept.below_ qa (fun b hb => by obtain ⟨a1, a2, a3⟩ := hb; exact a2)) (fun b hb hlt => by obtain ⟨a1, a2, a3⟩ := hb; refine ⟨a1, ?_, ?_⟩ <;> omega))
                have Tx15 : Hid (Tg v15 (fun b => wr.heap.size + 1 ≤ b ∧ b ≠ 0 ∧ b ≠ 0) B1 m1 e1 r.tg) := Lib.hid (T15.out.keep (Kept.refl _ _) (fun b hb hlt => by obtain ⟨a1, a2, a3⟩ := hb; refine ⟨a1, ?_, ?_⟩ <;> omega))
                have N15 : Hid (Nds v15 (fun b => wr.heap.size + 1 ≤ b ∧ b ≠ 0 ∧ b ≠ 0) B2 m2 e2 r.cond) := Lib.hid (oa.keep (Kept.refl _ _) (fun b hb hlt => by have hb : b = v0.heap.size ∨ b = v14.heap.size := hb; refine ⟨?_, ?_, ?_⟩ <;> omega))
                refine hK _ _ S15.out ?_
                clear hK K ra ba oa qa
                refine HeadW_ready (rs := [7]) (by kernel_rfl) rfl rfl ?_
                refine AllW.cons rfl (fun K hK => ?_) AllW.nil
                go_simp
                have hb : Below v15.heap.size v15 (v15.alloc (.cells #[] 56)) := (Below.refl _ _).alloc (Nat.le_refl _) _
                have S16 := Lib.hid (S15.out.trans (hb.mono LBv15))
                have hz : (v15.alloc (.cells #[] 56)).heap.size ≤ v15.heap.size + 1 ∧ v15.heap.size + 1 ≤ (v15.alloc (.cells #[] 56)).heap.size := by rw [size_al]; omega
                have E2_16 := Lib.hid (Ob.made v15 56 #[])
                have T16 : Hid (Tg (v15.alloc (.cells #[] 56)) (fun b => wr.heap.size + 1 ≤ b ∧ b ≠ 0 ∧ b ≠ v15.heap.size) B1 m1 e1 r.tg) := Lib.hid (Tx15.out.keep (Kept.all hb _) (fun b hb hlt => by obtain ⟨a1, a2, a3⟩ := hb; refine ⟨a1, ?_, ?_⟩ <;> omega))
                have N16 : Hid (Nds (v15.alloc (.cells #[] 56)) (fun b => wr.heap.size + 1 ≤ b ∧ b ≠ 0 ∧ b ≠ v15.heap.size) B2 m2 e2 r.cond) := Lib.hid (N15.out.keep (Kept.all hb _) (fun b hb hlt => by obtain ⟨a1, a2, a3⟩ := hb; refine ⟨a1, ?_, ?_⟩ <;> omega))
                refine hK _ _ S16.out ?_
                clear hK K hb
                generalize v15.alloc (.cells #[] 56) = v16 at *
                have LBv16 : wr.heap.size + 1 ≤ v16.heap.size := by omega
                have X2_16 : v15.heap.size < v16.heap.size := by omega
                refine HeadW_ready (rs := [10]) (by kernel_rfl) rfl rfl ?_
                refine AllW.cons rfl (fun K hK => ?_) AllW.nil
                obtain ⟨B3, e3, v17, ra, ba, oa, qa⟩ := copy_duts_at E2_16.out (HD.out.keep (Kept.all (HRB.out.trans (S16.out.mono (by omega))) _) (fun _ h _ => h)) HM3.out (by omega)
                refine step_append_run rfl (.tmp 32) (.tmp 34) _ _ rfl (by first | rfl | simp [Act.eval]) (by first | rfl | simp [Act.eval]) ra ?_
                have S17 := Lib.hid (S16.out.trans (ba.mono (by omega)))
                have HSv17 := ba.size
                have LBv17 : wr.heap.size + 1 ≤ v17.heap.size := Nat.le_trans LBv16 ba.size
                have T17 : Hid (Tg v17 (fun b => wr.heap.size + 1 ≤ b ∧ b ≠ 0 ∧ b ≠ v15.heap.size) B1 m1 e1 r.tg) := Lib.hid (T16.out.keep (Kept.below_ qa (fun b hb => by obtain ⟨a1, a2, a3⟩ := hb; exact a3)) (fun b hb hlt => by obtain ⟨a1, a2, a3⟩ := hb; refine ⟨a1, ?_, ?_⟩ <;> omega))
                have N17 : Hid (Nds v17 (fun b => wr.heap.size + 1 ≤ b ∧ b ≠ 0 ∧ b ≠ v15.heap.size) B2 m2 e2 r.cond) := Lib.hid (N16.out.keep (Kept.below_ qa (fun b hb => by obtain ⟨a1, a2, a3⟩ := hb; exact a3)) (fun b hb hlt => by obtain ⟨a1, a2, a3⟩ := hb; refine ⟨a1, ?_, ?_⟩ <;> omega))
                have Tx17 : Hid (Tg v17 (fun b => wr.heap.size + 1 ≤ b ∧ b ≠ 0 ∧ b ≠ 0) B1 m1 e1 r.tg) := Lib.hid (T17.out.keep (Kept.refl _ _) (fun b hb hlt => by obtain ⟨a1, a2, a3⟩ := hb; refine ⟨a1, ?_, ?_⟩ <;> omega))
                have Nx17 : Hid (Nds v17 (fun b => wr.heap.size + 1 ≤ b ∧ b ≠ 0 ∧ b ≠ 0) B2 m2 e2 r.cond) := Lib.hid (N17.out.keep (Kept.refl _ _) (fun b hb hlt => by obtain ⟨a1, a2, a3⟩ := hb; refine ⟨a1, ?_, ?_⟩ <;> omega))
                have D17 : Hid (Dus v17 (fun b => wr.heap.size + 1 ≤ b ∧ b ≠ 0 ∧ b ≠ 0) B3 m3 e3 r.ob) := Lib.hid (oa.keep (Kept.refl _ _) (fun b hb hlt => by have hb : b = v15.heap.size ∨ b = v16.heap.size := hb; refine ⟨?_, ?_, ?_⟩ <;> omega))
                refine hK _ _ S17.out ?_
                clear hK K ra ba oa qa
                intro _
                refine ⟨by kernel_rfl, ?_⟩
                simp only [List.drop_succ_cons, List.drop_zero]
                have ob := KRO.out _ S17.out
                have f1 := ob.frozen 2
                have f2 := (ob.put 2 (.slice B1 m1 e1)).frozen 3
                have f3 := ((ob.put 2 (.slice B1 m1 e1)).put 3 (.slice B2 m2 e2)).frozen 4
                have f4 := ob.cell 2
                have f5 := (ob.put 2 (.slice B1 m1 e1)).cell 3
                have f6 := ((ob.put 2 (.slice B1 m1 e1)).put 3 (.slice B2 m2 e2)).cell 4
                have HRel := Lib.hid (copy_r6 (HRB.out.trans (S17.out.mono (by omega))) ob (Tx17.out.keep (Kept.refl _ _) (fun b hb _ => hb.1)) (Nx17.out.keep (Kept.refl _ _) (fun b hb _ => hb.1)) (D17.out.keep (Kept.refl _ _) (fun b hb _ => hb.1)))
                clear ob
                go_wp2_with fail
                go_meet
                case rel => exact HRel.out
              · go_simp
                have hb : Below v14.heap.size v14 (v14.alloc (.cells #[] 56)) := (Below.refl _ _).alloc (Nat.le_refl _) _
                have S18 := Lib.hid (S14.out.trans (hb.mono LBv14))
                have hz : (v14.alloc (.cells #[] 56)).heap.size ≤ v14.heap.size + 1 ∧ v14.heap.size + 1 ≤ (v14.alloc (.cells #[] 56)).heap.size := by rw [size_al]; omega
                have E1_18 := Lib.hid (E1_14.out.below hb E1_14.out.lt)
                have E2_18 := Lib.hid (Ob.made v14 56 #[])
                have T18 : Hid (Tg (v14.alloc (.cells #[] 56)) (fun b => wr.heap.size + 1 ≤ b ∧ b ≠ v0.heap.size ∧ b ≠ v14.heap.size) B1 m1 e1 r.tg) := Lib.hid (T14.out.keep (Kept.all hb _) (fun b hb hlt => by obtain ⟨a1, a2, a3⟩ := hb; refine ⟨a1, ?_, ?_⟩ <;> omega))
                refine hK _ _ S18.out ?_
                clear hK K hb
                generalize v14.alloc (.cells #[] 56) = v18 at *
                have LBv18 : wr.heap.size + 1 ≤ v18.heap.size := by omega
                have X1_18 : v0.heap.size < v18.heap.size := by have := X1_14; omega
                have X2_18 : v14.heap.size < v18.heap.size := by omega
                refine HeadW_ready (rs := [6]) (by kernel_rfl) rfl rfl ?_
                refine AllW.cons rfl (fun K hK => ?_) AllW.nil
                obtain ⟨B2, e2, v19, ra, ba, oa, qa⟩ := copy_nods_at E1_18.out (HN.out.keep (Kept.all (HRB.out.trans (S18.out.mono (by omega))) _) (fun _ h _ => h)) HM2.out (by omega)
                refine step_append_run rfl (.tmp 28) (.tmp 30) _ _ rfl (by first | rfl | simp [Act.eval]) (by first | rfl | simp [Act.eval]) ra ?_
                have S19 := Lib.hid (S18.out.trans (ba.mono (by omega)))
                have HSv19 := ba.size
                have LBv19 : wr.heap.size + 1 ≤ v19.heap.size := Nat.le_trans LBv18 ba.size
                have E2_19 := Lib.hid (E2_18.out.keep (qa.2 _ (by show v14.heap.size ≠ v0.heap.size; omega) E2_18.out.lt))
                have T19 : Hid (Tg v19 (fun b => wr.heap.size + 1 ≤ b ∧ b ≠ v0.heap.size ∧ b ≠ v14.heap.size) B1 m1 e1 r.tg) := Lib.hid (T18.out.keep (Kept.below_ qa (fun b hb => by obtain ⟨a1, a2, a3⟩ := hb; exact a2)) (fun b hb hlt => by obtain ⟨a1, a2, a3⟩ := hb; refine ⟨a1, ?_, ?_⟩ <;> omega))
                have Tx19 : Hid (Tg v19 (fun b => wr.heap.size + 1 ≤ b ∧ b ≠ 0 ∧ b ≠ v14.heap.size) B1 m1 e1 r.tg) := Lib.hid (T19.out.keep (Kept.refl _ _) (fun b hb hlt => by obtain ⟨a1, a2, a3⟩ := hb; refine ⟨a1, ?_, ?_⟩ <;> omega))
                have N19 : Hid (Nds v19 (fun b => wr.heap.size + 1 ≤ b ∧ b ≠ 0 ∧ b ≠ v14.heap.size) B2 m2 e2 r.cond) := Lib.hid (oa.keep (Kept.refl _ _) (fun b hb hlt => by have hb : b = v0.heap.size ∨ b = v18.heap.size := hb; refine ⟨?_, ?_, ?_⟩ <;> omega))
                refine hK _ _ S19.out ?_
                clear hK K ra ba oa qa
                have X2_19 : v14.heap.size < v19.heap.size := by have := X2_18; omega
                refine HeadW_ready (rs := [10]) (by kernel_rfl) rfl rfl ?_
                refine AllW.cons rfl (fun K hK => ?_) AllW.nil
                obtain ⟨B3, e3, v20, ra, ba, oa, qa⟩ := copy_duts_at E2_19.out (HD.out.keep (Kept.all (HRB.out.trans (S19.out.mono (by omega))) _) (fun _ h _ => h)) HM3.out (by omega)
                refine step_append_run rfl (.tmp 32) (.tmp 34) _ _ rfl (by first | rfl | simp [Act.eval]) (by first | rfl | simp [Act.eval]) ra ?_
                have S20 := Lib.hid (S19.out.trans (ba.mono (by omega)))
                have HSv20 := ba.size
                have LBv20 : wr.heap.size + 1 ≤ v20.heap.size := Nat.le_trans LBv19 ba.size
                have T20 : Hid (Tg v20 (fun b => wr.heap.size + 1 ≤ b ∧ b ≠ 0 ∧ b ≠ v14.heap.size) B1 m1 e1 r.tg) := Lib.hid (Tx19.out.keep (Kept.below_ qa (fun b hb => by obtain ⟨a1, a2, a3⟩ := hb; exact a3)) (fun b hb hlt => by obtain ⟨a1, a2, a3⟩ := hb; refine ⟨a1, ?_, ?_⟩ <;> omega))
                have N20 : Hid (Nds v20 (fun b => wr.heap.size + 1 ≤ b ∧ b ≠ 0 ∧ b ≠ v14.heap.size) B2 m2 e2 r.cond) := Lib.hid (N19.out.keep (Kept.below_ qa (fun b hb => by obtain ⟨a1, a2, a3⟩ := hb; exact a3)) (fun b hb hlt => by obtain ⟨a1, a2, a3⟩ := hb; refine ⟨a1, ?_, ?_⟩ <;> omega))
                have Tx20 : Hid (Tg v20 (fun b => wr.heap.size + 1 ≤ b ∧ b ≠ 0 ∧ b ≠ 0) B1 m1 e1 r.tg) := Lib.hid (T20.out.keep (Kept.refl _ _) (fun b hb hlt => by obtain ⟨a1, a2, a3⟩ := hb; refine ⟨a1, ?_, ?_⟩ <;> omega))
                have Nx20 : Hid (Nds v20 (fun b => wr.heap.size + 1 ≤ b ∧ b ≠ 0 ∧ b ≠ 0) B2 m2 e2 r.cond) := Lib.hid (N20.out.keep (Kept.refl _ _) (fun b hb hlt => by obtain ⟨a1, a2, a3⟩ := hb; refine ⟨a1, ?_, ?_⟩ <;> omega))
                have D20 : Hid (Dus v20 (fun b => wr.heap.size + 1 ≤ b ∧ b ≠ 0 ∧ b ≠ 0) B3 m3 e3 r.ob) := Lib.hid (oa.keep (Kept.refl _ _) (fun b hb hlt => by have hb : b = v14.heap.size ∨ b = v19.heap.size := hb; refine ⟨?_, ?_, ?_⟩ <;> omega))
                refine hK _ _ S20.out ?_
                clear hK K ra ba oa qa
                intro _
                refine ⟨by kernel_rfl, ?_⟩
                simp only [List.drop_succ_cons, List.drop_zero]
                have ob := KRO.out _ S20.out
                have f1 := ob.frozen 2
                have f2 := (ob.put 2 (.slice B1 m1 e1)).frozen 3
                have f3 := ((ob.put 2 (.slice B1 m1 e1)).put 3 (.slice B2 m2 e2)).frozen 4
                have f4 := ob.cell 2
                have f5 := (ob.put 2 (.slice B1 m1 e1)).cell 3
                have f6 := ((ob.put 2 (.slice B1 m1 e1)).put 3 (.slice B2 m2 e2)).cell 4
                have HRel := Lib.hid (copy_r6 (HRB.out.trans (S20.out.mono (by omega))) ob (Tx20.out.keep (Kept.refl _ _) (fun b hb _ => hb.1)) (Nx20.out.keep (Kept.refl _ _) (fun b hb _ => hb.1)) (D20.out.keep (Kept.refl _ _) (fun b hb _ => hb.1)))
                clear ob
                go_wp2_with fail
                go_meet
                case rel => exact HRel.out
            · go_simp
              have hb : Below v13.heap.size v13 (v13.alloc (.cells #[] 56)) := (Below.refl _ _).alloc (Nat.le_refl _) _
              have S21 := Lib.hid (S13.out.trans (hb.mono LBv13))
              have hz : (v13.alloc (.cells #[] 56)).heap.size ≤ v13.heap.size + 1 ∧ v13.heap.size + 1 ≤ (v13.alloc (.cells #[] 56)).heap.size := by rw [size_al]; omega
              have E1_21 := Lib.hid (E1_13.out.below hb E1_13.out.lt)
              have E2_21 := Lib.hid (Ob.made v13 56 #[])
              refine hK _ _ S21.out ?_
              clear hK K hb
              generalize v13.alloc (.cells #[] 56) = v21 at *
              have LBv21 : wr.heap.size + 1 ≤ v21.heap.size := by omega
              have X1_21 : v0.heap.size < v21.heap.size := by have := X1_13; omega
              have X2_21 : v13.heap.size < v21.heap.size := by omega
              refine HeadW_ready (rs := [2]) (by kernel_rfl) rfl rfl ?_
              refine AllW.cons rfl (fun K hK => ?_) AllW.nil
              go_simp
              refine (CR.out _ (HRB.out.trans (S21.out.mono (by omega)))).mono ?_
              rintro e v22 ⟨B1, e1, rfl, hb, ht⟩
              have S22 := Lib.hid (S21.out.trans (hb.mono LBv21))
              have LBv22 : wr.heap.size + 1 ≤ v22.heap.size := Nat.le_trans LBv21 hb.size
              have HSv22 := hb.size
              have E1_22 := Lib.hid (E1_21.out.below hb E1_21.out.lt)
              have E2_22 := Lib.hid (E2_21.out.below hb E2_21.out.lt)
              have X1_22 : v0.heap.size < v22.heap.size := by have := X1_21; omega
              have X2_22 : v13.heap.size < v22.heap.size := by have := X2_21; omega
              have T22 : Hid (Tg v22 (fun b => wr.heap.size + 1 ≤ b ∧ b ≠ v0.heap.size ∧ b ≠ v13.heap.size) B1 m1 e1 r.tg) := Lib.hid (ht.keep (Kept.refl _ _) (fun b hb hlt => by have hb : v21.heap.size ≤ b := hb; refine ⟨by omega, ?_, ?_⟩ <;> omega))
              refine hK _ _ S22.out ?_
              clear hK K hb ht
              refine HeadW_take (i := 11) (v := ?_) G rfl (by kernel_rfl) (by kernel_rfl) (by kernel_rfl) (fun _ _ _ h => h) (Or.inl ⟨by rfl, ?_⟩) S22.out ?_
              rotate_left
              · intro wz hS
                go_simp
                try with_reducible rfl
              refine HeadW_ready (rs := [6]) (by kernel_rfl) rfl rfl ?_
              refine AllW.cons rfl (fun K hK => ?_) AllW.nil
              obtain ⟨B2, e2, v23, ra, ba, oa, qa⟩ := copy_nods_at E1_22.out (HN.out.keep (Kept.all (HRB.out.trans (S22.out.mono (by omega))) _) (fun _ h _ => h)) HM2.out (by omega)
              refine step_append_run rfl (.tmp 28) (.tmp 30) _ _ rfl (by first | rfl | simp [Act.eval]) (by first | rfl | simp [Act.eval]) ra ?_
              have S23 := Lib.hid (S22.out.trans (ba.mono (by omega)))
              have HSv23 := ba.size
              have LBv23 : wr.heap.size + 1 ≤ v23.heap.size := Nat.le_trans LBv22 ba.size
              have E2_23 := Lib.hid (E2_22.out.keep (qa.2 _ (by show v13.heap.size ≠ v0.heap.size; omega) E2_22.out.lt))
              have T23 : Hid (Tg v23 (fun b => wr.heap.size + 1 ≤ b ∧ b ≠ v0.heap.size ∧ b ≠ v13.heap.size) B1 m1 e1 r.tg) := Lib.hid (T22.out.keep (Kept.below_ qa (fun b hb => by obtain ⟨a1, a2, a3⟩ := hb; exact a2)) (fun b hb hlt => by obtain ⟨a1, a2, a3⟩ := hb; refine ⟨a1, ?_, ?_⟩ <;> omega))
              have Tx23 : Hid (Tg v23 (fun b => wr.heap.size + 1 ≤ b ∧ b ≠ 0 ∧ b ≠ v13.heap.size) B1 m1 e1 r.tg) := Lib.hid (T23.out.keep (Kept.refl _ _) (fun b hb hlt => by obtain ⟨a1, a2, a3⟩ := hb; refine ⟨a1, ?_, ?_⟩ <;> omega))
              have N23 : Hid (Nds v23 (fun b => wr.heap.size + 1 ≤ b ∧ b ≠ 0 ∧ b ≠ v13.heap.size) B2 m2 e2 r.cond) := Lib.hid (oa.keep (Kept.refl _ _) (fun b hb hlt => by have hb : b = v0.heap.size ∨ b = v22.heap.size := hb; refine ⟨?_, ?_, ?_⟩ <;> omega))
              refine hK _ _ S23.out ?_
              clear hK K ra ba oa qa
              have X2_23 : v13.heap.size < v23.heap.size := by have := X2_22; omega
              refine HeadW_ready (rs := [10]) (by kernel_rfl) rfl rfl ?_
              refine AllW.cons rfl (fun K hK => ?_) AllW.nil
              obtain ⟨B3, e3, v24, ra, ba, oa, qa⟩ := copy_duts_at E2_23.out (HD.out.keep (Kept.all (HRB.out.trans (S23.out.mono (by omega))) _) (fun _ h _ => h)) HM3.out (by omega)
              refine step_append_run rfl (.tmp 32) (.tmp 34) _ _ rfl (by first | rfl | simp [Act.eval]) (by first | rfl | simp [Act.eval]) ra ?_
              have S24 := Lib.hid (S23.out.trans (ba.mono (by omega)))
              have HSv24 := ba.size
              have LBv24 : wr.heap.size + 1 ≤ v24.heap.size := Nat.le_trans LBv23 ba.size
              have T24 : Hid (Tg v24 (fun b => wr.heap.size + 1 ≤ b ∧ b ≠ 0 ∧ b ≠ v13.heap.size) B1 m1 e1 r.tg) := Lib.hid (Tx23.out.keep (Kept.below_ qa (fun b hb => by obtain ⟨a1, a2, a3⟩ := hb; exact a3)) (fun b hb hlt => by obtain ⟨a1, a2, a3⟩ := hb; refine ⟨a1, ?_, ?_⟩ <;> omega))
              have N24 : Hid (Nds v24 (fun b => wr.heap.size + 1 ≤ b ∧ b ≠ 0 ∧ b ≠ v13.heap.size) B2 m2 e2 r.cond) := Lib.hid (N23.out.keep (Kept.below_ qa (fun b hb => by obtain ⟨a1, a2, a3⟩ := hb; exact a3)) (fun b hb hlt => by obtain ⟨a1, a2, a3⟩ := hb; refine ⟨a1, ?_, ?_⟩ <;> omega))
              have Tx24 : Hid (Tg v24 (fun b => wr.heap.size + 1 ≤ b ∧ b ≠ 0 ∧ b ≠ 0) B1 m1 e1 r.tg) := Lib.hid (T24.out.keep (Kept.refl _ _) (fun b hb hlt => by obtain ⟨a1, a2, a3⟩ := hb; refine ⟨a1, ?_, ?_⟩ <;> omega))
              have Nx24 : Hid (Nds v24 (fun b => wr.heap.size + 1 ≤ b ∧ b ≠ 0 ∧ b ≠ 0) B2 m2 e2 r.cond) := Lib.hid (N24.out.keep (Kept.refl _ _) (fun b hb hlt => by obtain ⟨a1, a2, a3⟩ := hb; refine ⟨a1, ?_, ?_⟩ <;> omega))
              have D24 : Hid (Dus v24 (fun b => wr.heap.size + 1 ≤ b ∧ b ≠ 0 ∧ b ≠ 0) B3 m3 e3 r.ob) := Lib.hid (oa.keep (Kept.refl _ _) (fun b hb hlt => by have hb : b = v13.heap.size ∨ b = v23.heap.size := hb; refine ⟨?_, ?_, ?_⟩ <;> omega))
              refine hK _ _ S24.out ?_
              clear hK K ra ba oa qa
              intro _
              refine ⟨by kernel_rfl, ?_⟩
              simp only [List.drop_succ_cons, List.drop_zero]
              have ob := KRO.out _ S24.out
              have f1 := ob.frozen 2
              have f2 := (ob.put 2 (.slice B1 m1 e1)).frozen 3
              have f3 := ((ob.put 2 (.slice B1 m1 e1)).put 3 (.slice B2 m2 e2)).frozen 4
              have f4 := ob.cell 2
              have f5 := (ob.put 2 (.slice B1 m1 e1)).cell 3
              have f6 := ((ob.put 2 (.slice B1 m1 e1)).put 3 (.slice B2 m2 e2)).cell 4
              have HRel := Lib.hid (copy_r6 (HRB.out.trans (S24.out.mono (by omega))) ob (Tx24.out.keep (Kept.refl _ _) (fun b hb _ => hb.1)) (Nx24.out.keep (Kept.refl _ _) (fun b hb _ => hb.1)) (D24.out.keep (Kept.refl _ _) (fun b hb _ => hb.1)))
              clear ob
              go_wp2_with fail
              go_meet
              case rel => exact HRel.out
          · go_simp
            have hb : Below v0.heap.size v0 (v0.alloc (.cells #[] 56)) := (Below.refl _ _).alloc (Nat.le_refl _) _
            have S25 := Lib.hid (S0.out.trans (hb.mono LBv0))
            have hz : (v0.alloc (.cells #[] 56)).heap.size ≤ v0.heap.size + 1 ∧ v0.heap.size + 1 ≤ (v0.alloc (.cells #[] 56)).heap.size := by rw [size_al]; omega
            have E2_25 := Lib.hid (Ob.made v0 56 #[])
            refine hK _ _ S25.out ?_
            clear hK K hb
            generalize v0.alloc (.cells #[] 56) = v25 at *
            have LBv25 : wr.heap.size + 1 ≤ v25.heap.size := by omega
            have X2_25 : v0.heap.size < v25.heap.size := by omega
            refine HeadW_ready (rs := [2, 3]) (by kernel_rfl) rfl rfl ?_
            refine AllW.cons rfl (fun K hK => ?_) (AllW.cons rfl (fun K hK => ?_) AllW.nil)
            · go_simp
              refine (CR.out _ (HRB.out.trans (S25.out.mono (by omega)))).mono ?_
              rintro e v26 ⟨B1, e1, rfl, hb, ht⟩
              have S26 := Lib.hid (S25.out.trans (hb.mono LBv25))
              have LBv26 : wr.heap.size + 1 ≤ v26.heap.size := Nat.le_trans LBv25 hb.size
              have HSv26 := hb.size
              have E2_26 := Lib.hid (E2_25.out.below hb E2_25.out.lt)
              have X2_26 : v0.heap.size < v26.heap.size := by have := X2_25; omega
              have T26 : Hid (Tg v26 (fun b => wr.heap.size + 1 ≤ b ∧ b ≠ 0 ∧ b ≠ v0.heap.size) B1 m1 e1 r.tg) := Lib.hid (ht.keep (Kept.refl _ _) (fun b hb hlt => by have hb : v25.heap.size ≤ b := hb; refine ⟨by omega, ?_, ?_⟩ <;> omega))
              refine hK _ _ S26.out ?_
              clear hK K hb ht
              refine HeadW_take (i := 11) (v := ?_) G rfl (by kernel_rfl) (by kernel_rfl) (by kernel_rfl) (fun _ _ _ h => h) (Or.inl ⟨by rfl, ?_⟩) S26.out ?_
              rotate_left
              · intro wz hS
                go_simp
                try with_reducible rfl
              refine HeadW_ready (rs := [3]) (by kernel_rfl) rfl rfl ?_
              refine AllW.cons rfl (fun K hK => ?_) AllW.nil
              go_simp
              have hb : Below v26.heap.size v26 (v26.alloc (.cells #[] 52)) := (Below.refl _ _).alloc (Nat.le_refl _) _
              have S27 := Lib.hid (S26.out.trans (hb.mono LBv26))
              have hz : (v26.alloc (.cells #[] 52)).heap.size ≤ v26.heap.size + 1 ∧ v26.heap.size + 1 ≤ (v26.alloc (.cells #[] 52)).heap.size := by rw [size_al]; omega
              have E2_27 := Lib.hid (E2_26.out.below hb E2_26.out.lt)
              have E1_27 := Lib.hid (Ob.made v26 52 #[])
              have T27 : Hid (Tg (v26.alloc (.cells #[] 52)) (fun b => wr.heap.size + 1 ≤ b ∧ b ≠ v26.heap.size ∧ b ≠ v0.heap.size) B1 m1 e1 r.tg) := Lib.hid (T26.out.keep (Kept.all hb _) (fun b hb hlt => by obtain ⟨a1, a2, a3⟩ := hb; refine ⟨a1, ?_, ?_⟩ <;> omega))
              refine hK _ _ S27.out ?_
              clear hK K hb
              generalize v26.alloc (.cells #[] 52) = v27 at *
              have LBv27 : wr.heap.size + 1 ≤ v27.heap.size := by omega
              have X1_27 : v26.heap.size < v27.heap.size := by omega
              have X2_27 : v0.heap.size < v27.heap.size := by have := X2_26; omega
              refine HeadW_ready (rs := [6]) (by kernel_rfl) rfl rfl ?_
              refine AllW.cons rfl (fun K hK => ?_) AllW.nil
              obtain ⟨B2, e2, v28, ra, ba, oa, qa⟩ := copy_nods_at E1_27.out (HN.out.keep (Kept.all (HRB.out.trans (S27.out.mono (by omega))) _) (fun _ h _ => h)) HM2.out (by omega)
              refine step_append_run rfl (.tmp 28) (.tmp 30) _ _ rfl (by first | rfl | simp [Act.eval]) (by first | rfl | simp [Act.eval]) ra ?_
              have S28 := Lib.hid (S27.out.trans (ba.mono (by omega)))
              have HSv28 := ba.size
              have LBv28 : wr.heap.size + 1 ≤ v28.heap.size := Nat.le_trans LBv27 ba.size
              have E2_28 := Lib.hid (E2_27.out.keep (qa.2 _ (by show v0.heap.size ≠ v26.heap.size; omega) E2_27.out.lt))
              have T28 : Hid (Tg v28 (fun b => wr.heap.size + 1 ≤ b ∧ b ≠ v26.heap.size ∧ b ≠ v0.heap.size) B1 m1 e1 r.tg) := Lib.hid (T27.out.keep (Kept.below_ qa (fun b hb => by obtain ⟨a1, a2, a3⟩ := hb; exact a2)) (fun b hb hlt => by obtain ⟨a1, a2, a3⟩ := hb; refine ⟨a1, ?_, ?_⟩ <;> omega))
              have Tx28 : Hid (Tg v28 (fun b => wr.heap.size + 1 ≤ b ∧ b ≠ 0 ∧ b ≠ v0.heap.size) B1 m1 e1 r.tg) := Lib.hid (T28.out.keep (Kept.refl _ _) (fun b hb hlt => by obtain ⟨a1, a2, a3⟩ := hb; refine ⟨a1, ?_, ?_⟩ <;> omega))
              have N28 : Hid (Nds v28 (fun b => wr.heap.size + 1 ≤ b ∧ b ≠ 0 ∧ b ≠ v0.heap.size) B2 m2 e2 r.cond) := Lib.hid (oa.keep (Kept.refl _ _) (fun b hb hlt => by have hb : b = v26.heap.size ∨ b = v27.heap.size := hb; refine ⟨?_, ?_, ?_⟩ <;> omega))
              refine hK _ _ S28.out ?_
              clear hK K ra ba oa qa
              have X2_28 : v0.heap.size < v28.heap.size := by have := X2_27; omega
              refine HeadW_ready (rs := [10]) (by kernel_rfl) rfl rfl ?_
              refine AllW.cons rfl (fun K hK => ?_) AllW.nil
              obtain ⟨B3, e3, v29, ra, ba, oa, qa⟩ := copy_duts_at E2_28.out (HD.out.keep (Kept.all (HRB.out.trans (S28.out.mono (by omega))) _) (fun _ h _ => h)) HM3.out (by omega)
              refine step_append_run rfl (.tmp 32) (.tmp 34) _ _ rfl (by first | rfl | simp [Act.eval]) (by first | rfl | simp [Act.eval]) ra ?_
              have S29 := Lib.hid (S28.out.trans (ba.mono (by omega)))
              have HSv29 := ba.size
              have LBv29 : wr.heap.size + 1 ≤ v29.heap.size := Nat.le_trans LBv28 ba.size
              have T29 : Hid (Tg v29 (fun b => wr.heap.size + 1 ≤ b ∧ b ≠ 0 ∧ b ≠ v0.heap.size) B1 m1 e1 r.tg) := Lib.hid (Tx28.out.keep (Kept.below_ qa (fun b hb => by obtain ⟨a1, a2, a3⟩ := hb; exact a3)) (fun b hb hlt => by obtain ⟨a1, a2, a3⟩ := hb; refine ⟨a1, ?_, ?_⟩ <;> omega))
              have N29 : Hid (Nds v29 (fun b => wr.heap.size + 1 ≤ b ∧ b ≠ 0 ∧ b ≠ v0.heap.size) B2 m2 e2 r.cond) := Lib.hid (N28.out.keep (Kept.below_ qa (fun b hb => by obtain ⟨a1, a2, a3⟩ := hb; exact a3)) (fun b hb hlt => by obtain ⟨a1, a2, a3⟩ := hb; refine ⟨a1, ?_, ?_⟩ <;> omega))
              have Tx29 : Hid (Tg v29 (fun b => wr.heap.size + 1 ≤ b ∧ b ≠ 0 ∧ b ≠ 0) B1 m1 e1 r.tg) := Lib.hid (T29.out.keep (Kept.refl _ _) (fun b hb hlt => by obtain ⟨a1, a2, a3⟩ := hb; refine ⟨a1, ?_, ?_⟩ <;> omega))
              have Nx29 : Hid (Nds v29 (fun b => wr.heap.size + 1 ≤ b ∧ b ≠ 0 ∧ b ≠ 0) B2 m2 e2 r.cond) := Lib.hid (N29.out.keep (Kept.refl _ _) (fun b hb hlt => by obtain ⟨a1, a2, a3⟩ := hb; refine ⟨a1, ?_, ?_⟩ <;> omega))
              have D29 : Hid (Dus v29 (fun b => wr.heap.size + 1 ≤ b ∧ b ≠ 0 ∧ b ≠ 0) B3 m3 e3 r.ob) := Lib.hid (oa.keep (Kept.refl _ _) (fun b hb hlt => by have hb : b = v0.heap.size ∨ b = v28.heap.size := hb; refine ⟨?_, ?_, ?_⟩ <;> omega))
              refine hK _ _ S29.out ?_
              clear hK K ra ba oa qa
              intro _
              refine ⟨by kernel_rfl, ?_⟩
              simp only [List.drop_succ_cons, List.drop_zero]
              have ob := KRO.out _ S29.out
              have f1 := ob.frozen 2
              have f2 := (ob.put 2 (.slice B1 m1 e1)).frozen 3
              have f3 := ((ob.put 2 (.slice B1 m1 e1)).put 3 (.slice B2 m2 e2)).frozen 4
              have f4 := ob.cell 2
              have f5 := (ob.put 2 (.slice B1 m1 e1)).cell 3
              have f6 := ((ob.put 2 (.slice B1 m1 e1)).put 3 (.slice B2 m2 e2)).cell 4
              have HRel := Lib.hid (copy_r6 (HRB.out.trans (S29.out.mono (by omega))) ob (Tx29.out.keep (Kept.refl _ _) (fun b hb _ => hb.1)) (Nx29.out.keep (Kept.refl _ _) (fun b hb _ => hb.1)) (D29.out.keep (Kept.refl _ _) (fun b hb _ => hb.1)))
              clear ob
              go_wp2_with fail
              go_meet
              case rel => exact HRel.out
            · go_simp
              have hb : Below v25.heap.size v25 (v25.alloc (.cells #[] 52)) := (Below.refl _ _).alloc (Nat.le_refl _) _
              have S30 := Lib.hid (S25.out.trans (hb.mono LBv25))
              have hz : (v25.alloc (.cells #[] 52)).heap.size ≤ v25.heap.size + 1 ∧ v25.heap.size + 1 ≤ (v25.alloc (.cells #[] 52)).heap.size := by rw [size_al]; omega
              have E2_30 := Lib.hid (E2_25.out.below hb E2_25.out.lt)
              have E1_30 := Lib.hid (Ob.made v25 52 #[])
              refine hK _ _ S30.out ?_
              clear hK K hb
              generalize v25.alloc (.cells #[] 52) = v30 at *
              have LBv30 : wr.heap.size + 1 ≤ v30.heap.size := by omega
              have X1_30 : v25.heap.size < v30.heap.size := by omega
              have X2_30 : v0.heap.size < v30.heap.size := by have := X2_25; omega
              refine HeadW_ready (rs := [2]) (by kernel_rfl) rfl rfl ?_
              refine AllW.cons rfl (fun K hK => ?_) AllW.nil
              go_simp
              refine (CR.out _ (HRB.out.trans (S30.out.mono (by omega)))).mono ?_
              rintro e v31 ⟨B1, e1, rfl, hb, ht⟩
              have S31 := Lib.hid (S30.out.trans (hb.mono LBv30))
              have LBv31 : wr.heap.size + 1 ≤ v31.heap.size := Nat.le_trans LBv30 hb.size
              have HSv31 := hb.size
              have E1_31 := Lib.hid (E1_30.out.below hb E1_30.out.lt)
              have E2_31 := Lib.hid (E2_30.out.below hb E2_30.out.lt)
              have X1_31 : v25.heap.size < v31.heap.size := by have := X1_30; omega
              have X2_31 : v0.heap.size < v31.heap.size := by have := X2_30; omega
              have T31 : Hid (Tg v31 (fun b => wr.heap.size + 1 ≤ b ∧ b ≠ v25.heap.size ∧ b ≠ v0.heap.size) B1 m1 e1 r.tg) := Lib.hid (ht.keep (Kept.refl _ _) (fun b hb hlt => by have hb : v30.heap.size ≤ b := hb; refine ⟨by omega, ?_, ?_⟩ <;> omega))
              refine hK _ _ S31.out ?_
              clear hK K hb ht
              refine HeadW_take (i := 11) (v := ?_) G rfl (by kernel_rfl) (by kernel_rfl) (by kernel_rfl) (fun _ _ _ h => h) (Or.inl ⟨by rfl, ?_⟩) S31.out ?_
              rotate_left
              · intro wz hS
                go_simp
                try with_reducible rfl
              refine HeadW_ready (rs := [6]) (by kernel_rfl) rfl rfl ?_
              refine AllW.cons rfl (fun K hK => ?_) AllW.nil
              obtain ⟨B2, e2, v32, ra, ba, oa, qa⟩ := copy_nods_at E1_31.out (HN.out.keep (Kept.all (HRB.out.trans (S31.out.mono (by omega))) _) (fun _ h _ => h)) HM2.out (by omega)
              refine step_append_run rfl (.tmp 28) (.tmp 30) _ _ rfl (by first | rfl | simp [Act.eval]) (by first | rfl | simp [Act.eval]) ra ?_
              have S32 := Lib.hid (S31.out.trans (ba.mono (by omega)))
              have HSv32 := ba.size
              have LBv32 : wr.heap.size + 1 ≤ v32.heap.size := Nat.le_trans LBv31 ba.size
              have E2_32 := Lib.hid (E2_31.out.keep (qa.2 _ (by show v0.heap.size ≠ v25.heap.size; omega) E2_31.out.lt))
              have T32 : Hid (Tg v32 (fun b => wr.heap.size + 1 ≤ b ∧ b ≠ v25.heap.size ∧ b ≠ v0.heap.size) B1 m1 e1 r.tg) := Lib.hid (T31.out.keep (Kept.below_ qa (fun b hb => by obtain ⟨a1, a2, a3⟩ := hb; exact a2)) (fun b hb hlt => by obtain ⟨a1, a2, a3⟩ := hb; refine ⟨a1, ?_, ?_⟩ <;> omega))
              have Tx32 : Hid (Tg v32 (fun b => wr.heap.size + 1 ≤ b ∧ b ≠ 0 ∧ b ≠ v0.heap.size) B1 m1 e1 r.tg) := Lib.hid (T32.out.keep (Kept.refl _ _) (fun b hb hlt => by obtain ⟨a1, a2, a3⟩ := hb; refine ⟨a1, ?_, ?_⟩ <;> omega))
              have N32 : Hid (Nds v32 (fun b => wr.heap.size + 1 ≤ b ∧ b ≠ 0 ∧ b ≠ v0.heap.size) B2 m2 e2 r.cond) := Lib.hid (oa.keep (Kept.refl _ _) (fun b hb hlt => by have hb : b = v25.heap.size ∨ b = v31.heap.size := hb; refine ⟨?_, ?_, ?_⟩ <;> omega))
              refine hK _ _ S32.out ?_
              clear hK K ra ba oa qa
              have X2_32 : v0.heap.size < v32.heap.size := by have := X2_31; omega
              refine HeadW_ready (rs := [10]) (by kernel_rfl) rfl rfl ?_
              refine AllW.cons rfl (fun K hK => ?_) AllW.nil
              obtain ⟨B3, e3, v33, ra, ba, oa, qa⟩ := copy_duts_at E2_32.out (HD.out.keep (Kept.all (HRB.out.trans (S32.out.mono (by omega))) _) (fun _ h _ => h)) HM3.out (by omega)
              refine step_append_run rfl (.tmp 32) (.tmp 34) _ _ rfl (by first | rfl | simp [Act.eval]) (by first | rfl | simp [Act.eval]) ra ?_
              have S33 := Lib.hid (S32.out.trans (ba.mono (by omega)))
              have HSv33 := ba.size
              have LBv33 : wr.heap.size + 1 ≤ v33.heap.size := Nat.le_trans LBv32 ba.size
              have T33 : Hid (Tg v33 (fun b => wr.heap.size + 1 ≤ b ∧ b ≠ 0 ∧ b ≠ v0.heap.size) B1 m1 e1 r.tg) := Lib.hid (Tx32.out.keep (Kept.below_ qa (fun b hb => by obtain ⟨a1, a2, a3⟩ := hb; exact a3)) (fun b hb hlt => by obtain ⟨a1, a2, a3⟩ := hb; refine ⟨a1, ?_, ?_⟩ <;> omega))
              have N33 : Hid (Nds v33 (fun b => wr.heap.size + 1 ≤ b ∧ b ≠ 0 ∧ b ≠ v0.heap.size) B2 m2 e2 r.cond) := Lib.hid (N32.out.keep (Kept.below_ qa (fun b hb => by obtain ⟨a1, a2, a3⟩ := hb; exact a3)) (fun b hb hlt => by obtain ⟨a1, a2, a3⟩ := hb; refine ⟨a1, ?_, ?_⟩ <;> omega))
              have Tx33 : Hid (Tg v33 (fun b => wr.heap.size + 1 ≤ b ∧ b ≠ 0 ∧ b ≠ 0) B1 m1 e1 r.tg) := Lib.hid (T33.out.keep (Kept.refl _ _) (fun b hb hlt => by obtain ⟨a1, a2, a3⟩ := hb; refine ⟨a1, ?_, ?_⟩ <;> omega))
              have Nx33 : Hid (Nds v33 (fun b => wr.heap.size + 1 ≤ b ∧ b ≠ 0 ∧ b ≠ 0) B2 m2 e2 r.cond) := Lib.hid (N33.out.keep (Kept.refl _ _) (fun b hb hlt => by obtain ⟨a1, a2, a3⟩ := hb; refine ⟨a1, ?_, ?_⟩ <;> omega))
              have D33 : Hid (Dus v33 (fun b => wr.heap.size + 1 ≤ b ∧ b ≠ 0 ∧ b ≠ 0) B3 m3 e3 r.ob) := Lib.hid (oa.keep (Kept.refl _ _) (fun b hb hlt => by have hb : b = v0.heap.size ∨ b = v32.heap.size := hb; refine ⟨?_, ?_, ?_⟩ <;> omega))
              refine hK _ _ S33.out ?_
              clear hK K ra ba oa qa
              intro _
              refine ⟨by kernel_rfl, ?_⟩
              simp only [List.drop_succ_cons, List.drop_zero]
              have ob := KRO.out _ S33.out
              have f1 := ob.frozen 2
              have f2 := (ob.put 2 (.slice B1 m1 e1)).frozen 3
              have f3 := ((ob.put 2 (.slice B1 m1 e1)).put 3 (.slice B2 m2 e2)).frozen 4
              have f4 := ob.cell 2
              have f5 := (ob.put 2 (.slice B1 m1 e1)).cell 3
              have f6 := ((ob.put 2 (.slice B1 m1 e1)).put 3 (.slice B2 m2 e2)).cell 4
              have HRel := Lib.hid (copy_r6 (HRB.out.trans (S33.out.mono (by omega))) ob (Tx33.out.keep (Kept.refl _ _) (fun b hb _ => hb.1)) (Nx33.out.keep (Kept.refl _ _) (fun b hb _ => hb.1)) (D33.out.keep (Kept.refl _ _) (fun b hb _ => hb.1)))
              clear ob
              go_wp2_with fail
              go_meet
              case rel => exact HRel.out

        case rest =>
          obtain ⟨B1, e1, B2, e2, B3, e3, hob, hb2, ht2, hn2, hd2⟩ := hcut
          obtain ⟨A8, c8, w8, r8, g8, b8⟩ := push_rule (HG.out.below keeps_rul hb2) HID.out (ht2.keep (Kept.refl _ _) (fun b hb _ => HG.out.apart b (Nat.le_of_succ_le hb))) (hn2.keep (Kept.refl _ _) (fun b hb _ => HG.out.apart b (Nat.le_of_succ_le hb))) (hd2.keep (Kept.refl _ _) (fun b hb _ => HG.out.apart b (Nat.le_of_succ_le hb))) (by have := HC2.out; omega)
          have q0 := hob.cell 0
          have q1 := hob.cell 1
          have q2 := hob.cell 2
          have q3 := hob.cell 3
          have q4 := hob.cell 4
          have R8 := Lib.hid r8
          have G8 := Lib.hid g8
          have B8 := Lib.hid ((HB.out.trans (hb2.mono HB.out.size)).trans b8)
          clear hob hb2 ht2 hn2 hd2 r8 g8 b8
          go_wp2_with (at_builtin; refine wpList_append_run (o := ⟨some 42, _, _, _, _, _⟩) rfl _ _ _ _ rfl rfl rfl R8.out ?_)
          go_roundw
          case rel => exact ⟨k + 1, A8, c8, by omega, by go_num, rfl, B8.out, by rw [List.take_add_one, HX.out]; exact G8.out⟩
          case measure => simp [intOf]; omega
      · obtain rfl : k = n2 := by omega
        obtain ⟨wb, hwb⟩ : ∃ wb, wb = wr := ⟨wr, rfl⟩
        subst hwb
        have hg2 := HG.out
        rw [List.take_of_length_le (Nat.le_of_eq HL2.out)] at hg2
        have HG2 := Lib.hid hg2
        have OB2 := Lib.hid (OBw.out.below HB.out OBw.out.lt)
        have OZ2 := Lib.hid (OZw.out.below HB.out OZw.out.lt)
        have cb5 := OB2.out.cell 5
        have hle3 := Rw.le h3
        have hcap3 := Rw.cap h3
        have hbig3 := Rw.big h3
        have HL3 := Lib.hid (Rw.len h3)
        have HC3 : Hid (n3 ≤ sumC (polC d) p.kids ∧ sumC (polC d) p.kids ≤ 3000) := ⟨kids_len h3, by unfold polC at hs; omega⟩
        unfold maxLen at hcap3
        have H3 := Lib.hid h3
        have HIH := Lib.hid IH
        clear hg2 HG h3 IH
        go_wp2
        go_loopw [6, 47] (fun v i wr => ∃ (k : Nat) (A : Option Addr) (c : Nat), k ≤ n3 ∧ i = .int .i64 k ∧ v = .slice A k c ∧ Below wb.heap.size wb wr ∧ Gr 7 (fun w R => PolAt w R d) wr wb.heap.size 28 A k c (p.kids.take k)) (fun v i _ => n3 - (intOf i).toNat)
        case atStart => exact ⟨0, none, 0, Nat.zero_le _, rfl, rfl, Below.refl _ _, Gr.nil _ _ (Nat.le_refl _)⟩
        case round =>
          obtain ⟨k3', A9, c9, hk3, rfl, rfl, hb, hg⟩ := hrel
          have HB3 := Lib.hid hb
          have HG3 := Lib.hid hg
          have BWR : Hid (Below w.heap.size w wr) := Lib.hid (BWw.out.trans ((HB.out.trans (hb.mono HB.out.size)).mono BWw.out.size))
          clear hb hg
          by_cases hlt3 : k3' < n3
          · obtain ⟨b, o, q, d', A5, m5, c5, A6, m6, c6, A7, m7, c7, A8, m8, c8, rfl, hRb, hbl, hq, rfl, ⟨hqid, hqalg⟩, ⟨g0, g1, g2, g3, g4, g5, g6⟩, ht, hr, hkd, ho⟩ := (H3.out.keep (Kept.all BWR.out _) (fun _ h _ => h)).at_ hlt3
            have hsq := sumC_le (f := polC (d' + 1)) hq
            have hbk : Below wr.heap.size wr (wr.alloc (.cells #[.string q.id, .bool q.set, .int .i64 q.alg, .slice A5 m5 c5, .slice A6 m6 c6, .slice A7 m7 c7, .slice A8 m8 c8] 28)) := (Below.refl _ _).alloc (Nat.le_refl _) _
            have hpq : polC (d' + 1) q ≤ 3000 := by have := HC3.out; omega
            have hm6 : m6 ≤ 3000 := by have := Rw.len hr; unfold polC at hpq; omega
            have hm7 : m7 ≤ 3000 := by have := kids_len hkd; unfold polC at hpq; omega
            have HCall := Lib.hid (HIH.out d' rfl (w := wr.alloc (.cells #[.string q.id, .bool q.set, .int .i64 q.alg, .slice A5 m5 c5, .slice A6 m6 c6, .slice A7 m7 c7, .slice A8 m8 c8] 28)) hpq hqid hqalg (ht.keep (Kept.all hbk _) (fun _ h _ => h)) (hr.keep (Kept.all hbk _) (fun _ h _ => h)) (hkd.keep (Kept.all hbk _) (fun _ h _ => h)) (ho.keep (Kept.all hbk _) (fun _ h _ => h)))
            have HX3 := Lib.hid hq
            have HQ : Hid (q.id.size ≤ maxLen ∧ InI q.alg ∧ m6 ≤ 3000 ∧ m7 ≤ 3000) := ⟨hqid, hqalg, hm6, hm7⟩
            have HBK := Lib.hid hbk
            have HLT : k3' < 1000000 := by have := HC3.out; omega
            clear hsq hpq hqid ht hr hkd ho hq hbk hm6 hm7
            go_wp2_with (first
              | (go_at_call 10; (with_reducible refine HCall.out.mono ?_); rintro e w7 ⟨B1, e1, B2, e2, B3, e3, B4, e4, rfl, hb, hp⟩; have hb7 := HBK.out.trans (hb.mono HBK.out.size); obtain ⟨Ax, cx, w8, r8, g8, b8⟩ := push_pol (HG3.out.below (keeps_pol _) hb7) (PolAt.keep (Kept.refl _ _) (fun b hb _ => HG3.out.apart b (Nat.le_trans HBK.out.size hb)) (hp.at_ HQ.out.1 HQ.out.2.1 HQ.out.2.2.1 HQ.out.2.2.2)) HLT; have R8 := Lib.hid r8; have G8 := Lib.hid g8; have B8 := Lib.hid ((HB3.out.trans (hb7.mono HB3.out.size)).trans b8); clear hb hp hb7 r8 g8 b8)
              | (at_builtin; refine wpList_append_run (o := ⟨some 55, _, _, _, _, _⟩) rfl _ _ _ _ rfl rfl rfl R8.out ?_))
            go_roundw
            case rel => exact ⟨k3' + 1, Ax, cx, by omega, by go_num, rfl, B8.out, by rw [List.take_add_one, HX3.out]; exact G8.out⟩
            case measure => simp [intOf]; omega
          · obtain rfl : k3' = n3 := by omega
            have OB3 := Lib.hid (OB2.out.below HB3.out OB2.out.lt)
            have OZ3 := Lib.hid (OZ2.out.below HB3.out OZ2.out.lt)
            have x0 := OB3.out.cell 0
            have x1 := OB3.out.cell 1
            have x2 := OB3.out.cell 2
            have x3 := OB3.out.cell 3
            have x4 := OB3.out.cell 4
            have x5 := OB3.out.cell 5
            have x6 := OB3.out.cell 6
            have y4 := OB3.out.frozen 4
            have y5 := (OB3.out.put 4 (.slice A k c)).frozen 5
            have o1 : Only w.heap.size wr ((wr.setCell ⟨w.heap.size, 4, none⟩ (.slice A k c)).setCell ⟨w.heap.size, 5, none⟩ (.slice A9 k3' c9)) := (Only.refl.setCell (p := ⟨w.heap.size, 4, none⟩) rfl _).setCell (p := ⟨w.heap.size, 5, none⟩) rfl _
            have z0 := OZ3.out.keep (o1.heap OZ3.out.lt (by omega))
            have zc0 := z0.cell 0
            have zf0 := z0.frozen 0
            have z1 := z0.put 0 (.string p.id)
            have zc1 := z1.cell 1
            have zf1 := z1.frozen 1
            have z2 := z1.put 1 (.bool p.set)
            have zc2 := z2.cell 2
            have zf2 := z2.frozen 2
            have z3 := z2.put 2 (.int .i64 p.alg)
            have zc3 := z3.cell 3
            have zf3 := z3.frozen 3
            have z4 := z3.put 3 (.slice B1p n1 d1p)
            have zc4 := z4.cell 4
            have zf4 := z4.frozen 4
            have z5 := z4.put 4 (.slice A k c)
            have zc5 := z5.cell 5
            have zf5 := z5.frozen 5
            have z6 := z5.put 5 (.slice A9 k3' c9)
            have zc6 := z6.cell 6
            have zf6 := z6.frozen 6
            have z7 := z6.put 6 (.slice B4p n4 d4p)
            have o2 := ((((((((Only.refl (r := w.heap.size + 1) (w := (wr.setCell ⟨w.heap.size, 4, none⟩ (.slice A k c)).setCell ⟨w.heap.size, 5, none⟩ (.slice A9 k3' c9))).setCell (p := ⟨w.heap.size + 1, 0, none⟩) rfl (.string p.id)).setCell (p := ⟨w.heap.size + 1, 1, none⟩) rfl (.bool p.set)).setCell (p := ⟨w.heap.size + 1, 2, none⟩) rfl (.int .i64 p.alg)).setCell (p := ⟨w.heap.size + 1, 3, none⟩) rfl (.slice B1p n1 d1p)).setCell (p := ⟨w.heap.size + 1, 4, none⟩) rfl (.slice A k c)).setCell (p := ⟨w.heap.size + 1, 5, none⟩) rfl (.slice A9 k3' c9)).setCell (p := ⟨w.heap.size + 1, 6, none⟩) rfl (.slice B4p n4 d4p))
            have HE := Lib.hid (copy_end BWw.out HB.out HB3.out (by have := OZw.out.lt; omega) o1 o2 TPw.out DPw.out HG2.out (by have := HG3.out; rwa [List.take_of_length_le (Nat.le_of_eq HL3.out)] at this))
            have HZ : Hid (Ob (((((((((wr.setCell ⟨w.heap.size, 4, none⟩ (.slice A k c)).setCell ⟨w.heap.size, 5, none⟩ (.slice A9 k3' c9)).setCell ⟨w.heap.size + 1, 0, none⟩ (.string p.id)).setCell ⟨w.heap.size + 1, 1, none⟩ (.bool p.set)).setCell ⟨w.heap.size + 1, 2, none⟩ (.int .i64 p.alg)).setCell ⟨w.heap.size + 1, 3, none⟩ (.slice B1p n1 d1p)).setCell ⟨w.heap.size + 1, 4, none⟩ (.slice A k c)).setCell ⟨w.heap.size + 1, 5, none⟩ (.slice A9 k3' c9)).setCell ⟨w.heap.size + 1, 6, none⟩ (.slice B4p n4 d4p)) (w.heap.size + 1) 28 #[.string p.id, .bool p.set, .int .i64 p.alg, .slice B1p n1 d1p, .slice A k c, .slice A9 k3' c9, .slice B4p n4 d4p]) := by
              show Ob _ _ _ _
              simpa using z7
            clear o1 o2 z0 z1 z2 z3 z4 z5 z6 z7
            go_wp2
            refine bodyPost_ret (pol_ret rfl rfl HZ.out) rfl ?_
            exact ⟨B1p, d1p, A, c, A9, c9, B4p, d4p, rfl, HE.out⟩
theorem cok_all : ∀ d, CpOk d
  | 0 => copy_step 0 fun d' h => by omega
  | d + 1 => copy_step (d + 1) fun d' h => by
    obtain rfl : d' = d := by omega
    exact cok_all d'
end Go.Proofs.YtjpkemamfccfdaaGreatDoor
