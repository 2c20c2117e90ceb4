/- Several texts in one: Parse7, Parse8, Parse9, Parse10, LexBits, LexPast, ConvText, LexOne, LexClone. -/
import Derived.Test.YtadjfkgnoklmiaaVrpC
import Derived.Test.YtadjfkgnoklmiaaVrpB
import Derived.Test.YtadjfkgnoklmiaaVrpA
import Derived.Laws.BytesArg
import Derived.Lib.Strings
import Derived.Lib.Walk
import Derived.Lib.BufferWrite
import Derived.Lib.UnsafeStr
import Derived.Laws.MakeOwn
/- The parser: expressions. -/
namespace Go.Proofs.Ytadjfkgnoklmiaa
set_option linter.unusedVariables false
open Go.RowKit

def NoP (w : World) (R : Nat → Prop) (vs : List Value) (m : Nod) : Prop := vs = m.cells ∧ m.ok
theorem keeps_nop : Keeps NoP := fun _ _ _ _ _ _ h _ _ => h
theorem nodinfo9 : (Try.prog.info? 41).map (fun i => (i.zero, i.size, i.bytes)) = some (some (.agg #[.int .i64 0, .int .i64 0, .int .i64 0, .string ⟨#[]⟩, .int .i64 0, .string ⟨#[]⟩, .bool false]), 7, 72) := by kernel_rfl
def Fram (g : Nat) (v : Value) (w w' : World) : Prop := w'.os = w.os ∧ w'.tape = w.tape ∧ w'.output = w.output ∧ w.heap.size ≤ w'.heap.size ∧ ∀ b, b < w.heap.size → b ≠ g → some b ≠ v.ownBlock → w'.heap[b]? = w.heap[b]?
def Ownn (v v' : Value) (w : World) : Prop := v'.ownBlock = v.ownBlock ∨ ∃ b, v'.ownBlock = some b ∧ w.heap.size ≤ b
section
variable {g : Nat} {v v1 v2 : Value} {w w1 w2 : World}
theorem Fram.size (h : Fram g v w w1) : w.heap.size ≤ w1.heap.size := h.2.2.2.1
theorem Fram.heap (h : Fram g v w w1) {b : Nat} (hb : b < w.heap.size) (hg : b ≠ g) (hv : some b ≠ v.ownBlock) : w1.heap[b]? = w.heap[b]? := h.2.2.2.2 b hb hg hv
theorem Fram.refl : Fram g v w w := ⟨rfl, rfl, rfl, Nat.le_refl _, fun _ _ _ _ => rfl⟩
theorem Fram.of_only (h : Only g w w1) : Fram g v w w1 := ⟨h.os, h.tape, h.output, h.size, fun b hb hg _ => h.heap hb hg⟩
theorem Ownn.refl : Ownn v v w := .inl rfl
theorem Ownn.trans (h1 : Ownn v v1 w) (h2 : Ownn v1 v2 w1) (hs : w.heap.size ≤ w1.heap.size) : Ownn v v2 w := by
  rcases h2 with h2 | ⟨b, h2, hb⟩
  · unfold Ownn
    rw [h2]
    exact h1
  · exact .inr ⟨b, h2, by omega⟩
theorem Ownn.not (h : Ownn v v1 w) {b : Nat} (hb : b < w.heap.size) (hv : some b ≠ v.ownBlock) : some b ≠ v1.ownBlock := by
  rcases h with h | ⟨c, h, hc⟩
  · rw [h]; exact hv
  · rw [h]
    intro e
    injection e with e
    omega
theorem Fram.trans (h1 : Fram g v w w1) (ho : Ownn v v1 w) (h2 : Fram g v1 w1 w2) : Fram g v w w2 :=
  ⟨h2.1.trans h1.1, h2.2.1.trans h1.2.1, h2.2.2.1.trans h1.2.2.1, Nat.le_trans h1.size h2.size, fun b hb hg hv => (h2.heap (Nat.lt_of_lt_of_le hb h1.size) hg (ho.not hb hv)).trans (h1.heap hb hg hv)⟩
theorem Fram.only (h1 : Fram g v w w1) (h2 : Only g w1 w2) : Fram g v w w2 :=
  ⟨h2.os.trans h1.1, h2.tape.trans h1.2.1, h2.output.trans h1.2.2.1, Nat.le_trans h1.size h2.size, fun b hb hg hv => (h2.heap (Nat.lt_of_lt_of_le hb h1.size) hg).trans (h1.heap hb hg hv)⟩
theorem Fram.new (h1 : Fram g v w w1) {r : Nat} (hr : w.heap.size ≤ r) (i : Nat) (u : Value) : Fram g v w (w1.setCell ⟨r, i, none⟩ u) :=
  ⟨h1.1, h1.2.1, h1.2.2.1, by have := h1.size; simpa [World.setCell] using this, fun b hb hg hv => (Below.heap_setCell w1 ⟨r, i, none⟩ u b (show b ≠ r by omega)).trans (h1.heap hb hg hv)⟩
theorem Fram.ob {t : TypeId} {cs : Array Value} {r : Nat} (h : Fram g v w w1) (hb : Ob w r t cs) (hg : r ≠ g) (hv : some r ≠ v.ownBlock) : Ob w1 r t cs := hb.keep (h.heap hb.lt hg hv)
theorem Gr.own_lt {α : Type} {k : Nat} {P : World → (Nat → Prop) → List Value → α → Prop} {w : World} {base : Nat} {E : TypeId} {A : Option Addr} {n c : Nat} {l : List α} (h : Gr k P w base E A n c l) {b : Nat} (hb : w.heap.size ≤ b) : some b ≠ (Value.slice A n c).ownBlock := fun e => by
  have := (h.1.lt b e.symm).2
  omega
end
theorem Gr.set {w : World} {base : Nat} {A : Option Addr} {n c : Nat} {l : List Nod} (h : Gr 7 NoP w base 41 A n c l) {r : Nat} (hv : some r ≠ (Value.slice A n c).ownBlock) (i : Nat) (u : Value) : Gr 7 NoP (w.setCell ⟨r, i, none⟩ u) base 41 A n c l := by
  have o : Only r w (w.setCell ⟨r, i, none⟩ u) := Only.refl.setCell (p := ⟨r, i, none⟩) rfl u
  exact ⟨h.1.grown (row := some r) o (.inr (fun e => hv e.symm)), Nat.le_trans h.2 o.size⟩
theorem push_nod {w : World} {base n c : Nat} {A : Option Addr} {l : List Nod} {op vk vn ac : Int} {vs an : ByteArray} {am : Bool} (h : Gr 7 NoP w base 41 A n c l) (hx : (⟨op, ⟨vk, vn, vs⟩, ⟨ac, an, am⟩⟩ : Nod).ok) (hn : n < 1000000) {b : Nat} (hbk : w.heap.size = b) (g : Nat) :
    ∃ A' c' w', (Builtin.append_ #[42, 42] 42 #[.slice A n c, .slice (some ⟨b, 0, none⟩) 1 1]).run Try.prog (w.alloc (.cells #[.int .i64 op, .int .i64 vk, .int .i64 vn, .string vs, .int .i64 ac, .string an, .bool am] 41)) = .ok (.slice A' (n + 1) c') w' ∧ Gr 7 NoP w' base 41 A' (n + 1) c' (l ++ [⟨op, ⟨vk, vn, vs⟩, ⟨ac, an, am⟩⟩]) ∧ Below base w w' ∧
      Fram g (.slice A n c) w w' ∧ Ownn (.slice A n c) (.slice A' (n + 1) c') w := by
  subst hbk
  obtain ⟨x, hxe⟩ : ∃ x : Nod, x = ⟨op, ⟨vk, vn, vs⟩, ⟨ac, an, am⟩⟩ := ⟨_, rfl⟩
  rw [← hxe] at hx
  have hcells : x.cells = [.int .i64 op, .int .i64 vk, .int .i64 vn, .string vs, .int .i64 ac, .string an, .bool am] := by rw [hxe]; rfl
  obtain ⟨i, hi, hz, hs, hb⟩ := info_of nodinfo9
  have hbase := h.2
  have a1 : Below w.heap.size w (w.alloc (.cells x.cells.toArray 41)) := (Below.refl _ _).alloc (Nat.le_refl _) _
  have h' := Gr.below keeps_nop h a1
  have hlit : Rw 7 (NoP (w.alloc (.cells x.cells.toArray 41)) (Nb base (.slice A n c))) (w.alloc (.cells x.cells.toArray 41)) (fun _ => True) (some ⟨w.heap.size, 0, none⟩) 1 1 [x] := by
    have := Rw.lit (k := 7) (P := NoP (w.alloc (.cells x.cells.toArray 41)) (Nb base (.slice A n c))) (R := fun _ => True) w 41 (fun _ => x.cells) [x] (n := 1) rfl (by omega) trivial (fun _ _ => rfl) (fun y hy => by simp at hy; subst hy; exact ⟨rfl, hx⟩)
    simpa using this
  obtain ⟨A', c', w', hrun, hown, hbel, hg, hob⟩ := Ow.app (ty := 42) Try.underlying42 hi hz hs hb rfl (by omega) (by omega) h'.1 hlit (fun _ _ h => by
    obtain ⟨rfl, _⟩ := h
    intro v hv
    simp [Nod.cells] at hv
    rcases hv with rfl | rfl | rfl | rfl | rfl | rfl | rfl <;> rfl) (by omega) h'.2
  rw [hcells] at hrun
  rw [← hxe]
  refine ⟨A', c', w', hrun, ⟨hown.mapP fun vs x _ hp => hp, Nat.le_trans h'.2 hbel.size⟩, (a1.mono hbase).trans hbel, ⟨hg.os.trans rfl, hg.tape.trans rfl, hg.output.trans rfl, Nat.le_trans a1.size hg.size, fun b hb _ hv => (hg.block b (Nat.lt_of_lt_of_le hb a1.size) hv).trans (a1.block b hb)⟩, ?_⟩
  rcases hob with e | e
  · exact .inl e
  · exact .inr ⟨_, e, a1.size⟩

def EOk (L g n : Nat) : Prop := ∀ (w : World) (s : Pz) (l : List Nod) (bag : Bool) (base : Nat) (A : Option Addr) (k c : Nat), Rd L w g s → g < base → Gr 7 NoP w base 41 A k c l → s.rest.length ≤ n → k + 2 * s.rest.length ≤ 900000 →
  Calls Try.prog 91 #[.pointer (some ⟨g, 0, none⟩), .slice A k c, .bool bag] w fun x w' => ∃ A' k' c', x = .returned (.slice A' k' c') ∧ Fram g (.slice A k c) w w' ∧ Ownn (.slice A k c) (.slice A' k' c') w ∧ Rd L w' g (exprR n l bag s).2 ∧ Gr 7 NoP w' base 41 A' k' c' (exprR n l bag s).1
def COk (L g n : Nat) : Prop := ∀ (w : World) (s : Pz) (l : List Nod) (base : Nat) (A : Option Addr) (k c : Nat), Rd L w g s → g < base → Gr 7 NoP w base 41 A k c l → s.rest.length ≤ n → k + 2 * s.rest.length ≤ 899998 →
  Calls Try.prog 100 #[.pointer (some ⟨g, 0, none⟩), .slice A k c] w fun x w' => ∃ A' k' c', x = .returned (.tuple #[.slice A' k' c', .int .i64 (callR (exprR n) l s).2.1]) ∧ Fram g (.slice A k c) w w' ∧ Ownn (.slice A k c) (.slice A' k' c') w ∧ Rd L w' g (callR (exprR n) l s).2.2 ∧ Gr 7 NoP w' base 41 A' k' c' (callR (exprR n) l s).1 ∧ k' + 2 * (callR (exprR n) l s).2.2.rest.length ≤ k + 2 * s.rest.length + 2

section
variable {L g : Nat}
set_option maxHeartbeats 6400000 in
theorem call_step (n : Nat) (ih : EOk L g n) : COk L g n := by
  intro w s l base A k c h hgb hgr hn hk
  have HIH := Lib.hid ih
  have HR0 := Lib.hid h
  have HGB := Lib.hid hgb
  have HG0 := Lib.hid hgr
  have hgl := hgr.len
  obtain ⟨i, s1, e1⟩ : ∃ i t, mustR [w_one, w_size, w_has, w_eq, w_less, w_add, w_sub, w_mul, w_not, w_and, w_or] s = (i, t) := ⟨_, _, rfl⟩
  have hi : i ≤ 11 := by have := mustR_le [w_one, w_size, w_has, w_eq, w_less, w_add, w_sub, w_mul, w_not, w_and, w_or] s; rw [e1] at this; exact this
  have g1 := must_go h.ok [w_one, w_size, w_has, w_eq, w_less, w_add, w_sub, w_mul, w_not, w_and, w_or]
  rw [e1] at g1
  have g1l : s1.rest.length ≤ s.rest.length := g1.2
  obtain ⟨l2, s2, e2⟩ : ∃ a t, exprR n l (isBag (2 + (i : Int))) s1 = (a, t) := ⟨_, _, rfl⟩
  have g2 := expr_go n l (isBag (2 + (i : Int))) s1 g1.1 (by omega)
  rw [e2] at g2
  obtain ⟨⟨g2o, g2l⟩, g2c⟩ := g2
  simp only at g2l g2c g2o
  obtain ⟨l3, s3, e3⟩ : ∃ a t, (if isTwo (2 + (i : Int)) = true then exprR n l2 false s2 else (l2, s2)) = (a, t) := ⟨_, _, rfl⟩
  obtain ⟨j, s4, e4⟩ : ∃ a t, mustR [m_rp] s3 = (a, t) := ⟨_, _, rfl⟩
  have HE : Hid (callR (exprR n) l s = (l3, 2 + (i : Int), s4)) := by
    show _ = _
    unfold callR
    simp only [e1, e2, e3, e4]
  rw [HE.out]
  have HN : Hid (s1.rest.length ≤ n ∧ s2.rest.length ≤ n ∧ k + 2 * s1.rest.length ≤ 900000 ∧ l2.length + 2 * s2.rest.length ≤ k + 2 * s.rest.length + 1 ∧ k + 2 * s.rest.length ≤ 899998 ∧ l.length = k ∧ s2.rest.length ≤ s.rest.length) := ⟨by omega, by omega, by omega, by omega, hk, hgl, by omega⟩
  have E1 := Lib.hid e1
  have E2 := Lib.hid e2
  have E4 := Lib.hid e4
  have G2O := Lib.hid g2o
  have HI := Lib.hid hi
  have hcs : i = 1 ∨ i = 2 ∨ i = 3 ∨ i = 9 ∨ (i ≠ 1 ∧ i ≠ 2 ∧ i ≠ 3 ∧ i ≠ 9) := by omega
  rcases hcs with rfl | rfl | rfl | rfl | ⟨hi1, hi2, hi3, hi9⟩
  · have E2 : Hid (exprR n l true s1 = (l2, s2)) := E2
    obtain ⟨rfl, rfl⟩ : l2 = l3 ∧ s2 = s3 := by have e3 : (l2, s2) = (l3, s3) := e3; exact ⟨congrArg Prod.fst e3, congrArg Prod.snd e3⟩
    have HN3 : Hid (s2.ok L) := G2O
    have h4 := must_go HN3.out [m_rp]
    rw [E4.out] at h4
    have HN4 : Hid (s4.rest.length ≤ s2.rest.length) := h4.2
    clear h hgb hgr hn hk hi e1 e2 e3 e4 g1 g1l g2o g2l g2c ih hgl h4
    go_enter Try.func100, Try.ntmps100
    go_wp2_with fail
    go_at_call 43
    refine (pmust_lit HR0.out [w_one, w_size, w_has, w_eq, w_less, w_add, w_sub, w_mul, w_not, w_and, w_or] #[.string ⟨#[111, 110, 101]⟩, .string ⟨#[115, 105, 122, 101]⟩, .string ⟨#[104, 97, 115]⟩, .string ⟨#[101, 113]⟩, .string ⟨#[108, 101, 115, 115]⟩, .string ⟨#[97, 100, 100]⟩, .string ⟨#[115, 117, 98]⟩, .string ⟨#[109, 117, 108]⟩, .string ⟨#[110, 111, 116]⟩, .string ⟨#[97, 110, 100]⟩, .string ⟨#[111, 114]⟩] 11 rfl rfl (by omega) rfl).mono ?_
    rintro x u1 ⟨hx, ho, hr⟩
    obtain rfl : x = .returned (.int .i64 ((1 : Nat) : Int)) := by rw [hx, E1.out] <;> rfl
    rw [E1.out] at hr
    have F1 := Lib.hid (Fram.of_only (v := .slice A k c) ho)
    have HR1 := Lib.hid hr
    have G1 := Lib.hid (HG0.out.at_only keeps_nop ho HGB.out)
    clear hx ho hr
    go_wp2_with fail
    go_at_call 91
    refine (HIH.out _ s1 l true base A k c HR1.out HGB.out G1.out HN.out.1 HN.out.2.2.1).mono ?_
    rintro x u2 ⟨A2, k2, c2, rfl, hf, hw, hr, hg⟩
    rw [E2.out] at hr hg
    have F2 := Lib.hid (F1.out.trans Ownn.refl hf)
    have W2 := Lib.hid (Ownn.trans (w := w) Ownn.refl hw F1.out.size)
    have HR2 := Lib.hid hr
    have G2 := Lib.hid hg
    have HL2 := Lib.hid hg.len
    clear hf hw hr hg
    go_wp2_with fail
    go_at_call 43
    refine (pmust_lit HR2.out [m_rp] #[.string ⟨#[41]⟩] 1 rfl rfl (by omega) rfl).mono ?_
    rintro x u4 ⟨rfl, ho, hr⟩
    rw [E4.out] at hr
    have F4 := Lib.hid (F2.out.only ho)
    have HR4 := Lib.hid hr
    have G4 := Lib.hid (G2.out.at_only keeps_nop ho HGB.out)
    clear ho hr
    go_wp2_with fail
    go_ret2
    refine ⟨A2, k2, c2, by rfl, F4.out, W2.out, HR4.out, G4.out, ?_⟩
    have h1 := HN.out; have h2 := HL2.out; have h4 := HN4.out; show k2 + 2 * s4.rest.length ≤ _; omega
  · have E2 : Hid (exprR n l true s1 = (l2, s2)) := E2
    obtain ⟨rfl, rfl⟩ : l2 = l3 ∧ s2 = s3 := by have e3 : (l2, s2) = (l3, s3) := e3; exact ⟨congrArg Prod.fst e3, congrArg Prod.snd e3⟩
    have HN3 : Hid (s2.ok L) := G2O
    have h4 := must_go HN3.out [m_rp]
    rw [E4.out] at h4
    have HN4 : Hid (s4.rest.length ≤ s2.rest.length) := h4.2
    clear h hgb hgr hn hk hi e1 e2 e3 e4 g1 g1l g2o g2l g2c ih hgl h4
    go_enter Try.func100, Try.ntmps100
    go_wp2_with fail
    go_at_call 43
    refine (pmust_lit HR0.out [w_one, w_size, w_has, w_eq, w_less, w_add, w_sub, w_mul, w_not, w_and, w_or] #[.string ⟨#[111, 110, 101]⟩, .string ⟨#[115, 105, 122, 101]⟩, .string ⟨#[104, 97, 115]⟩, .string ⟨#[101, 113]⟩, .string ⟨#[108, 101, 115, 115]⟩, .string ⟨#[97, 100, 100]⟩, .string ⟨#[115, 117, 98]⟩, .string ⟨#[109, 117, 108]⟩, .string ⟨#[110, 111, 116]⟩, .string ⟨#[97, 110, 100]⟩, .string ⟨#[111, 114]⟩] 11 rfl rfl (by omega) rfl).mono ?_
    rintro x u1 ⟨hx, ho, hr⟩
    obtain rfl : x = .returned (.int .i64 ((2 : Nat) : Int)) := by rw [hx, E1.out] <;> rfl
    rw [E1.out] at hr
    have F1 := Lib.hid (Fram.of_only (v := .slice A k c) ho)
    have HR1 := Lib.hid hr
    have G1 := Lib.hid (HG0.out.at_only keeps_nop ho HGB.out)
    clear hx ho hr
    go_wp2_with fail
    go_at_call 91
    refine (HIH.out _ s1 l true base A k c HR1.out HGB.out G1.out HN.out.1 HN.out.2.2.1).mono ?_
    rintro x u2 ⟨A2, k2, c2, rfl, hf, hw, hr, hg⟩
    rw [E2.out] at hr hg
    have F2 := Lib.hid (F1.out.trans Ownn.refl hf)
    have W2 := Lib.hid (Ownn.trans (w := w) Ownn.refl hw F1.out.size)
    have HR2 := Lib.hid hr
    have G2 := Lib.hid hg
    have HL2 := Lib.hid hg.len
    clear hf hw hr hg
    go_wp2_with fail
    go_at_call 43
    refine (pmust_lit HR2.out [m_rp] #[.string ⟨#[41]⟩] 1 rfl rfl (by omega) rfl).mono ?_
    rintro x u4 ⟨rfl, ho, hr⟩
    rw [E4.out] at hr
    have F4 := Lib.hid (F2.out.only ho)
    have HR4 := Lib.hid hr
    have G4 := Lib.hid (G2.out.at_only keeps_nop ho HGB.out)
    clear ho hr
    go_wp2_with fail
    go_ret2
    refine ⟨A2, k2, c2, by rfl, F4.out, W2.out, HR4.out, G4.out, ?_⟩
    have h1 := HN.out; have h2 := HL2.out; have h4 := HN4.out; show k2 + 2 * s4.rest.length ≤ _; omega
  · have E2 : Hid (exprR n l true s1 = (l2, s2)) := E2
    have e3 : exprR n l2 false s2 = (l3, s3) := e3
    have g3 := expr_go n l2 false s2 G2O.out HN.out.2.1
    rw [e3] at g3
    obtain ⟨⟨g3o, g3l⟩, g3c⟩ := g3
    have HN3 : Hid (l3.length + 2 * s3.rest.length ≤ l2.length + 2 * s2.rest.length + 1 ∧ s3.ok L) := ⟨g3c, g3o⟩
    have E3 := Lib.hid e3
    clear g3o g3l g3c
    have h4 := must_go HN3.out.2 [m_rp]
    rw [E4.out] at h4
    have HN4 : Hid (s4.rest.length ≤ s3.rest.length) := h4.2
    clear h hgb hgr hn hk hi e1 e2 e3 e4 g1 g1l g2o g2l g2c ih hgl h4
    go_enter Try.func100, Try.ntmps100
    go_wp2_with fail
    go_at_call 43
    refine (pmust_lit HR0.out [w_one, w_size, w_has, w_eq, w_less, w_add, w_sub, w_mul, w_not, w_and, w_or] #[.string ⟨#[111, 110, 101]⟩, .string ⟨#[115, 105, 122, 101]⟩, .string ⟨#[104, 97, 115]⟩, .string ⟨#[101, 113]⟩, .string ⟨#[108, 101, 115, 115]⟩, .string ⟨#[97, 100, 100]⟩, .string ⟨#[115, 117, 98]⟩, .string ⟨#[109, 117, 108]⟩, .string ⟨#[110, 111, 116]⟩, .string ⟨#[97, 110, 100]⟩, .string ⟨#[111, 114]⟩] 11 rfl rfl (by omega) rfl).mono ?_
    rintro x u1 ⟨hx, ho, hr⟩
    obtain rfl : x = .returned (.int .i64 ((3 : Nat) : Int)) := by rw [hx, E1.out] <;> rfl
    rw [E1.out] at hr
    have F1 := Lib.hid (Fram.of_only (v := .slice A k c) ho)
    have HR1 := Lib.hid hr
    have G1 := Lib.hid (HG0.out.at_only keeps_nop ho HGB.out)
    clear hx ho hr
    go_wp2_with fail
    go_at_call 91
    refine (HIH.out _ s1 l true base A k c HR1.out HGB.out G1.out HN.out.1 HN.out.2.2.1).mono ?_
    rintro x u2 ⟨A2, k2, c2, rfl, hf, hw, hr, hg⟩
    rw [E2.out] at hr hg
    have F2 := Lib.hid (F1.out.trans Ownn.refl hf)
    have W2 := Lib.hid (Ownn.trans (w := w) Ownn.refl hw F1.out.size)
    have HR2 := Lib.hid hr
    have G2 := Lib.hid hg
    have HL2 := Lib.hid hg.len
    clear hf hw hr hg
    go_wp2_with fail
    go_at_call 91
    refine (HIH.out _ s2 l2 false base A2 k2 c2 HR2.out HGB.out G2.out HN.out.2.1 (by have := HN.out; have := HL2.out; have : l2.length = k2 := HL2.out; show k2 + 2 * s2.rest.length ≤ 900000; omega)).mono ?_
    rintro x u3 ⟨A3, k3, c3, rfl, hf, hw, hr, hg⟩
    rw [E3.out] at hr hg
    have F3 := Lib.hid (F2.out.trans W2.out hf)
    have W3 := Lib.hid (Ownn.trans W2.out hw F2.out.size)
    have HR3 := Lib.hid hr
    have G3 := Lib.hid hg
    have HL3 := Lib.hid hg.len
    clear hf hw hr hg
    go_wp2_with fail
    go_at_call 43
    refine (pmust_lit HR3.out [m_rp] #[.string ⟨#[41]⟩] 1 rfl rfl (by omega) rfl).mono ?_
    rintro x u4 ⟨rfl, ho, hr⟩
    rw [E4.out] at hr
    have F4 := Lib.hid (F3.out.only ho)
    have HR4 := Lib.hid hr
    have G4 := Lib.hid (G3.out.at_only keeps_nop ho HGB.out)
    clear ho hr
    go_wp2_with fail
    go_ret2
    refine ⟨A3, k3, c3, by rfl, F4.out, W3.out, HR4.out, G4.out, ?_⟩
    have h1 := HN.out; have h2 := HL3.out; have h3 := HN3.out.1; have h4 := HN4.out; show k3 + 2 * s4.rest.length ≤ _; omega
  · have E2 : Hid (exprR n l false s1 = (l2, s2)) := E2
    obtain ⟨rfl, rfl⟩ : l2 = l3 ∧ s2 = s3 := by have e3 : (l2, s2) = (l3, s3) := e3; exact ⟨congrArg Prod.fst e3, congrArg Prod.snd e3⟩
    have HN3 : Hid (s2.ok L) := G2O
    have h4 := must_go HN3.out [m_rp]
    rw [E4.out] at h4
    have HN4 : Hid (s4.rest.length ≤ s2.rest.length) := h4.2
    clear h hgb hgr hn hk hi e1 e2 e3 e4 g1 g1l g2o g2l g2c ih hgl h4
    go_enter Try.func100, Try.ntmps100
    go_wp2_with fail
    go_at_call 43
    refine (pmust_lit HR0.out [w_one, w_size, w_has, w_eq, w_less, w_add, w_sub, w_mul, w_not, w_and, w_or] #[.string ⟨#[111, 110, 101]⟩, .string ⟨#[115, 105, 122, 101]⟩, .string ⟨#[104, 97, 115]⟩, .string ⟨#[101, 113]⟩, .string ⟨#[108, 101, 115, 115]⟩, .string ⟨#[97, 100, 100]⟩, .string ⟨#[115, 117, 98]⟩, .string ⟨#[109, 117, 108]⟩, .string ⟨#[110, 111, 116]⟩, .string ⟨#[97, 110, 100]⟩, .string ⟨#[111, 114]⟩] 11 rfl rfl (by omega) rfl).mono ?_
    rintro x u1 ⟨hx, ho, hr⟩
    obtain rfl : x = .returned (.int .i64 ((9 : Nat) : Int)) := by rw [hx, E1.out] <;> rfl
    rw [E1.out] at hr
    have F1 := Lib.hid (Fram.of_only (v := .slice A k c) ho)
    have HR1 := Lib.hid hr
    have G1 := Lib.hid (HG0.out.at_only keeps_nop ho HGB.out)
    clear hx ho hr
    go_wp2_with fail
    go_at_call 91
    refine (HIH.out _ s1 l false base A k c HR1.out HGB.out G1.out HN.out.1 HN.out.2.2.1).mono ?_
    rintro x u2 ⟨A2, k2, c2, rfl, hf, hw, hr, hg⟩
    rw [E2.out] at hr hg
    have F2 := Lib.hid (F1.out.trans Ownn.refl hf)
    have W2 := Lib.hid (Ownn.trans (w := w) Ownn.refl hw F1.out.size)
    have HR2 := Lib.hid hr
    have G2 := Lib.hid hg
    have HL2 := Lib.hid hg.len
    clear hf hw hr hg
    go_wp2_with fail
    go_at_call 43
    refine (pmust_lit HR2.out [m_rp] #[.string ⟨#[41]⟩] 1 rfl rfl (by omega) rfl).mono ?_
    rintro x u4 ⟨rfl, ho, hr⟩
    rw [E4.out] at hr
    have F4 := Lib.hid (F2.out.only ho)
    have HR4 := Lib.hid hr
    have G4 := Lib.hid (G2.out.at_only keeps_nop ho HGB.out)
    clear ho hr
    go_wp2_with fail
    go_ret2
    refine ⟨A2, k2, c2, by rfl, F4.out, W2.out, HR4.out, G4.out, ?_⟩
    have h1 := HN.out; have h2 := HL2.out; have h4 := HN4.out; show k2 + 2 * s4.rest.length ≤ _; omega
  · have q3 : ((2 + (i : Int)) == 3) = false := by rw [beq_eq_false_iff_ne]; omega
    have q4 : ((2 + (i : Int)) == 4) = false := by rw [beq_eq_false_iff_ne]; omega
    have q5 : ((2 + (i : Int)) == 5) = false := by rw [beq_eq_false_iff_ne]; omega
    have q11 : ((2 + (i : Int)) == 11) = false := by rw [beq_eq_false_iff_ne]; omega
    have p3 : ((2 + (i : Int)) != 3) = true := by rw [bne_iff_ne]; omega
    have p4 : ((2 + (i : Int)) != 4) = true := by rw [bne_iff_ne]; omega
    have p11 : ((2 + (i : Int)) != 11) = true := by rw [bne_iff_ne]; omega
    have hwr : IntKind.i64.wrap (2 + (i : Int)) = 2 + (i : Int) := IntWalk.i64_in _ (by omega)
    have hbag : isBag (2 + (i : Int)) = false := by simp [isBag]; omega
    have htwo : isTwo (2 + (i : Int)) = true := by simp [isTwo]; omega
    rw [hbag] at E2
    rw [if_pos htwo] at e3
    clear hbag htwo hi1 hi2 hi3 hi9
    have g3 := expr_go n l2 false s2 G2O.out HN.out.2.1
    rw [e3] at g3
    obtain ⟨⟨g3o, g3l⟩, g3c⟩ := g3
    have HN3 : Hid (l3.length + 2 * s3.rest.length ≤ l2.length + 2 * s2.rest.length + 1 ∧ s3.ok L) := ⟨g3c, g3o⟩
    have E3 := Lib.hid e3
    clear g3o g3l g3c
    have h4 := must_go HN3.out.2 [m_rp]
    rw [E4.out] at h4
    have HN4 : Hid (s4.rest.length ≤ s3.rest.length) := h4.2
    clear h hgb hgr hn hk hi e1 e2 e3 e4 g1 g1l g2o g2l g2c ih hgl h4
    go_enter Try.func100, Try.ntmps100
    go_wp2_with fail
    go_at_call 43
    refine (pmust_lit HR0.out [w_one, w_size, w_has, w_eq, w_less, w_add, w_sub, w_mul, w_not, w_and, w_or] #[.string ⟨#[111, 110, 101]⟩, .string ⟨#[115, 105, 122, 101]⟩, .string ⟨#[104, 97, 115]⟩, .string ⟨#[101, 113]⟩, .string ⟨#[108, 101, 115, 115]⟩, .string ⟨#[97, 100, 100]⟩, .string ⟨#[115, 117, 98]⟩, .string ⟨#[109, 117, 108]⟩, .string ⟨#[110, 111, 116]⟩, .string ⟨#[97, 110, 100]⟩, .string ⟨#[111, 114]⟩] 11 rfl rfl (by omega) rfl).mono ?_
    rintro x u1 ⟨hx, ho, hr⟩
    obtain rfl : x = .returned (.int .i64 ((i : Nat) : Int)) := by rw [hx, E1.out] <;> rfl
    rw [E1.out] at hr
    have F1 := Lib.hid (Fram.of_only (v := .slice A k c) ho)
    have HR1 := Lib.hid hr
    have G1 := Lib.hid (HG0.out.at_only keeps_nop ho HGB.out)
    clear hx ho hr
    go_wp2_with fail
    go_at_call 91
    refine (HIH.out _ s1 l false base A k c HR1.out HGB.out G1.out HN.out.1 HN.out.2.2.1).mono ?_
    rintro x u2 ⟨A2, k2, c2, rfl, hf, hw, hr, hg⟩
    rw [E2.out] at hr hg
    have F2 := Lib.hid (F1.out.trans Ownn.refl hf)
    have W2 := Lib.hid (Ownn.trans (w := w) Ownn.refl hw F1.out.size)
    have HR2 := Lib.hid hr
    have G2 := Lib.hid hg
    have HL2 := Lib.hid hg.len
    clear hf hw hr hg
    go_wp2_with fail
    go_at_call 91
    refine (HIH.out _ s2 l2 false base A2 k2 c2 HR2.out HGB.out G2.out HN.out.2.1 (by have := HN.out; have := HL2.out; have : l2.length = k2 := HL2.out; show k2 + 2 * s2.rest.length ≤ 900000; omega)).mono ?_
    rintro x u3 ⟨A3, k3, c3, rfl, hf, hw, hr, hg⟩
    rw [E3.out] at hr hg
    have F3 := Lib.hid (F2.out.trans W2.out hf)
    have W3 := Lib.hid (Ownn.trans W2.out hw F2.out.size)
    have HR3 := Lib.hid hr
    have G3 := Lib.hid hg
    have HL3 := Lib.hid hg.len
    clear hf hw hr hg
    go_wp2_with fail
    go_at_call 43
    refine (pmust_lit HR3.out [m_rp] #[.string ⟨#[41]⟩] 1 rfl rfl (by omega) rfl).mono ?_
    rintro x u4 ⟨rfl, ho, hr⟩
    rw [E4.out] at hr
    have F4 := Lib.hid (F3.out.only ho)
    have HR4 := Lib.hid hr
    have G4 := Lib.hid (G3.out.at_only keeps_nop ho HGB.out)
    clear ho hr
    go_wp2_with fail
    go_ret2
    refine ⟨A3, k3, c3, by rfl, F4.out, W3.out, HR4.out, G4.out, ?_⟩
    have h1 := HN.out; have h2 := HL3.out; have h3 := HN3.out.1; have h4 := HN4.out; show k3 + 2 * s4.rest.length ≤ _; omega
end
end Go.Proofs.Ytadjfkgnoklmiaa
/- The parser: expressions, by steps. -/
namespace Go.Proofs.Ytadjfkgnoklmiaa
set_option linter.unusedVariables false
open Go.RowKit
section
variable {L g : Nat}
theorem heap_setc (w : World) (p : Addr) (v : Value) : (w.setCell p v).heap.size = w.heap.size := by simp [World.setCell]
theorem callR_op (ex : List Nod → Bool → Pz → List Nod × Pz) (l : List Nod) (s : Pz) : InI (callR ex l s).2.1 := by
  have := mustR_le [w_one, w_size, w_has, w_eq, w_less, w_add, w_sub, w_mul, w_not, w_and, w_or] s
  have h : (callR ex l s).2.1 = 2 + ((mustR [w_one, w_size, w_has, w_eq, w_less, w_add, w_sub, w_mul, w_not, w_and, w_or] s).1 : Int) := rfl
  rw [h]
  have h2 : (mustR [w_one, w_size, w_has, w_eq, w_less, w_add, w_sub, w_mul, w_not, w_and, w_or] s).1 ≤ 11 := this
  exact in_small (by omega) (by omega)
theorem nodR_bad {bag : Bool} {p m op vk vn ac : Int} {vs an : ByteArray} {am : Bool} {l : List Nod} {s : Pz} (hm : ((l ++ [(⟨op, ⟨vk, vn, vs⟩, ⟨ac, an, am⟩⟩ : Nod)]).length : Int) = m) (h : (bag != decide (op = 2)) = true) : nodR bag p l ⟨op, ⟨vk, vn, vs⟩, ⟨ac, an, am⟩⟩ s = (l ++ [⟨op, ⟨vk, vn, vs⟩, ⟨ac, an, am⟩⟩], failR 5 p (mostR m 32 s)) := by
  unfold nodR
  simp only [h, if_true, hm]
theorem nodR_good {bag : Bool} {p m op vk vn ac : Int} {vs an : ByteArray} {am : Bool} {l : List Nod} {s : Pz} (hm : ((l ++ [(⟨op, ⟨vk, vn, vs⟩, ⟨ac, an, am⟩⟩ : Nod)]).length : Int) = m) (h : (bag != decide (op = 2)) = false) : nodR bag p l ⟨op, ⟨vk, vn, vs⟩, ⟨ac, an, am⟩⟩ s = (l ++ [⟨op, ⟨vk, vn, vs⟩, ⟨ac, an, am⟩⟩], mostR m 32 s) := by
  unfold nodR
  simp only [h, Bool.false_eq_true, if_false, hm]
set_option maxHeartbeats 12800000 in
theorem expr_step (n : Nat) (ih : EOk L g n) : EOk L g (n + 1) := by
  intro w s l bag base A k c h hgb hgr hn hk
  have HIC := Lib.hid (call_step n ih)
  have HR0 := Lib.hid h
  have HR1 := Lib.hid (h.alloc (.cells #[.int .i64 0, .int .i64 0, .int .i64 0, .string ⟨#[]⟩, .int .i64 0, .string ⟨#[]⟩, .bool false] 41))
  have HGL : Hid (g < w.heap.size) := h.lt
  have HGB := Lib.hid hgb
  have HP := Lib.hid h.ok.hd_ok.2.1
  have G0 := Lib.hid (hgr.below keeps_nop ((Below.refl w.heap.size w).alloc (Nat.le_refl _) (.cells #[.int .i64 0, .int .i64 0, .int .i64 0, .string ⟨#[]⟩, .int .i64 0, .string ⟨#[]⟩, .bool false] 41)))
  have F0 := Lib.hid (Fram.of_only (v := .slice A k c) ((Only.refl (r := g) (w := w)).al (.cells #[.int .i64 0, .int .i64 0, .int .i64 0, .string ⟨#[]⟩, .int .i64 0, .string ⟨#[]⟩, .bool false] 41)))
  have B0 := Lib.hid (Ob.made w 41 #[.int .i64 0, .int .i64 0, .int .i64 0, .string ⟨#[]⟩, .int .i64 0, .string ⟨#[]⟩, .bool false])
  have HV := Lib.hid (hgr.own_lt (Nat.le_refl _))
  have hgl := hgr.len
  obtain ⟨i, s1, e1⟩ : ∃ i t, takeR [m_lp] s = (i, t) := ⟨_, _, rfl⟩
  have g1 := take_go h.ok [m_lp]
  have g1l := takeR_len h.ok [m_lp]
  rw [e1] at g1 g1l
  have g1l : s1.rest.length + (if i = 0 then 0 else 1) = s.rest.length := g1l
  have E1 := Lib.hid e1
  by_cases hi : 0 < i
  · have hi2 : decide ((0 : Int) < (i : Int)) = true := decide_eq_true (by omega)
    rw [if_neg (by omega)] at g1l
    obtain ⟨l2, op, s2, e2⟩ : ∃ a b d, callR (exprR n) l s1 = (a, b, d) := ⟨_, _, _, rfl⟩
    have hop := callR_op (exprR n) l s1
    rw [e2] at hop
    have HOK : Hid ((⟨op, ⟨0, 0, ⟨#[]⟩⟩, ⟨0, ⟨#[]⟩, false⟩⟩ : Nod).ok) := Lib.hid ⟨hop, zeroV_ok, zeroA_ok⟩
    have HE : Hid (exprR (n + 1) l bag s = nodR bag s.hd.p l2 ⟨op, ⟨0, 0, ⟨#[]⟩⟩, ⟨0, ⟨#[]⟩, false⟩⟩ s2) := by show _ = _; rw [exprR, e1, if_pos hi]; simp only [e2]; rfl
    have HN : Hid (s1.rest.length ≤ n ∧ k + 2 * s1.rest.length ≤ 899998) := ⟨by omega, by omega⟩
    have E2 := Lib.hid e2
    clear h hgb hgr hn hk e1 e2 g1 g1l ih hgl hop
    go_enter Try.func91, Try.ntmps91
    go_wp2_with fail
    go_at_call 65
    refine (phere_any HR0.out).mono ?_
    rintro x u0 ⟨rfl, rfl⟩
    go_wp2_with fail
    go_at_call 66
    refine (ptake_lit HR1.out [m_lp] #[.string ⟨#[40]⟩] 1 rfl rfl (by omega) (by first | rfl | (simp; done) | (simp [World.setCell]; done))).mono ?_
    rintro x u1 ⟨hx, ho, hr⟩
    obtain rfl : x = .returned (.int .i64 (i : Int)) := by rw [hx, E1.out] <;> rfl
    rw [E1.out] at hr
    have F1 := Lib.hid (F0.out.only ho)
    have HR2 := Lib.hid hr
    have G1 := Lib.hid (G0.out.at_only keeps_nop ho HGB.out)
    have B1 := Lib.hid (B0.out.keep (ho.heap B0.out.lt (by have := HGL.out; omega)))
    clear hx ho hr
    go_wp2_with fail
    go_at_call 100
    refine (HIC.out _ s1 l base A k c HR2.out HGB.out G1.out HN.out.1 HN.out.2).mono ?_
    rintro x u2 ⟨A2, k2, c2, hx, hf, hw, hr, hg, hl⟩
    rw [E2.out] at hx hr hg hl
    obtain rfl : x = .returned (.tuple #[.slice A2 k2 c2, .int .i64 op]) := hx
    have HK2 : Hid (k2 ≤ 900000) := by have := HN.out.2; show k2 ≤ 900000; have hl : k2 + 2 * s2.rest.length ≤ k + 2 * s1.rest.length + 2 := hl; omega
    have F2 := Lib.hid (F1.out.trans Ownn.refl hf)
    have W2 := Lib.hid (Ownn.trans (w := w) Ownn.refl hw F1.out.size)
    have HVc := Lib.hid (Ownn.not hw B1.out.lt HV.out)
    have B2 := Lib.hid (hf.ob B1.out (by have := HGL.out; omega) HV.out)
    have z0 := B2.out.cell 0
    have zf := B2.out.frozen 0
    have F3 := Lib.hid (F2.out.new (Nat.le_refl _) 0 (.int .i64 op))
    have HR3 := Lib.hid ((show Rd L u2 g s2 from hr).set HGL.out 0 (.int .i64 op))
    have G3 := Lib.hid ((show Gr 7 NoP u2 base 41 A2 k2 c2 l2 from hg).set HVc.out 0 (.int .i64 op))
    have B3 : Hid (Ob (u2.setCell ⟨w.heap.size, 0, none⟩ (.int .i64 op)) w.heap.size 41 #[.int .i64 op, .int .i64 0, .int .i64 0, .string ⟨#[]⟩, .int .i64 0, .string ⟨#[]⟩, .bool false]) := Lib.hid (by have := B2.out.put 0 (.int .i64 op); simpa using this)
    have y0 := B3.out.cell 0
    have y1 := B3.out.cell 1
    have y2 := B3.out.cell 2
    have y3 := B3.out.cell 3
    have y4 := B3.out.cell 4
    have y5 := B3.out.cell 5
    have y6 := B3.out.cell 6
    clear hf hw hr hg hl
    obtain ⟨w8, hw8⟩ : ∃ x, x = (u2.setCell ⟨w.heap.size, 0, none⟩ (.int .i64 op)) := ⟨_, rfl⟩
    rw [← hw8] at F3 HR3 G3 B3
    have hsz : w8.heap.size = u2.heap.size := by rw [hw8]; simp only [heap_setc]
    have hgl2 := G3.out.len
    have hlen : ((l2 ++ [(⟨op, ⟨0, 0, ⟨#[]⟩⟩, ⟨0, ⟨#[]⟩, false⟩⟩ : Nod)]).length : Int) = (k2 : Int) + 1 := by rw [List.length_append]; simp; omega
    have HLEN := Lib.hid hlen
    have hk63 : k2 < 1000000 := by have := HK2.out; omega
    obtain ⟨A5, c5, v5, r5, g5, b5, f5, o5⟩ := push_nod G3.out HOK.out hk63 (b := u2.heap.size) hsz g
    have F5 := Lib.hid (F3.out.trans W2.out f5)
    have W5 := Lib.hid (Ownn.trans W2.out o5 F3.out.size)
    have HV5 := Lib.hid (Ownn.not (w := w8) o5 B3.out.lt HVc.out)
    have B5 := Lib.hid (f5.ob B3.out (by have := HGL.out; show w.heap.size ≠ g; omega) HVc.out)
    have HR5 := Lib.hid (HR3.out.below b5 HGB.out)
    have R5 := Lib.hid r5
    have G5 := Lib.hid g5
    clear r5 g5 b5 f5 o5 hlen hgl2 hsz F3 HR3 G3 B3
    subst hw8
    go_wp2_with (at_builtin; refine wpList_append_run (o := ⟨some 27, _, _, _, _, _⟩) rfl _ _ _ _ rfl rfl rfl R5.out ?_)
    go_at_call 42
    refine (pmost_any HR5.out ((k2 : Int) + 1) 32).mono ?_
    rintro x u6 ⟨rfl, ho, hr⟩
    have F6 := Lib.hid (F5.out.only ho)
    have HR6 := Lib.hid hr
    have G6 := Lib.hid (G5.out.at_only keeps_nop ho HGB.out)
    have B6 := Lib.hid (B5.out.keep (ho.heap B5.out.lt (by have := HGL.out; omega)))
    have y0 := B6.out.cell 0
    clear ho hr
    cases bag
    · by_cases hop : op = 2
      · have HX := Lib.hid (nodR_bad (bag := false) (p := s.hd.p) (s := s2) HLEN.out (by rw [hop]; rfl))
        have hop2 : (op == 2) = true := by rw [hop]; rfl
        clear hop
        go_wp2_with fail
        go_at_call 64
        refine (pfail_any HR6.out (e := 5) (.inl rfl) HP.out).mono ?_
        rintro x u7 ⟨rfl, ho, hr⟩
        have F7 := Lib.hid (F6.out.only ho)
        have HR7 := Lib.hid hr
        have G7 := Lib.hid (G6.out.at_only keeps_nop ho HGB.out)
        clear ho hr
        go_wp2_with fail
        go_ret
        rw [HE.out, HX.out]
        exact ⟨A5, _, c5, rfl, F7.out, W5.out, HR7.out, G7.out⟩
      · have HX := Lib.hid (nodR_good (bag := false) (p := s.hd.p) (s := s2) HLEN.out (by rw [decide_eq_false hop]; rfl))
        have hop2 : (op == 2) = false := by rw [beq_eq_false_iff_ne]; exact hop
        clear hop
        go_wp2_with fail
        go_ret
        rw [HE.out, HX.out]
        exact ⟨A5, _, c5, rfl, F6.out, W5.out, HR6.out, G6.out⟩
    · by_cases hop : op = 2
      · have HX := Lib.hid (nodR_good (bag := true) (p := s.hd.p) (s := s2) HLEN.out (by rw [hop]; rfl))
        have hop2 : (op == 2) = true := by rw [hop]; rfl
        clear hop
        go_wp2_with fail
        go_ret
        rw [HE.out, HX.out]
        exact ⟨A5, _, c5, rfl, F6.out, W5.out, HR6.out, G6.out⟩
      · have HX := Lib.hid (nodR_bad (bag := true) (p := s.hd.p) (s := s2) HLEN.out (by rw [decide_eq_false hop]; rfl))
        have hop2 : (op == 2) = false := by rw [beq_eq_false_iff_ne]; exact hop
        clear hop
        go_wp2_with fail
        go_at_call 64
        refine (pfail_any HR6.out (e := 5) (.inl rfl) HP.out).mono ?_
        rintro x u7 ⟨rfl, ho, hr⟩
        have F7 := Lib.hid (F6.out.only ho)
        have HR7 := Lib.hid hr
        have G7 := Lib.hid (G6.out.at_only keeps_nop ho HGB.out)
        clear ho hr
        go_wp2_with fail
        go_ret
        rw [HE.out, HX.out]
        exact ⟨A5, _, c5, rfl, F7.out, W5.out, HR7.out, G7.out⟩
  · obtain rfl : i = 0 := by omega
    obtain ⟨⟨op, ⟨vk, vn, vs⟩, ⟨ac, an, am⟩⟩, s2, e2⟩ : ∃ a t, leafR s1 = (a, t) := ⟨_, _, rfl⟩
    have hok := leaf_ok g1.1
    rw [e2] at hok
    have HOK := Lib.hid hok
    have HE : Hid (exprR (n + 1) l bag s = nodR bag s.hd.p l ⟨op, ⟨vk, vn, vs⟩, ⟨ac, an, am⟩⟩ s2) := by show _ = _; rw [exprR, e1, if_neg hi]; simp only [e2]
    have HK2 : Hid (k ≤ 900000) := by show k ≤ 900000; omega
    have E2 := Lib.hid e2
    have HVc := HV
    clear h hgb hgr hn hk e1 e2 g1 g1l ih hgl hok hi
    go_enter Try.func91, Try.ntmps91
    go_wp2_with fail
    go_at_call 65
    refine (phere_any HR0.out).mono ?_
    rintro x u0 ⟨rfl, rfl⟩
    go_wp2_with fail
    go_at_call 66
    refine (ptake_lit HR1.out [m_lp] #[.string ⟨#[40]⟩] 1 rfl rfl (by omega) (by first | rfl | (simp; done) | (simp [World.setCell]; done))).mono ?_
    rintro x u1 ⟨hx, ho, hr⟩
    obtain rfl : x = .returned (.int .i64 ((0 : Nat) : Int)) := by rw [hx, E1.out] <;> rfl
    rw [E1.out] at hr
    have F1 := Lib.hid (F0.out.only ho)
    have HR2 := Lib.hid hr
    have G1 := Lib.hid (G0.out.at_only keeps_nop ho HGB.out)
    have B1 := Lib.hid (B0.out.keep (ho.heap B0.out.lt (by have := HGL.out; omega)))
    clear hx ho hr
    go_wp2_with fail
    go_at_call 101
    refine (pleaf_any HR2.out).mono ?_
    rintro x u2 ⟨hx, ho, hr⟩
    obtain rfl : x = .returned (.agg #[.int .i64 op, .int .i64 vk, .int .i64 vn, .string vs, .int .i64 ac, .string an, .bool am]) := by rw [hx, E2.out] <;> rfl
    rw [E2.out] at hr
    have F2 := Lib.hid (F1.out.only ho)
    have G2 := Lib.hid (G1.out.at_only keeps_nop ho HGB.out)
    have B2 := Lib.hid (B1.out.keep (ho.heap B1.out.lt (by have := HGL.out; omega)))
    have W2 : Hid (Ownn (.slice A k c) (.slice A k c) w) := Ownn.refl
    have HRa0 := Lib.hid hr
    have Fa0 := F2
    have Ga0 := G2
    have Ba0 := B2
    have p0 := Ba0.out.cell 0
    have pf0 := Ba0.out.frozen 0
    have Fa1 := Lib.hid (Fa0.out.new (Nat.le_refl _) 0 (.int .i64 op))
    have HRa1 := Lib.hid (HRa0.out.set HGL.out 0 (.int .i64 op))
    have Ga1 := Lib.hid (Ga0.out.set HVc.out 0 (.int .i64 op))
    have Ba1 : Hid (Ob (u2.setCell ⟨w.heap.size, 0, none⟩ (.int .i64 op)) w.heap.size 41 #[.int .i64 op, .int .i64 0, .int .i64 0, .string ⟨#[]⟩, .int .i64 0, .string ⟨#[]⟩, .bool false]) := Lib.hid (by have := Ba0.out.put 0 (.int .i64 op); simpa using this)
    have p1 := Ba1.out.cell 1
    have pf1 := Ba1.out.frozen 1
    have Fa2 := Lib.hid (Fa1.out.new (Nat.le_refl _) 1 (.int .i64 vk))
    have HRa2 := Lib.hid (HRa1.out.set HGL.out 1 (.int .i64 vk))
    have Ga2 := Lib.hid (Ga1.out.set HVc.out 1 (.int .i64 vk))
    have Ba2 : Hid (Ob ((u2.setCell ⟨w.heap.size, 0, none⟩ (.int .i64 op)).setCell ⟨w.heap.size, 1, none⟩ (.int .i64 vk)) w.heap.size 41 #[.int .i64 op, .int .i64 vk, .int .i64 0, .string ⟨#[]⟩, .int .i64 0, .string ⟨#[]⟩, .bool false]) := Lib.hid (by have := Ba1.out.put 1 (.int .i64 vk); simpa using this)
    have p2 := Ba2.out.cell 2
    have pf2 := Ba2.out.frozen 2
    have Fa3 := Lib.hid (Fa2.out.new (Nat.le_refl _) 2 (.int .i64 vn))
    have HRa3 := Lib.hid (HRa2.out.set HGL.out 2 (.int .i64 vn))
    have Ga3 := Lib.hid (Ga2.out.set HVc.out 2 (.int .i64 vn))
    have Ba3 : Hid (Ob (((u2.setCell ⟨w.heap.size, 0, none⟩ (.int .i64 op)).setCell ⟨w.heap.size, 1, none⟩ (.int .i64 vk)).setCell ⟨w.heap.size, 2, none⟩ (.int .i64 vn)) w.heap.size 41 #[.int .i64 op, .int .i64 vk, .int .i64 vn, .string ⟨#[]⟩, .int .i64 0, .string ⟨#[]⟩, .bool false]) := Lib.hid (by have := Ba2.out.put 2 (.int .i64 vn); simpa using this)
    have p3 := Ba3.out.cell 3
    have pf3 := Ba3.out.frozen 3
    have Fa4 := Lib.hid (Fa3.out.new (Nat.le_refl _) 3 (.string vs))
    have HRa4 := Lib.hid (HRa3.out.set HGL.out 3 (.string vs))
    have Ga4 := Lib.hid (Ga3.out.set HVc.out 3 (.string vs))
    have Ba4 : Hid (Ob ((((u2.setCell ⟨w.heap.size, 0, none⟩ (.int .i64 op)).setCell ⟨w.heap.size, 1, none⟩ (.int .i64 vk)).setCell ⟨w.heap.size, 2, none⟩ (.int .i64 vn)).setCell ⟨w.heap.size, 3, none⟩ (.string vs)) w.heap.size 41 #[.int .i64 op, .int .i64 vk, .int .i64 vn, .string vs, .int .i64 0, .string ⟨#[]⟩, .bool false]) := Lib.hid (by have := Ba3.out.put 3 (.string vs); simpa using this)
    have p4 := Ba4.out.cell 4
    have pf4 := Ba4.out.frozen 4
    have Fa5 := Lib.hid (Fa4.out.new (Nat.le_refl _) 4 (.int .i64 ac))
    have HRa5 := Lib.hid (HRa4.out.set HGL.out 4 (.int .i64 ac))
    have Ga5 := Lib.hid (Ga4.out.set HVc.out 4 (.int .i64 ac))
    have Ba5 : Hid (Ob (((((u2.setCell ⟨w.heap.size, 0, none⟩ (.int .i64 op)).setCell ⟨w.heap.size, 1, none⟩ (.int .i64 vk)).setCell ⟨w.heap.size, 2, none⟩ (.int .i64 vn)).setCell ⟨w.heap.size, 3, none⟩ (.string vs)).setCell ⟨w.heap.size, 4, none⟩ (.int .i64 ac)) w.heap.size 41 #[.int .i64 op, .int .i64 vk, .int .i64 vn, .string vs, .int .i64 ac, .string ⟨#[]⟩, .bool false]) := Lib.hid (by have := Ba4.out.put 4 (.int .i64 ac); simpa using this)
    have p5 := Ba5.out.cell 5
    have pf5 := Ba5.out.frozen 5
    have Fa6 := Lib.hid (Fa5.out.new (Nat.le_refl _) 5 (.string an))
    have HRa6 := Lib.hid (HRa5.out.set HGL.out 5 (.string an))
    have Ga6 := Lib.hid (Ga5.out.set HVc.out 5 (.string an))
    have Ba6 : Hid (Ob ((((((u2.setCell ⟨w.heap.size, 0, none⟩ (.int .i64 op)).setCell ⟨w.heap.size, 1, none⟩ (.int .i64 vk)).setCell ⟨w.heap.size, 2, none⟩ (.int .i64 vn)).setCell ⟨w.heap.size, 3, none⟩ (.string vs)).setCell ⟨w.heap.size, 4, none⟩ (.int .i64 ac)).setCell ⟨w.heap.size, 5, none⟩ (.string an)) w.heap.size 41 #[.int .i64 op, .int .i64 vk, .int .i64 vn, .string vs, .int .i64 ac, .string an, .bool false]) := Lib.hid (by have := Ba5.out.put 5 (.string an); simpa using this)
    have p6 := Ba6.out.cell 6
    have pf6 := Ba6.out.frozen 6
    have Fa7 := Lib.hid (Fa6.out.new (Nat.le_refl _) 6 (.bool am))
    have HRa7 := Lib.hid (HRa6.out.set HGL.out 6 (.bool am))
    have Ga7 := Lib.hid (Ga6.out.set HVc.out 6 (.bool am))
    have Ba7 : Hid (Ob (((((((u2.setCell ⟨w.heap.size, 0, none⟩ (.int .i64 op)).setCell ⟨w.heap.size, 1, none⟩ (.int .i64 vk)).setCell ⟨w.heap.size, 2, none⟩ (.int .i64 vn)).setCell ⟨w.heap.size, 3, none⟩ (.string vs)).setCell ⟨w.heap.size, 4, none⟩ (.int .i64 ac)).setCell ⟨w.heap.size, 5, none⟩ (.string an)).setCell ⟨w.heap.size, 6, none⟩ (.bool am)) w.heap.size 41 #[.int .i64 op, .int .i64 vk, .int .i64 vn, .string vs, .int .i64 ac, .string an, .bool am]) := Lib.hid (by have := Ba6.out.put 6 (.bool am); simpa using this)
    have y0 := Ba7.out.cell 0
    have y1 := Ba7.out.cell 1
    have y2 := Ba7.out.cell 2
    have y3 := Ba7.out.cell 3
    have y4 := Ba7.out.cell 4
    have y5 := Ba7.out.cell 5
    have y6 := Ba7.out.cell 6
    clear hx ho hr
    obtain ⟨w8, hw8⟩ : ∃ x, x = (((((((u2.setCell ⟨w.heap.size, 0, none⟩ (.int .i64 op)).setCell ⟨w.heap.size, 1, none⟩ (.int .i64 vk)).setCell ⟨w.heap.size, 2, none⟩ (.int .i64 vn)).setCell ⟨w.heap.size, 3, none⟩ (.string vs)).setCell ⟨w.heap.size, 4, none⟩ (.int .i64 ac)).setCell ⟨w.heap.size, 5, none⟩ (.string an)).setCell ⟨w.heap.size, 6, none⟩ (.bool am)) := ⟨_, rfl⟩
    rw [← hw8] at Fa7 HRa7 Ga7 Ba7
    have hsz : w8.heap.size = u2.heap.size := by rw [hw8]; simp only [heap_setc]
    have hgl2 := Ga7.out.len
    have hlen : ((l ++ [(⟨op, ⟨vk, vn, vs⟩, ⟨ac, an, am⟩⟩ : Nod)]).length : Int) = (k : Int) + 1 := by rw [List.length_append]; simp; omega
    have HLEN := Lib.hid hlen
    have hk63 : k < 1000000 := by have := HK2.out; omega
    obtain ⟨A5, c5, v5, r5, g5, b5, f5, o5⟩ := push_nod Ga7.out HOK.out hk63 (b := u2.heap.size) hsz g
    have F5 := Lib.hid (Fa7.out.trans W2.out f5)
    have W5 := Lib.hid (Ownn.trans W2.out o5 Fa7.out.size)
    have HV5 := Lib.hid (Ownn.not (w := w8) o5 Ba7.out.lt HVc.out)
    have B5 := Lib.hid (f5.ob Ba7.out (by have := HGL.out; show w.heap.size ≠ g; omega) HVc.out)
    have HR5 := Lib.hid (HRa7.out.below b5 HGB.out)
    have R5 := Lib.hid r5
    have G5 := Lib.hid g5
    clear r5 g5 b5 f5 o5 hlen hgl2 hsz Fa7 HRa7 Ga7 Ba7
    subst hw8
    go_wp2_with (at_builtin; refine wpList_append_run (o := ⟨some 27, _, _, _, _, _⟩) rfl _ _ _ _ rfl rfl rfl R5.out ?_)
    go_at_call 42
    refine (pmost_any HR5.out ((k : Int) + 1) 32).mono ?_
    rintro x u6 ⟨rfl, ho, hr⟩
    have F6 := Lib.hid (F5.out.only ho)
    have HR6 := Lib.hid hr
    have G6 := Lib.hid (G5.out.at_only keeps_nop ho HGB.out)
    have B6 := Lib.hid (B5.out.keep (ho.heap B5.out.lt (by have := HGL.out; omega)))
    have y0 := B6.out.cell 0
    clear ho hr
    cases bag
    · by_cases hop : op = 2
      · have HX := Lib.hid (nodR_bad (bag := false) (p := s.hd.p) (s := s2) HLEN.out (by rw [hop]; rfl))
        have hop2 : (op == 2) = true := by rw [hop]; rfl
        clear hop
        go_wp2_with fail
        go_at_call 64
        refine (pfail_any HR6.out (e := 5) (.inl rfl) HP.out).mono ?_
        rintro x u7 ⟨rfl, ho, hr⟩
        have F7 := Lib.hid (F6.out.only ho)
        have HR7 := Lib.hid hr
        have G7 := Lib.hid (G6.out.at_only keeps_nop ho HGB.out)
        clear ho hr
        go_wp2_with fail
        go_ret
        rw [HE.out, HX.out]
        exact ⟨A5, _, c5, rfl, F7.out, W5.out, HR7.out, G7.out⟩
      · have HX := Lib.hid (nodR_good (bag := false) (p := s.hd.p) (s := s2) HLEN.out (by rw [decide_eq_false hop]; rfl))
        have hop2 : (op == 2) = false := by rw [beq_eq_false_iff_ne]; exact hop
        clear hop
        go_wp2_with fail
        go_ret
        rw [HE.out, HX.out]
        exact ⟨A5, _, c5, rfl, F6.out, W5.out, HR6.out, G6.out⟩
    · by_cases hop : op = 2
      · have HX := Lib.hid (nodR_good (bag := true) (p := s.hd.p) (s := s2) HLEN.out (by rw [hop]; rfl))
        have hop2 : (op == 2) = true := by rw [hop]; rfl
        clear hop
        go_wp2_with fail
        go_ret
        rw [HE.out, HX.out]
        exact ⟨A5, _, c5, rfl, F6.out, W5.out, HR6.out, G6.out⟩
      · have HX := Lib.hid (nodR_bad (bag := true) (p := s.hd.p) (s := s2) HLEN.out (by rw [decide_eq_false hop]; rfl))
        have hop2 : (op == 2) = false := by rw [beq_eq_false_iff_ne]; exact hop
        clear hop
        go_wp2_with fail
        go_at_call 64
        refine (pfail_any HR6.out (e := 5) (.inl rfl) HP.out).mono ?_
        rintro x u7 ⟨rfl, ho, hr⟩
        have F7 := Lib.hid (F6.out.only ho)
        have HR7 := Lib.hid hr
        have G7 := Lib.hid (G6.out.at_only keeps_nop ho HGB.out)
        clear ho hr
        go_wp2_with fail
        go_ret
        rw [HE.out, HX.out]
        exact ⟨A5, _, c5, rfl, F7.out, W5.out, HR7.out, G7.out⟩
theorem expr_all : ∀ n, EOk L g n
  | 0 => fun w s l bag base A k c h _ _ hn _ => by have := h.ok.pos; omega
  | n + 1 => expr_step n (expr_all n)
set_option maxHeartbeats 800000 in
theorem pcond_any {w : World} {s : Pz} (h : Rd L w g s) : Calls Try.prog 82 #[.pointer (some ⟨g, 0, none⟩)] w fun x w' => ∃ A n c, x = .returned (.slice A n c) ∧ Only g w w' ∧ Rd L w' g (condR s).2 ∧ Nds w' (fun b => w.heap.size ≤ b) A n c (condR s).1 := by
  have HR0 := Lib.hid h
  obtain ⟨i, s1, e1⟩ : ∃ i t, takeR [w_if] s = (i, t) := ⟨_, _, rfl⟩
  have E1 := Lib.hid e1
  have hl0 : s.rest.length ≤ 5000 := h.ok.2.2.1.1
  have hgo := take_go h.ok [w_if]
  rw [e1] at hgo
  by_cases hi : i = 0
  · have HE : Hid (condR s = ([], s1)) := by show _ = _; unfold condR; rw [e1, if_pos hi]
    rw [HE.out]
    subst hi
    clear h e1 hgo
    go_enter Try.func82, Try.ntmps82
    go_wp2_with fail
    go_at_call 66
    refine (ptake_lit HR0.out [w_if] #[.string ⟨#[105, 102]⟩] 1 rfl rfl (by omega) rfl).mono ?_
    rintro x u1 ⟨hx, ho, hr⟩
    obtain rfl : x = .returned (.int .i64 ((0 : Nat) : Int)) := by rw [hx, E1.out] <;> rfl
    rw [E1.out] at hr
    have HO1 := Lib.hid ho
    have HR1 := Lib.hid hr
    clear ho hr hx
    go_wp2_with fail
    go_ret
    exact ⟨none, 0, 0, rfl, HO1.out, HR1.out, Rw.nil_ _ _ _ _⟩
  · have HE : Hid (condR s = exprR s1.rest.length [] false s1) := by show _ = _; unfold condR; rw [e1, if_neg hi]
    rw [HE.out]
    have HLE : Hid (s1.rest.length ≤ 5000 ∧ (exprR s1.rest.length [] false s1).1.length ≤ 20000) := by
      have h1 : s1.rest.length ≤ s.rest.length := hgo.2
      have h2 := (expr_go s1.rest.length [] false s1 hgo.1 (Nat.le_refl _)).2
      simp only [List.length_nil] at h2
      exact ⟨by omega, by omega⟩
    have hi2 : ((i : Int) == 0) = false := by rw [beq_eq_false_iff_ne]; omega
    have HGL : Hid (g < w.heap.size) := h.lt
    clear h e1 hgo
    go_enter Try.func82, Try.ntmps82
    go_wp2_with fail
    go_at_call 66
    refine (ptake_lit HR0.out [w_if] #[.string ⟨#[105, 102]⟩] 1 rfl rfl (by omega) rfl).mono ?_
    rintro x u1 ⟨hx, ho, hr⟩
    obtain rfl : x = .returned (.int .i64 (i : Int)) := by rw [hx, E1.out] <;> rfl
    rw [E1.out] at hr
    have HO1 := Lib.hid ho
    have HR1 := Lib.hid hr
    clear ho hr hx
    go_wp2_with fail
    go_at_call 91
    refine (expr_all s1.rest.length u1 s1 [] false w.heap.size none 0 0 HR1.out HGL.out (Gr.nil _ _ HO1.out.size) (Nat.le_refl _) (by have := HLE.out; omega)).mono ?_
    rintro x u2 ⟨A2, k2, c2, rfl, hf, hw, hr, hg⟩
    have HO2 : Hid (Only g w u2) := ⟨hf.1.trans HO1.out.os, hf.2.1.trans HO1.out.tape, hf.2.2.1.trans HO1.out.output, Nat.le_trans HO1.out.size hf.size, fun b hb hne => (hf.heap (Nat.lt_of_lt_of_le hb HO1.out.size) (fun e => hne (by rw [e])) (by simp [Value.ownBlock])).trans (HO1.out.block b hb hne)⟩
    have HR2 := Lib.hid hr
    have HG2 := Lib.hid hg
    have HL2 := Lib.hid hg.len
    clear hf hw hr hg
    go_wp2_with fail
    go_ret
    exact ⟨A2, k2, c2, rfl, HO2.out, HR2.out, HG2.out.rw keeps_nop (by have := HL2.out; have := HLE.out; omega)⟩
end
end Go.Proofs.Ytadjfkgnoklmiaa
/- The parser: rules. -/
namespace Go.Proofs.Ytadjfkgnoklmiaa
set_option linter.unusedVariables false
open Go.RowKit

theorem rule_ret {fn : Func} {t : Tmp} {tmps : Array Value} {w : World} {g : Nat} {cs : Array Value} (h : fn.results = #[.cell t 51]) (hp : tmps.getD t undef = .pointer (some ⟨g, 0, none⟩)) (hg : Ob w g 51 cs) (h3 : cs.size = 5) :
    (results fn tmps).run Try.prog w = .ok (.agg cs) w := results_cell_row h tmps w g _ _ (0, 0) _ hp hg Try.underlying51 rfl (by rw [h3]; kernel_rfl)
theorem ruleR_eq {s s1 s2 s3 s4 s5 s6 : Pz} {i j : Nat} {nm : ByteArray} {t : Tgt} {c : List Nod} {o : List Dut} (h1 : mustR [w_permit, w_deny] s = (i, s1)) (h2 : nameR s1 = (nm, s2)) (h3 : targetR s2 = (t, s3)) (h4 : condR s3 = (c, s4)) (h5 : dutsR s4 = (o, s5)) (h6 : mustR [m_semi] s5 = (j, s6)) :
    ruleR s = (⟨nm, decide (i = 2), t, c, o⟩, s6) := by
  unfold ruleR
  simp only [h1, h2, h3, h4, h5, h6]
section
variable {L g : Nat} {w : World} {s : Pz}
set_option maxHeartbeats 3200000 in
theorem prule_any (h : Rd L w g s) : Calls Try.prog 70 #[.pointer (some ⟨g, 0, none⟩)] w fun x w' => ∃ A1 n1 c1 A2 n2 c2 A3 n3 c3, x = .returned (.agg #[.string (ruleR s).1.id, .bool (ruleR s).1.deny, .slice A1 n1 c1, .slice A2 n2 c2, .slice A3 n3 c3]) ∧ Only g w w' ∧ Rd L w' g (ruleR s).2 ∧
    (Tg w' (fun b => w.heap.size ≤ b) A1 n1 c1 (ruleR s).1.tg ∧ Nds w' (fun b => w.heap.size ≤ b) A2 n2 c2 (ruleR s).1.cond ∧ Dus w' (fun b => w.heap.size ≤ b) A3 n3 c3 (ruleR s).1.ob ∧ (ruleR s).1.id.size ≤ maxLen) := by
  obtain ⟨i, s1, e1⟩ : ∃ x y, mustR [w_permit, w_deny] s = (x, y) := ⟨_, _, rfl⟩
  obtain ⟨nm, s2, e2⟩ : ∃ x y, nameR s1 = (x, y) := ⟨_, _, rfl⟩
  obtain ⟨tt, s3, e3⟩ : ∃ x y, targetR s2 = (x, y) := ⟨_, _, rfl⟩
  obtain ⟨cc, s4, e4⟩ : ∃ x y, condR s3 = (x, y) := ⟨_, _, rfl⟩
  obtain ⟨dd, s5, e5⟩ : ∃ x y, dutsR s4 = (x, y) := ⟨_, _, rfl⟩
  obtain ⟨j, s6, e6⟩ : ∃ x y, mustR [m_semi] s5 = (x, y) := ⟨_, _, rfl⟩
  rw [ruleR_eq e1 e2 e3 e4 e5 e6]
  have HNM : Hid (nm.size ≤ maxLen) := by have h1 := h.ok.must [w_permit, w_deny]; rw [e1] at h1; have := nameR_size h1; rw [e2] at this; exact this
  have E1 := Lib.hid e1
  have E2 := Lib.hid e2
  have E3 := Lib.hid e3
  have E4 := Lib.hid e4
  have E5 := Lib.hid e5
  have E6 := Lib.hid e6
  have hq := eq2 i
  have HG : Hid (g < w.heap.size) := h.lt
  have HBr_1 : Hid (Ob (w.alloc (.cells #[.string ⟨#[]⟩, .bool false, .slice none 0 0, .slice none 0 0, .slice none 0 0] 51)) (w.heap.size) 51 #[.string ⟨#[]⟩, .bool false, .slice none 0 0, .slice none 0 0, .slice none 0 0]) := Lib.hid (by have := Ob.made w 51 #[.string ⟨#[]⟩, .bool false, .slice none 0 0, .slice none 0 0, .slice none 0 0]; simpa using this)
  have HBr_2 := Lib.hid (HBr_1.out.keep (Below.heap_alloc (w.alloc (.cells #[.string ⟨#[]⟩, .bool false, .slice none 0 0, .slice none 0 0, .slice none 0 0] 51)) (.cells #[.string ⟨#[]⟩, .bool false, .slice none 0 0, .slice none 0 0, .slice none 0 0] 51) _ HBr_1.out.lt))
  have HBu_2 : Hid (Ob ((w.alloc (.cells #[.string ⟨#[]⟩, .bool false, .slice none 0 0, .slice none 0 0, .slice none 0 0] 51)).alloc (.cells #[.string ⟨#[]⟩, .bool false, .slice none 0 0, .slice none 0 0, .slice none 0 0] 51)) (w.heap.size + 1) 51 #[.string ⟨#[]⟩, .bool false, .slice none 0 0, .slice none 0 0, .slice none 0 0]) := Lib.hid (by have := Ob.made (w.alloc (.cells #[.string ⟨#[]⟩, .bool false, .slice none 0 0, .slice none 0 0, .slice none 0 0] 51)) 51 #[.string ⟨#[]⟩, .bool false, .slice none 0 0, .slice none 0 0, .slice none 0 0]; simpa using this)
  have HR0 := Lib.hid ((h.alloc (.cells #[.string ⟨#[]⟩, .bool false, .slice none 0 0, .slice none 0 0, .slice none 0 0] 51)).alloc (.cells #[.string ⟨#[]⟩, .bool false, .slice none 0 0, .slice none 0 0, .slice none 0 0] 51))
  have HO0 := Lib.hid (((Only.refl (r := g) (w := w)).al (.cells #[.string ⟨#[]⟩, .bool false, .slice none 0 0, .slice none 0 0, .slice none 0 0] 51)).al (.cells #[.string ⟨#[]⟩, .bool false, .slice none 0 0, .slice none 0 0, .slice none 0 0] 51))
  clear h e1 e2 e3 e4 e5 e6
  go_enter Try.func70, Try.ntmps70
  go_wp2_with fail
  go_at_call 43
  refine (pmust_lit HR0.out [w_permit, w_deny] #[.string ⟨#[112, 101, 114, 109, 105, 116]⟩, .string ⟨#[100, 101, 110, 121]⟩] 2 rfl rfl (by omega) (by first | rfl | (simp; done) | (simp [World.setCell]; done))).mono ?_
  rintro x u3 ⟨hx, ho, hr⟩
  obtain rfl : x = .returned (.int .i64 (i : Int)) := by rw [hx, E1.out] <;> rfl
  rw [E1.out] at hr
  clear hx
  have HO3 := Lib.hid (HO0.out.trans ho)
  have HR3 := Lib.hid hr
  have HBr_3 := Lib.hid (HBr_2.out.keep (ho.heap HBr_2.out.lt (by have := HG.out; omega)))
  have HBu_3 := Lib.hid (HBu_2.out.keep (ho.heap HBu_2.out.lt (by have := HG.out; omega)))
  clear ho hr
  have c4 := HBu_3.out.cell 1
  have f4 := HBu_3.out.frozen 1
  have HO4 := Lib.hid (HO3.out.new (r := w.heap.size + 1) (by have := HG.out; omega) 1 (.bool (decide (i = 2))))
  have HR4 := Lib.hid (HR3.out.set (r := w.heap.size + 1) (by have := HG.out; omega) 1 (.bool (decide (i = 2))))
  have HBr_4 := Lib.hid (HBr_3.out.keep (Below.heap_setCell u3 ⟨w.heap.size + 1, 1, none⟩ (.bool (decide (i = 2))) _ (by show w.heap.size ≠ w.heap.size + 1; have := HG.out; omega)))
  have HBu_4 : Hid (Ob (u3.setCell ⟨w.heap.size + 1, 1, none⟩ (.bool (decide (i = 2)))) (w.heap.size + 1) 51 #[.string ⟨#[]⟩, .bool (decide (i = 2)), .slice none 0 0, .slice none 0 0, .slice none 0 0]) := Lib.hid (by have := HBu_3.out.put 1 (.bool (decide (i = 2))); simpa using this)
  go_wp2_with fail
  go_at_call 44
  refine (pname_any HR4.out).mono ?_
  rintro x u5 ⟨hx, ho, hr⟩
  obtain rfl : x = .returned (.string nm) := by rw [hx, E2.out] <;> rfl
  rw [E2.out] at hr
  clear hx
  have HO5 := Lib.hid (HO4.out.trans ho)
  have HR5 := Lib.hid hr
  have HBr_5 := Lib.hid (HBr_4.out.keep (ho.heap HBr_4.out.lt (by have := HG.out; omega)))
  have HBu_5 := Lib.hid (HBu_4.out.keep (ho.heap HBu_4.out.lt (by have := HG.out; omega)))
  clear ho hr
  have c6 := HBu_5.out.cell 0
  have f6 := HBu_5.out.frozen 0
  have HO6 := Lib.hid (HO5.out.new (r := w.heap.size + 1) (by have := HG.out; omega) 0 (.string nm))
  have HR6 := Lib.hid (HR5.out.set (r := w.heap.size + 1) (by have := HG.out; omega) 0 (.string nm))
  have HBr_6 := Lib.hid (HBr_5.out.keep (Below.heap_setCell u5 ⟨w.heap.size + 1, 0, none⟩ (.string nm) _ (by show w.heap.size ≠ w.heap.size + 1; have := HG.out; omega)))
  have HBu_6 : Hid (Ob (u5.setCell ⟨w.heap.size + 1, 0, none⟩ (.string nm)) (w.heap.size + 1) 51 #[.string nm, .bool (decide (i = 2)), .slice none 0 0, .slice none 0 0, .slice none 0 0]) := Lib.hid (by have := HBu_5.out.put 0 (.string nm); simpa using this)
  go_wp2_with fail
  go_at_call 45
  refine (ptarget_any HR6.out).mono ?_
  rintro x u7 ⟨A1, n1, c1, rfl, ho, hr, ht1⟩
  rw [E3.out] at hr ht1
  have HO7 := Lib.hid (HO6.out.trans ho)
  have HR7 := Lib.hid hr
  have HBr_7 := Lib.hid (HBr_6.out.keep (ho.heap HBr_6.out.lt (by have := HG.out; omega)))
  have HBu_7 := Lib.hid (HBu_6.out.keep (ho.heap HBu_6.out.lt (by have := HG.out; omega)))
  have HTt1_7 := Lib.hid (ht1.keep (Kept.refl _ _) (R' := fun b => w.heap.size + 2 ≤ b) (fun b hb _ => by have hb : ((u5.setCell ⟨w.heap.size + 1, 0, none⟩ (.string nm))).heap.size ≤ b := hb; have := HBu_6.out.lt; show w.heap.size + 2 ≤ b; omega))
  clear ho hr ht1
  have c8 := HBu_7.out.cell 2
  have f8 := HBu_7.out.frozen 2
  have HO8 := Lib.hid (HO7.out.new (r := w.heap.size + 1) (by have := HG.out; omega) 2 (.slice A1 n1 c1))
  have HR8 := Lib.hid (HR7.out.set (r := w.heap.size + 1) (by have := HG.out; omega) 2 (.slice A1 n1 c1))
  have HBr_8 := Lib.hid (HBr_7.out.keep (Below.heap_setCell u7 ⟨w.heap.size + 1, 2, none⟩ (.slice A1 n1 c1) _ (by show w.heap.size ≠ w.heap.size + 1; have := HG.out; omega)))
  have HBu_8 : Hid (Ob (u7.setCell ⟨w.heap.size + 1, 2, none⟩ (.slice A1 n1 c1)) (w.heap.size + 1) 51 #[.string nm, .bool (decide (i = 2)), .slice A1 n1 c1, .slice none 0 0, .slice none 0 0]) := Lib.hid (by have := HBu_7.out.put 2 (.slice A1 n1 c1); simpa using this)
  have HTt1_8 := Lib.hid (HTt1_7.out.keep (Only.kept9 ((Only.refl (r := w.heap.size + 1) (w := u7)).setCell (p := ⟨w.heap.size + 1, 2, none⟩) rfl (.slice A1 n1 c1)) (fun b hb => by have hb : w.heap.size + 2 ≤ b := hb; show b ≠ w.heap.size + 1; omega)) (fun _ h _ => h))
  go_wp2_with fail
  go_at_call 82
  refine (pcond_any HR8.out).mono ?_
  rintro x u9 ⟨A2, n2, c2, rfl, ho, hr, ht2⟩
  rw [E4.out] at hr ht2
  have HO9 := Lib.hid (HO8.out.trans ho)
  have HR9 := Lib.hid hr
  have HBr_9 := Lib.hid (HBr_8.out.keep (ho.heap HBr_8.out.lt (by have := HG.out; omega)))
  have HBu_9 := Lib.hid (HBu_8.out.keep (ho.heap HBu_8.out.lt (by have := HG.out; omega)))
  have HTt1_9 := Lib.hid (HTt1_8.out.keep (ho.kept9 (fun b hb => by have := HG.out; have hb : w.heap.size + 2 ≤ b := hb; show b ≠ g; omega)) (fun _ h _ => h))
  have HTt2_9 := Lib.hid (ht2.keep (Kept.refl _ _) (R' := fun b => w.heap.size + 2 ≤ b) (fun b hb _ => by have hb : ((u7.setCell ⟨w.heap.size + 1, 2, none⟩ (.slice A1 n1 c1))).heap.size ≤ b := hb; have := HBu_8.out.lt; show w.heap.size + 2 ≤ b; omega))
  clear ho hr ht2
  have c10 := HBu_9.out.cell 3
  have f10 := HBu_9.out.frozen 3
  have HO10 := Lib.hid (HO9.out.new (r := w.heap.size + 1) (by have := HG.out; omega) 3 (.slice A2 n2 c2))
  have HR10 := Lib.hid (HR9.out.set (r := w.heap.size + 1) (by have := HG.out; omega) 3 (.slice A2 n2 c2))
  have HBr_10 := Lib.hid (HBr_9.out.keep (Below.heap_setCell u9 ⟨w.heap.size + 1, 3, none⟩ (.slice A2 n2 c2) _ (by show w.heap.size ≠ w.heap.size + 1; have := HG.out; omega)))
  have HBu_10 : Hid (Ob (u9.setCell ⟨w.heap.size + 1, 3, none⟩ (.slice A2 n2 c2)) (w.heap.size + 1) 51 #[.string nm, .bool (decide (i = 2)), .slice A1 n1 c1, .slice A2 n2 c2, .slice none 0 0]) := Lib.hid (by have := HBu_9.out.put 3 (.slice A2 n2 c2); simpa using this)
  have HTt1_10 := Lib.hid (HTt1_9.out.keep (Only.kept9 ((Only.refl (r := w.heap.size + 1) (w := u9)).setCell (p := ⟨w.heap.size + 1, 3, none⟩) rfl (.slice A2 n2 c2)) (fun b hb => by have hb : w.heap.size + 2 ≤ b := hb; show b ≠ w.heap.size + 1; omega)) (fun _ h _ => h))
  have HTt2_10 := Lib.hid (HTt2_9.out.keep (Only.kept9 ((Only.refl (r := w.heap.size + 1) (w := u9)).setCell (p := ⟨w.heap.size + 1, 3, none⟩) rfl (.slice A2 n2 c2)) (fun b hb => by have hb : w.heap.size + 2 ≤ b := hb; show b ≠ w.heap.size + 1; omega)) (fun _ h _ => h))
  go_wp2_with fail
  go_at_call 48
  refine (pduts_any HR10.out).mono ?_
  rintro x u11 ⟨A3, n3, c3, rfl, ho, hr, ht3⟩
  rw [E5.out] at hr ht3
  have HO11 := Lib.hid (HO10.out.trans ho)
  have HR11 := Lib.hid hr
  have HBr_11 := Lib.hid (HBr_10.out.keep (ho.heap HBr_10.out.lt (by have := HG.out; omega)))
  have HBu_11 := Lib.hid (HBu_10.out.keep (ho.heap HBu_10.out.lt (by have := HG.out; omega)))
  have HTt1_11 := Lib.hid (HTt1_10.out.keep (ho.kept9 (fun b hb => by have := HG.out; have hb : w.heap.size + 2 ≤ b := hb; show b ≠ g; omega)) (fun _ h _ => h))
  have HTt2_11 := Lib.hid (HTt2_10.out.keep (ho.kept9 (fun b hb => by have := HG.out; have hb : w.heap.size + 2 ≤ b := hb; show b ≠ g; omega)) (fun _ h _ => h))
  have HTt3_11 := Lib.hid (ht3.keep (Kept.refl _ _) (R' := fun b => w.heap.size + 2 ≤ b) (fun b hb _ => by have hb : ((u9.setCell ⟨w.heap.size + 1, 3, none⟩ (.slice A2 n2 c2))).heap.size ≤ b := hb; have := HBu_10.out.lt; show w.heap.size + 2 ≤ b; omega))
  clear ho hr ht3
  have c12 := HBu_11.out.cell 4
  have f12 := HBu_11.out.frozen 4
  have HO12 := Lib.hid (HO11.out.new (r := w.heap.size + 1) (by have := HG.out; omega) 4 (.slice A3 n3 c3))
  have HR12 := Lib.hid (HR11.out.set (r := w.heap.size + 1) (by have := HG.out; omega) 4 (.slice A3 n3 c3))
  have HBr_12 := Lib.hid (HBr_11.out.keep (Below.heap_setCell u11 ⟨w.heap.size + 1, 4, none⟩ (.slice A3 n3 c3) _ (by show w.heap.size ≠ w.heap.size + 1; have := HG.out; omega)))
  have HBu_12 : Hid (Ob (u11.setCell ⟨w.heap.size + 1, 4, none⟩ (.slice A3 n3 c3)) (w.heap.size + 1) 51 #[.string nm, .bool (decide (i = 2)), .slice A1 n1 c1, .slice A2 n2 c2, .slice A3 n3 c3]) := Lib.hid (by have := HBu_11.out.put 4 (.slice A3 n3 c3); simpa using this)
  have HTt1_12 := Lib.hid (HTt1_11.out.keep (Only.kept9 ((Only.refl (r := w.heap.size + 1) (w := u11)).setCell (p := ⟨w.heap.size + 1, 4, none⟩) rfl (.slice A3 n3 c3)) (fun b hb => by have hb : w.heap.size + 2 ≤ b := hb; show b ≠ w.heap.size + 1; omega)) (fun _ h _ => h))
  have HTt2_12 := Lib.hid (HTt2_11.out.keep (Only.kept9 ((Only.refl (r := w.heap.size + 1) (w := u11)).setCell (p := ⟨w.heap.size + 1, 4, none⟩) rfl (.slice A3 n3 c3)) (fun b hb => by have hb : w.heap.size + 2 ≤ b := hb; show b ≠ w.heap.size + 1; omega)) (fun _ h _ => h))
  have HTt3_12 := Lib.hid (HTt3_11.out.keep (Only.kept9 ((Only.refl (r := w.heap.size + 1) (w := u11)).setCell (p := ⟨w.heap.size + 1, 4, none⟩) rfl (.slice A3 n3 c3)) (fun b hb => by have hb : w.heap.size + 2 ≤ b := hb; show b ≠ w.heap.size + 1; omega)) (fun _ h _ => h))
  go_wp2_with fail
  go_at_call 43
  refine (pmust_lit HR12.out [m_semi] #[.string ⟨#[59]⟩] 1 rfl rfl (by omega) (by first | rfl | (simp; done) | (simp [World.setCell]; done))).mono ?_
  rintro x u13 ⟨rfl, ho, hr⟩
  rw [E6.out] at hr
  have HO13 := Lib.hid (HO12.out.trans ho)
  have HR13 := Lib.hid hr
  have HBr_13 := Lib.hid (HBr_12.out.keep (ho.heap HBr_12.out.lt (by have := HG.out; omega)))
  have HBu_13 := Lib.hid (HBu_12.out.keep (ho.heap HBu_12.out.lt (by have := HG.out; omega)))
  have HTt1_13 := Lib.hid (HTt1_12.out.keep (ho.kept9 (fun b hb => by have := HG.out; have hb : w.heap.size + 2 ≤ b := hb; show b ≠ g; omega)) (fun _ h _ => h))
  have HTt2_13 := Lib.hid (HTt2_12.out.keep (ho.kept9 (fun b hb => by have := HG.out; have hb : w.heap.size + 2 ≤ b := hb; show b ≠ g; omega)) (fun _ h _ => h))
  have HTt3_13 := Lib.hid (HTt3_12.out.keep (ho.kept9 (fun b hb => by have := HG.out; have hb : w.heap.size + 2 ≤ b := hb; show b ≠ g; omega)) (fun _ h _ => h))
  clear ho hr
  have c14_0 := HBu_13.out.cell 0
  have c14_1 := HBu_13.out.cell 1
  have c14_2 := HBu_13.out.cell 2
  have c14_3 := HBu_13.out.cell 3
  have c14_4 := HBu_13.out.cell 4
  have c15 := HBr_13.out.cell 0
  have f15 := HBr_13.out.frozen 0
  have HO15 := Lib.hid (HO13.out.new (r := w.heap.size) (by have := HG.out; omega) 0 (.string nm))
  have HR15 := Lib.hid (HR13.out.set (r := w.heap.size) (by have := HG.out; omega) 0 (.string nm))
  have HBr_15 : Hid (Ob (u13.setCell ⟨w.heap.size, 0, none⟩ (.string nm)) (w.heap.size) 51 #[.string nm, .bool false, .slice none 0 0, .slice none 0 0, .slice none 0 0]) := Lib.hid (by have := HBr_13.out.put 0 (.string nm); simpa using this)
  have HBu_15 := Lib.hid (HBu_13.out.keep (Below.heap_setCell u13 ⟨w.heap.size, 0, none⟩ (.string nm) _ (by show w.heap.size + 1 ≠ w.heap.size; have := HG.out; omega)))
  have HTt1_15 := Lib.hid (HTt1_13.out.keep (Only.kept9 ((Only.refl (r := w.heap.size) (w := u13)).setCell (p := ⟨w.heap.size, 0, none⟩) rfl (.string nm)) (fun b hb => by have hb : w.heap.size + 2 ≤ b := hb; show b ≠ w.heap.size; omega)) (fun _ h _ => h))
  have HTt2_15 := Lib.hid (HTt2_13.out.keep (Only.kept9 ((Only.refl (r := w.heap.size) (w := u13)).setCell (p := ⟨w.heap.size, 0, none⟩) rfl (.string nm)) (fun b hb => by have hb : w.heap.size + 2 ≤ b := hb; show b ≠ w.heap.size; omega)) (fun _ h _ => h))
  have HTt3_15 := Lib.hid (HTt3_13.out.keep (Only.kept9 ((Only.refl (r := w.heap.size) (w := u13)).setCell (p := ⟨w.heap.size, 0, none⟩) rfl (.string nm)) (fun b hb => by have hb : w.heap.size + 2 ≤ b := hb; show b ≠ w.heap.size; omega)) (fun _ h _ => h))
  have c16 := HBr_15.out.cell 1
  have f16 := HBr_15.out.frozen 1
  have HO16 := Lib.hid (HO15.out.new (r := w.heap.size) (by have := HG.out; omega) 1 (.bool (decide (i = 2))))
  have HR16 := Lib.hid (HR15.out.set (r := w.heap.size) (by have := HG.out; omega) 1 (.bool (decide (i = 2))))
  have HBr_16 : Hid (Ob ((u13.setCell ⟨w.heap.size, 0, none⟩ (.string nm)).setCell ⟨w.heap.size, 1, none⟩ (.bool (decide (i = 2)))) (w.heap.size) 51 #[.string nm, .bool (decide (i = 2)), .slice none 0 0, .slice none 0 0, .slice none 0 0]) := Lib.hid (by have := HBr_15.out.put 1 (.bool (decide (i = 2))); simpa using this)
  have HBu_16 := Lib.hid (HBu_15.out.keep (Below.heap_setCell (u13.setCell ⟨w.heap.size, 0, none⟩ (.string nm)) ⟨w.heap.size, 1, none⟩ (.bool (decide (i = 2))) _ (by show w.heap.size + 1 ≠ w.heap.size; have := HG.out; omega)))
  have HTt1_16 := Lib.hid (HTt1_15.out.keep (Only.kept9 ((Only.refl (r := w.heap.size) (w := (u13.setCell ⟨w.heap.size, 0, none⟩ (.string nm)))).setCell (p := ⟨w.heap.size, 1, none⟩) rfl (.bool (decide (i = 2)))) (fun b hb => by have hb : w.heap.size + 2 ≤ b := hb; show b ≠ w.heap.size; omega)) (fun _ h _ => h))
  have HTt2_16 := Lib.hid (HTt2_15.out.keep (Only.kept9 ((Only.refl (r := w.heap.size) (w := (u13.setCell ⟨w.heap.size, 0, none⟩ (.string nm)))).setCell (p := ⟨w.heap.size, 1, none⟩) rfl (.bool (decide (i = 2)))) (fun b hb => by have hb : w.heap.size + 2 ≤ b := hb; show b ≠ w.heap.size; omega)) (fun _ h _ => h))
  have HTt3_16 := Lib.hid (HTt3_15.out.keep (Only.kept9 ((Only.refl (r := w.heap.size) (w := (u13.setCell ⟨w.heap.size, 0, none⟩ (.string nm)))).setCell (p := ⟨w.heap.size, 1, none⟩) rfl (.bool (decide (i = 2)))) (fun b hb => by have hb : w.heap.size + 2 ≤ b := hb; show b ≠ w.heap.size; omega)) (fun _ h _ => h))
  have c17 := HBr_16.out.cell 2
  have f17 := HBr_16.out.frozen 2
  have HO17 := Lib.hid (HO16.out.new (r := w.heap.size) (by have := HG.out; omega) 2 (.slice A1 n1 c1))
  have HR17 := Lib.hid (HR16.out.set (r := w.heap.size) (by have := HG.out; omega) 2 (.slice A1 n1 c1))
  have HBr_17 : Hid (Ob (((u13.setCell ⟨w.heap.size, 0, none⟩ (.string nm)).setCell ⟨w.heap.size, 1, none⟩ (.bool (decide (i = 2)))).setCell ⟨w.heap.size, 2, none⟩ (.slice A1 n1 c1)) (w.heap.size) 51 #[.string nm, .bool (decide (i = 2)), .slice A1 n1 c1, .slice none 0 0, .slice none 0 0]) := Lib.hid (by have := HBr_16.out.put 2 (.slice A1 n1 c1); simpa using this)
  have HBu_17 := Lib.hid (HBu_16.out.keep (Below.heap_setCell ((u13.setCell ⟨w.heap.size, 0, none⟩ (.string nm)).setCell ⟨w.heap.size, 1, none⟩ (.bool (decide (i = 2)))) ⟨w.heap.size, 2, none⟩ (.slice A1 n1 c1) _ (by show w.heap.size + 1 ≠ w.heap.size; have := HG.out; omega)))
  have HTt1_17 := Lib.hid (HTt1_16.out.keep (Only.kept9 ((Only.refl (r := w.heap.size) (w := ((u13.setCell ⟨w.heap.size, 0, none⟩ (.string nm)).setCell ⟨w.heap.size, 1, none⟩ (.bool (decide (i = 2)))))).setCell (p := ⟨w.heap.size, 2, none⟩) rfl (.slice A1 n1 c1)) (fun b hb => by have hb : w.heap.size + 2 ≤ b := hb; show b ≠ w.heap.size; omega)) (fun _ h _ => h))
  have HTt2_17 := Lib.hid (HTt2_16.out.keep (Only.kept9 ((Only.refl (r := w.heap.size) (w := ((u13.setCell ⟨w.heap.size, 0, none⟩ (.string nm)).setCell ⟨w.heap.size, 1, none⟩ (.bool (decide (i = 2)))))).setCell (p := ⟨w.heap.size, 2, none⟩) rfl (.slice A1 n1 c1)) (fun b hb => by have hb : w.heap.size + 2 ≤ b := hb; show b ≠ w.heap.size; omega)) (fun _ h _ => h))
  have HTt3_17 := Lib.hid (HTt3_16.out.keep (Only.kept9 ((Only.refl (r := w.heap.size) (w := ((u13.setCell ⟨w.heap.size, 0, none⟩ (.string nm)).setCell ⟨w.heap.size, 1, none⟩ (.bool (decide (i = 2)))))).setCell (p := ⟨w.heap.size, 2, none⟩) rfl (.slice A1 n1 c1)) (fun b hb => by have hb : w.heap.size + 2 ≤ b := hb; show b ≠ w.heap.size; omega)) (fun _ h _ => h))
  have c18 := HBr_17.out.cell 3
  have f18 := HBr_17.out.frozen 3
  have HO18 := Lib.hid (HO17.out.new (r := w.heap.size) (by have := HG.out; omega) 3 (.slice A2 n2 c2))
  have HR18 := Lib.hid (HR17.out.set (r := w.heap.size) (by have := HG.out; omega) 3 (.slice A2 n2 c2))
  have HBr_18 : Hid (Ob ((((u13.setCell ⟨w.heap.size, 0, none⟩ (.string nm)).setCell ⟨w.heap.size, 1, none⟩ (.bool (decide (i = 2)))).setCell ⟨w.heap.size, 2, none⟩ (.slice A1 n1 c1)).setCell ⟨w.heap.size, 3, none⟩ (.slice A2 n2 c2)) (w.heap.size) 51 #[.string nm, .bool (decide (i = 2)), .slice A1 n1 c1, .slice A2 n2 c2, .slice none 0 0]) := Lib.hid (by have := HBr_17.out.put 3 (.slice A2 n2 c2); simpa using this)
  have HBu_18 := Lib.hid (HBu_17.out.keep (Below.heap_setCell (((u13.setCell ⟨w.heap.size, 0, none⟩ (.string nm)).setCell ⟨w.heap.size, 1, none⟩ (.bool (decide (i = 2)))).setCell ⟨w.heap.size, 2, none⟩ (.slice A1 n1 c1)) ⟨w.heap.size, 3, none⟩ (.slice A2 n2 c2) _ (by show w.heap.size + 1 ≠ w.heap.size; have := HG.out; omega)))
  have HTt1_18 := Lib.hid (HTt1_17.out.keep (Only.kept9 ((Only.refl (r := w.heap.size) (w := (((u13.setCell ⟨w.heap.size, 0, none⟩ (.string nm)).setCell ⟨w.heap.size, 1, none⟩ (.bool (decide (i = 2)))).setCell ⟨w.heap.size, 2, none⟩ (.slice A1 n1 c1)))).setCell (p := ⟨w.heap.size, 3, none⟩) rfl (.slice A2 n2 c2)) (fun b hb => by have hb : w.heap.size + 2 ≤ b := hb; show b ≠ w.heap.size; omega)) (fun _ h _ => h))
  have HTt2_18 := Lib.hid (HTt2_17.out.keep (Only.kept9 ((Only.refl (r := w.heap.size) (w := (((u13.setCell ⟨w.heap.size, 0, none⟩ (.string nm)).setCell ⟨w.heap.size, 1, none⟩ (.bool (decide (i = 2)))).setCell ⟨w.heap.size, 2, none⟩ (.slice A1 n1 c1)))).setCell (p := ⟨w.heap.size, 3, none⟩) rfl (.slice A2 n2 c2)) (fun b hb => by have hb : w.heap.size + 2 ≤ b := hb; show b ≠ w.heap.size; omega)) (fun _ h _ => h))
  have HTt3_18 := Lib.hid (HTt3_17.out.keep (Only.kept9 ((Only.refl (r := w.heap.size) (w := (((u13.setCell ⟨w.heap.size, 0, none⟩ (.string nm)).setCell ⟨w.heap.size, 1, none⟩ (.bool (decide (i = 2)))).setCell ⟨w.heap.size, 2, none⟩ (.slice A1 n1 c1)))).setCell (p := ⟨w.heap.size, 3, none⟩) rfl (.slice A2 n2 c2)) (fun b hb => by have hb : w.heap.size + 2 ≤ b := hb; show b ≠ w.heap.size; omega)) (fun _ h _ => h))
  have c19 := HBr_18.out.cell 4
  have f19 := HBr_18.out.frozen 4
  have HO19 := Lib.hid (HO18.out.new (r := w.heap.size) (by have := HG.out; omega) 4 (.slice A3 n3 c3))
  have HR19 := Lib.hid (HR18.out.set (r := w.heap.size) (by have := HG.out; omega) 4 (.slice A3 n3 c3))
  have HBr_19 : Hid (Ob (((((u13.setCell ⟨w.heap.size, 0, none⟩ (.string nm)).setCell ⟨w.heap.size, 1, none⟩ (.bool (decide (i = 2)))).setCell ⟨w.heap.size, 2, none⟩ (.slice A1 n1 c1)).setCell ⟨w.heap.size, 3, none⟩ (.slice A2 n2 c2)).setCell ⟨w.heap.size, 4, none⟩ (.slice A3 n3 c3)) (w.heap.size) 51 #[.string nm, .bool (decide (i = 2)), .slice A1 n1 c1, .slice A2 n2 c2, .slice A3 n3 c3]) := Lib.hid (by have := HBr_18.out.put 4 (.slice A3 n3 c3); simpa using this)
  have HBu_19 := Lib.hid (HBu_18.out.keep (Below.heap_setCell ((((u13.setCell ⟨w.heap.size, 0, none⟩ (.string nm)).setCell ⟨w.heap.size, 1, none⟩ (.bool (decide (i = 2)))).setCell ⟨w.heap.size, 2, none⟩ (.slice A1 n1 c1)).setCell ⟨w.heap.size, 3, none⟩ (.slice A2 n2 c2)) ⟨w.heap.size, 4, none⟩ (.slice A3 n3 c3) _ (by show w.heap.size + 1 ≠ w.heap.size; have := HG.out; omega)))
  have HTt1_19 := Lib.hid (HTt1_18.out.keep (Only.kept9 ((Only.refl (r := w.heap.size) (w := ((((u13.setCell ⟨w.heap.size, 0, none⟩ (.string nm)).setCell ⟨w.heap.size, 1, none⟩ (.bool (decide (i = 2)))).setCell ⟨w.heap.size, 2, none⟩ (.slice A1 n1 c1)).setCell ⟨w.heap.size, 3, none⟩ (.slice A2 n2 c2)))).setCell (p := ⟨w.heap.size, 4, none⟩) rfl (.slice A3 n3 c3)) (fun b hb => by have hb : w.heap.size + 2 ≤ b := hb; show b ≠ w.heap.size; omega)) (fun _ h _ => h))
  have HTt2_19 := Lib.hid (HTt2_18.out.keep (Only.kept9 ((Only.refl (r := w.heap.size) (w := ((((u13.setCell ⟨w.heap.size, 0, none⟩ (.string nm)).setCell ⟨w.heap.size, 1, none⟩ (.bool (decide (i = 2)))).setCell ⟨w.heap.size, 2, none⟩ (.slice A1 n1 c1)).setCell ⟨w.heap.size, 3, none⟩ (.slice A2 n2 c2)))).setCell (p := ⟨w.heap.size, 4, none⟩) rfl (.slice A3 n3 c3)) (fun b hb => by have hb : w.heap.size + 2 ≤ b := hb; show b ≠ w.heap.size; omega)) (fun _ h _ => h))
  have HTt3_19 := Lib.hid (HTt3_18.out.keep (Only.kept9 ((Only.refl (r := w.heap.size) (w := ((((u13.setCell ⟨w.heap.size, 0, none⟩ (.string nm)).setCell ⟨w.heap.size, 1, none⟩ (.bool (decide (i = 2)))).setCell ⟨w.heap.size, 2, none⟩ (.slice A1 n1 c1)).setCell ⟨w.heap.size, 3, none⟩ (.slice A2 n2 c2)))).setCell (p := ⟨w.heap.size, 4, none⟩) rfl (.slice A3 n3 c3)) (fun b hb => by have hb : w.heap.size + 2 ≤ b := hb; show b ≠ w.heap.size; omega)) (fun _ h _ => h))
  go_wp2_with fail
  refine bodyPost_ret (rule_ret rfl rfl HBr_19.out rfl) rfl ?_
  exact ⟨A1, n1, c1, A2, n2, c2, A3, n3, c3, rfl, HO19.out, HR19.out, HTt1_19.out.keep (Kept.refl _ _) (fun b hb _ => by have hb : w.heap.size + 2 ≤ b := hb; show w.heap.size ≤ b; omega), HTt2_19.out.keep (Kept.refl _ _) (fun b hb _ => by have hb : w.heap.size + 2 ≤ b := hb; show w.heap.size ≤ b; omega), HTt3_19.out.keep (Kept.refl _ _) (fun b hb _ => by have hb : w.heap.size + 2 ≤ b := hb; show w.heap.size ≤ b; omega), HNM.out⟩
theorem Rd.meets (h : Rd L w g s) (hm : s.met + s.rest.length ≤ 5990) : Rd L (w.setCell ⟨g, 1, none⟩ (.int .i64 ((s.met : Int) + 1))) g (metR s) := by
  obtain ⟨b, o, n, c, hob, hok, ⟨hn, h1, h2, h3⟩, hbg, hc, hmk⟩ := h.at_
  have ho : Only g w (w.setCell ⟨g, 1, none⟩ (.int .i64 ((s.met : Int) + 1))) := Only.refl.at_g 1 _
  refine hmk 0 ((s.met : Int) + 1) s.err s.at_ (metR s) (by omega) (by simp [metR]) (by simp [metR]) rfl rfl (met_ok hok hm) _ (fun j hj => ho.heap (Nat.lt_trans hj hob.lt) (by omega)) ?_
  have := hob.put 1 (.int .i64 ((s.met : Int) + 1))
  simpa using this
theorem rulesR_stop {n : Nat} {l : List Rul} {s : Pz} (h : seesR [w_permit, w_deny] s = 0) : rulesR (n + 1) l s = (l, s) := by
  unfold rulesR
  rw [if_pos h]
theorem rulesR_succ {n : Nat} {l : List Rul} {s s1 s2 s3 : Pz} {u : Rul} {m : Int} (h : seesR [w_permit, w_deny] s ≠ 0) (hm : (l.length : Int) + 1 = m) (h1 : mostR m 16 (metR s) = s1) (h2 : mostR (s1.met : Int) 64 s1 = s2) (h3 : ruleR s2 = (u, s3)) : rulesR (n + 1) l s = rulesR n (l ++ [u]) s3 := by
  conv => lhs; unfold rulesR
  rw [if_neg h]
  simp only [hm, h1, h2, h3]
set_option maxHeartbeats 3200000 in
theorem prules_any (h : Rd L w g s) (hsum : s.met + s.rest.length ≤ 5990) : Calls Try.prog 47 #[.pointer (some ⟨g, 0, none⟩)] w fun x w' => ∃ A n c, x = .returned (.slice A n c) ∧ Only g w w' ∧ Rd L w' g (rulesR s.rest.length [] s).2 ∧ Rus w' (fun b => w.heap.size ≤ b) A n c (rulesR s.rest.length [] s).1 := by
  have HG0 : Hid (g < w.heap.size) := h.lt
  have HL0 : Hid (s.rest.length ≤ 5000) := h.ok.2.2.1.1
  have HH := Lib.hid h
  have HS := Lib.hid hsum
  obtain ⟨z, hz⟩ : ∃ z, z = rulesR s.rest.length [] s := ⟨_, rfl⟩
  have HZ : Hid (z = rulesR s.rest.length [] s) := hz
  rw [← hz]
  clear h hz hsum
  go_enter Try.func47, Try.ntmps47
  go_wp2
  go_loopw [3] (fun v wr => ∃ (k : Nat) (A : Option Addr) (c : Nat) (l : List Rul) (s' : Pz) (q : Nat), v = .slice A k c ∧ Only g w wr ∧ Rd L wr g s' ∧ Gr 5 RulAt wr w.heap.size 51 A k c l ∧ k + s'.rest.length ≤ s.rest.length ∧ s'.rest.length ≤ q ∧ s'.met + s'.rest.length ≤ 5990 ∧ rulesR q l s' = z) (fun v wr => restN wr g)
  case atStart => exact ⟨0, none, 0, [], s, s.rest.length, rfl, Only.refl, HH.out, Gr.nil _ _ (Nat.le_refl _), by omega, Nat.le_refl _, HS.out, HZ.out.symm⟩
  case round =>
    obtain ⟨k, A, c, l, s', q, rfl, ho, hr, hg, hk, hq, hs, he⟩ := hrel
    have HOw := Lib.hid ho
    have HR0 := Lib.hid hr
    have HGr := Lib.hid hg
    have HK := Lib.hid hk
    have HQ := Lib.hid hq
    have HSM := Lib.hid hs
    have HG : Hid (g < wr.heap.size) := hr.lt
    have hq1 := hr.ok.pos
    obtain ⟨q, rfl⟩ : ∃ q', q = q' + 1 := ⟨q - 1, by omega⟩
    have HRN := Lib.hid hr.restN
    have HW : Hid (w.heap.size ≤ wr.heap.size) := ho.size
    by_cases hi : seesR [w_permit, w_deny] s' = 0
    · have HE := Lib.hid ((rulesR_stop hi).symm.trans he)
      have HI := Lib.hid hi
      clear ho hr hg hk hq hs he hi hq1
      go_wp2_with fail
      go_at_call 69
      refine (psees_lit HR0.out [w_permit, w_deny] #[.string ⟨#[112, 101, 114, 109, 105, 116]⟩, .string ⟨#[100, 101, 110, 121]⟩] 2 rfl rfl (by omega) rfl).mono ?_
      rintro x u1 ⟨hx, hb⟩
      obtain rfl : x = .returned (.int .i64 ((0 : Nat) : Int)) := by rw [hx, HI.out] <;> rfl
      have HB := Lib.hid hb
      clear hx hb
      go_wp2_with fail
      go_ret
      rw [← HE.out]
      exact ⟨A, k, c, rfl, HOw.out.then_ HB.out, HR0.out.then_ HB.out, Rus.keep ((Gr.below keeps_rul HGr.out HB.out).rw keeps_rul (by have := HL0.out; have := HK.out; omega)) (Kept.refl _ _) (fun _ h _ => h)⟩
    · obtain ⟨s1, e1⟩ : ∃ y, mostR ((k : Int) + 1) 16 (metR s') = y := ⟨_, rfl⟩
      obtain ⟨s2, e2⟩ : ∃ y, mostR (s1.met : Int) 64 s1 = y := ⟨_, rfl⟩
      obtain ⟨u, s3, e3⟩ : ∃ x y, ruleR s2 = (x, y) := ⟨_, _, rfl⟩
      have HE := Lib.hid ((rulesR_succ hi (by rw [hg.len]) e1 e2 e3).symm.trans he)
      obtain ⟨r1, r2, r3, r4, r5, r6⟩ := round_rule hr.ok hs hi ((k : Int) + 1)
      rw [e1, e2, e3] at r4 r5 r6
      rw [e1] at r3
      have HTL : Hid (s3.rest.length + 1 ≤ s'.rest.length ∧ s3.met = s'.met + 1) := ⟨r5, r6⟩
      have hk63 : k < 1000000 := by have := HL0.out; omega
      have hm63 : s'.met < 1000000 := by omega
      obtain ⟨b, oo, nn, cd, hob, _, _, _, _, _⟩ := hr.at_
      have HOB := Lib.hid hob
      have HI := Lib.hid (show 0 < seesR [w_permit, w_deny] s' by omega)
      have E1 := Lib.hid e1
      have E2 := Lib.hid e2
      have E3 := Lib.hid e3
      have HM3 := Lib.hid r3
      clear ho hr hg hk hq hs he hi hq1 e1 e2 e3 r1 r2 r3 r4 r5 r6 hob
      generalize hsv : seesR [w_permit, w_deny] s' = sv at *
      have HSV := Lib.hid hsv
      have hsv2 : decide ((0 : Int) < (sv : Int)) = true := decide_eq_true (by have := HI.out; omega)
      clear hsv
      go_wp2_with fail
      go_at_call 69
      refine (psees_lit HR0.out [w_permit, w_deny] #[.string ⟨#[112, 101, 114, 109, 105, 116]⟩, .string ⟨#[100, 101, 110, 121]⟩] 2 rfl rfl (by omega) rfl).mono ?_
      rintro x u1 ⟨hx, hb⟩
      obtain rfl : x = .returned (.int .i64 (sv : Int)) := by rw [hx, HSV.out] <;> rfl
      have HB := Lib.hid hb
      have HR1 := Lib.hid (HR0.out.then_ hb)
      have OB1 := Lib.hid (HOB.out.below hb HOB.out.lt)
      have G1 := Lib.hid (Gr.below keeps_rul HGr.out hb)
      have O1 := Lib.hid (HOw.out.then_ hb)
      have q1 := OB1.out.cell 1
      have qf := OB1.out.frozen 1
      have HR2 := Lib.hid (HR1.out.meets HSM.out)
      have O2 := Lib.hid (O1.out.at_g 1 (.int .i64 ((s'.met : Int) + 1)))
      have G2 := Lib.hid (Gr.only keeps_rul G1.out ((Only.refl (w := u1)).at_g (g := g) 1 (.int .i64 ((s'.met : Int) + 1))) HG0.out)
      clear hx hb
      go_wp2_with fail
      go_at_call 42
      refine (pmost_any HR2.out ((k : Int) + 1) 16).mono ?_
      rintro x u2 ⟨rfl, ho, hr⟩
      rw [E1.out] at hr
      have O3 := Lib.hid (O2.out.trans ho)
      have HR3 := Lib.hid hr
      have G3 := Lib.hid (Gr.only keeps_rul G2.out ho HG0.out)
      obtain ⟨b3, o3, n3, c3, hob3, _, _, _, _, _⟩ := hr.at_
      have q3 := hob3.cell 1
      have HW3 := O3.out.size
      clear ho hr hob3
      go_wp2_with fail
      go_at_call 42
      refine (pmost_any HR3.out (s1.met : Int) 64).mono ?_
      rintro x u3 ⟨rfl, ho, hr⟩
      rw [E2.out] at hr
      have O4 := Lib.hid (O3.out.trans ho)
      have HR4 := Lib.hid hr
      have G4 := Lib.hid (Gr.only keeps_rul G3.out ho HG0.out)
      clear ho hr
      go_wp2_with fail
      go_at_call 70
      refine (prule_any HR4.out).mono ?_
      rintro x u4 ⟨A1, n1, c1, A2, n2, c2, A3, n3', c3', rfl, ho, hr, ht, hn, hd, hid⟩
      rw [E3.out] at hr ht hn hd hid
      rw [E3.out]
      have hgr := Gr.only keeps_rul G4.out ho HG0.out
      have ap : ∀ b, u3.heap.size ≤ b → Nb w.heap.size (.slice A k c) b := fun b hb => G4.out.apart b hb
      obtain ⟨A5, c5, u5, r5, g5, b5⟩ := push_rule hgr hid (ht.keep (Kept.refl _ _) (fun b hb _ => ap b hb)) (hn.keep (Kept.refl _ _) (fun b hb _ => ap b hb)) (hd.keep (Kept.refl _ _) (fun b hb _ => ap b hb)) hk63
      have O5 := Lib.hid ((O4.out.trans ho).below_at b5)
      have HR5 := Lib.hid (hr.below b5 HG0.out)
      have R5 := Lib.hid r5
      have G5 := Lib.hid g5
      clear ho hr ht hn hd hid hgr ap r5 g5 b5
      go_wp2_with (at_builtin; refine wpList_append_run (o := ⟨some 30, _, _, _, _, _⟩) rfl _ _ _ _ rfl rfl rfl R5.out ?_)
      go_roundw
      case rel => exact ⟨k + 1, A5, c5, l ++ [u], s3, q, rfl, O5.out, HR5.out, G5.out, by have := HTL.out; have := HK.out; omega, by have := HTL.out; have := HQ.out; omega, by have := HTL.out; have := HSM.out; omega, HE.out⟩
      case measure => rw [HR5.out.restN, HRN.out]; have := HTL.out; omega
end
end Go.Proofs.Ytadjfkgnoklmiaa
/- The parser: policies. -/
namespace Go.Proofs.Ytadjfkgnoklmiaa
set_option linter.unusedVariables false
open Go.RowKit

theorem policy_ret {fn : Func} {t : Tmp} {tmps : Array Value} {w : World} {g : Nat} {cs : Array Value} (h : fn.results = #[.cell t 32]) (hp : tmps.getD t undef = .pointer (some ⟨g, 0, none⟩)) (hg : Ob w g 32 cs) (h3 : cs.size = 7) :
    (results fn tmps).run Try.prog w = .ok (.agg cs) w := results_cell_row h tmps w g _ _ (0, 0) _ hp hg Try.underlying32 rfl (by rw [h3]; kernel_rfl)
def PolOf (w w' : World) (f : Nat) (p : Pol) (x : Value) : Prop := ∃ A1 n1 c1 A2 n2 c2 A3 n3 c3 A4 n4 c4, x = .agg #[.string p.id, .bool p.set, .int .i64 p.alg, .slice A1 n1 c1, .slice A2 n2 c2, .slice A3 n3 c3, .slice A4 n4 c4] ∧
  PolAt w' (fun b => w.heap.size ≤ b) f [.string p.id, .bool p.set, .int .i64 p.alg, .slice A1 n1 c1, .slice A2 n2 c2, .slice A3 n3 c3, .slice A4 n4 c4] p
def POk (L g f : Nat) : Prop := ∀ (w : World) (s : Pz) (dd : Int), dd = 5 - (f : Int) → f ≤ 4 → Rd L w g s → s.met + s.rest.length ≤ 5990 →
  Calls Try.prog 24 #[.pointer (some ⟨g, 0, none⟩), .int .i64 dd] w fun x w' => ∃ y, x = .returned y ∧ Only g w w' ∧ Rd L w' g (polR (f + 1) s).2 ∧ PolOf w w' (f + 1) (polR (f + 1) s).1 y
theorem kidsR_stop {po : Pz → Pol × Pz} {n : Nat} {l : List Pol} {s : Pz} (h : seesR [w_policy, w_set] s = 0) : kidsR po (n + 1) l s = (l, s) := by
  unfold kidsR
  rw [if_pos h]
theorem kidsR_succ {po : Pz → Pol × Pz} {n : Nat} {l : List Pol} {s s1 s3 : Pz} {u : Pol} {m : Int} (h : seesR [w_policy, w_set] s ≠ 0) (hm : (l.length : Int) + 1 = m) (h1 : mostR m 16 s = s1) (h3 : po s1 = (u, s3)) : kidsR po (n + 1) l s = kidsR po n (l ++ [u]) s3 := by
  conv => lhs; unfold kidsR
  rw [if_neg h]
  simp only [hm, h1, h3]
section
variable {L g : Nat} {w : World} {s : Pz}
set_option maxHeartbeats 3200000 in
theorem pkids_any (h : Rd L w g s) (hsum : s.met + s.rest.length ≤ 5990) {f' : Nat} (hf : f' ≤ 3) (ih : POk L g f') (dd : Int) (hdd : dd = 5 - (f' : Int)) : Calls Try.prog 46 #[.pointer (some ⟨g, 0, none⟩), .int .i64 dd] w fun x w' => ∃ A n c, x = .returned (.slice A n c) ∧ Only g w w' ∧ Rd L w' g (kidsR (polR (f' + 1)) s.rest.length [] s).2 ∧ Pls w' (fun b => w.heap.size ≤ b) (f' + 1) A n c (kidsR (polR (f' + 1)) s.rest.length [] s).1 := by
  have HG0 : Hid (g < w.heap.size) := h.lt
  have HL0 : Hid (s.rest.length ≤ 5000) := h.ok.2.2.1.1
  have HH := Lib.hid h
  have HS := Lib.hid hsum
  have HIH : Hid (∀ (w : World) (s : Pz), Rd L w g s → s.met + s.rest.length ≤ 5990 →
      Calls Try.prog 24 #[.pointer (some ⟨g, 0, none⟩), .int .i64 dd] w fun x w' => ∃ y, x = .returned y ∧ Only g w w' ∧ Rd L w' g (polR (f' + 1) s).2 ∧ PolOf w w' (f' + 1) (polR (f' + 1) s).1 y) := fun w s h hs => ih w s dd hdd (by omega) h hs
  obtain ⟨z, hz⟩ : ∃ z, z = kidsR (polR (f' + 1)) s.rest.length [] s := ⟨_, rfl⟩
  have HZ : Hid (z = kidsR (polR (f' + 1)) s.rest.length [] s) := hz
  rw [← hz]
  have HPG := Lib.hid (pol_go (L := L) f')
  clear h hz hsum ih hdd
  go_enter Try.func46, Try.ntmps46
  go_wp2
  go_loopw [5] (fun v wr => ∃ (k : Nat) (A : Option Addr) (c : Nat) (l : List Pol) (s' : Pz) (q : Nat), v = .slice A k c ∧ Only g w wr ∧ Rd L wr g s' ∧ Gr 7 (fun w R => PolAt w R (f' + 1)) wr w.heap.size 32 A k c l ∧ k + s'.rest.length ≤ s.rest.length ∧ s'.rest.length ≤ q ∧ s'.met + s'.rest.length ≤ 5990 ∧ kidsR (polR (f' + 1)) q l s' = z) (fun v wr => restN wr g)
  case atStart => exact ⟨0, none, 0, [], s, s.rest.length, rfl, Only.refl, HH.out, Gr.nil _ _ (Nat.le_refl _), by omega, Nat.le_refl _, HS.out, HZ.out.symm⟩
  case round =>
    obtain ⟨k, A, c, l, s', q, rfl, ho, hr, hg, hk, hq, hs, he⟩ := hrel
    have HOw := Lib.hid ho
    have HR0 := Lib.hid hr
    have HGr := Lib.hid hg
    have HK := Lib.hid hk
    have HQ := Lib.hid hq
    have HSM := Lib.hid hs
    have hq1 := hr.ok.pos
    obtain ⟨q, rfl⟩ : ∃ q', q = q' + 1 := ⟨q - 1, by omega⟩
    have HRN := Lib.hid hr.restN
    by_cases hi : seesR [w_policy, w_set] s' = 0
    · have HE := Lib.hid ((kidsR_stop hi).symm.trans he)
      have HI := Lib.hid hi
      clear ho hr hg hk hq hs he hi hq1
      go_wp2_with fail
      go_at_call 69
      refine (psees_lit HR0.out [w_policy, w_set] #[.string ⟨#[112, 111, 108, 105, 99, 121]⟩, .string ⟨#[115, 101, 116]⟩] 2 rfl rfl (by omega) rfl).mono ?_
      rintro x u1 ⟨hx, hb⟩
      obtain rfl : x = .returned (.int .i64 ((0 : Nat) : Int)) := by rw [hx, HI.out] <;> rfl
      have HB := Lib.hid hb
      clear hx hb
      go_wp2_with fail
      go_ret
      rw [← HE.out]
      exact ⟨A, k, c, rfl, HOw.out.then_ HB.out, HR0.out.then_ HB.out, Pls.keep ((Gr.below (keeps_pol (f' + 1)) HGr.out HB.out).rw (keeps_pol (f' + 1)) (by have := HL0.out; have := HK.out; omega)) (Kept.refl _ _) (fun _ h _ => h)⟩
    · obtain ⟨s1, e1⟩ : ∃ y, mostR ((k : Int) + 1) 16 s' = y := ⟨_, rfl⟩
      obtain ⟨u, s3, e3⟩ : ∃ x y, polR (f' + 1) s1 = (x, y) := ⟨_, _, rfl⟩
      have HE := Lib.hid ((kidsR_succ hi (by rw [hg.len]) e1 e3).symm.trans he)
      obtain ⟨r4, r5, r6⟩ := round_kid HPG.out hr.ok hs hi ((k : Int) + 1)
      have r7 := most_sum hr.ok ((k : Int) + 1) 16
      rw [e1] at r7
      rw [e1, e3] at r4 r5 r6
      have HTL : Hid (s3.rest.length + 1 ≤ s'.rest.length ∧ s3.met + s3.rest.length ≤ s'.met + s'.rest.length ∧ s1.met + s1.rest.length ≤ 5990) := ⟨r5, r6, by omega⟩
      have hk63 : k < 1000000 := by have := HL0.out; omega
      have HI := Lib.hid (show 0 < seesR [w_policy, w_set] s' by omega)
      have E1 := Lib.hid e1
      have E3 := Lib.hid e3
      clear ho hr hg hk hq hs he hi hq1 e1 e3 r4 r5 r6 r7
      generalize hsv : seesR [w_policy, w_set] s' = sv at *
      have HSV := Lib.hid hsv
      have hsv2 : decide ((0 : Int) < (sv : Int)) = true := decide_eq_true (by have := HI.out; omega)
      clear hsv
      go_wp2_with fail
      go_at_call 69
      refine (psees_lit HR0.out [w_policy, w_set] #[.string ⟨#[112, 111, 108, 105, 99, 121]⟩, .string ⟨#[115, 101, 116]⟩] 2 rfl rfl (by omega) rfl).mono ?_
      rintro x u1 ⟨hx, hb⟩
      obtain rfl : x = .returned (.int .i64 (sv : Int)) := by rw [hx, HSV.out] <;> rfl
      have HR1 := Lib.hid (HR0.out.then_ hb)
      have G1 := Lib.hid (Gr.below (keeps_pol (f' + 1)) HGr.out hb)
      have O1 := Lib.hid (HOw.out.then_ hb)
      clear hx hb
      go_wp2_with fail
      go_at_call 42
      refine (pmost_any HR1.out ((k : Int) + 1) 16).mono ?_
      rintro x u2 ⟨rfl, ho, hr⟩
      rw [E1.out] at hr
      have O3 := Lib.hid (O1.out.trans ho)
      have HR3 := Lib.hid hr
      have G3 := Lib.hid (Gr.only (keeps_pol (f' + 1)) G1.out ho HG0.out)
      clear ho hr
      go_wp2_with fail
      go_at_call 24
      refine (HIH.out _ s1 HR3.out HTL.out.2.2).mono ?_
      rintro x u4 ⟨y, rfl, ho, hr, A1, n1, c1, A2, n2, c2, A3, n3, c3, A4, n4, c4, rfl, hp⟩
      rw [E3.out] at hr hp
      rw [E3.out]
      have hgr := Gr.only (keeps_pol (f' + 1)) G3.out ho HG0.out
      have ap : ∀ b, u2.heap.size ≤ b → Nb w.heap.size (.slice A k c) b := fun b hb => G3.out.apart b hb
      obtain ⟨A5, c5, u5, r5, g5, b5⟩ := push_pol hgr (PolAt.keep (Kept.refl _ _) (fun b hb _ => ap b hb) hp) hk63
      have O5 := Lib.hid ((O3.out.trans ho).below_at b5)
      have HR5 := Lib.hid (hr.below b5 HG0.out)
      have R5 := Lib.hid r5
      have G5 := Lib.hid g5
      clear ho hr hp hgr ap r5 g5 b5
      go_wp2_with (at_builtin; refine wpList_append_run (o := ⟨some 20, _, _, _, _, _⟩) rfl _ _ _ _ rfl rfl rfl R5.out ?_)
      go_roundw
      case rel => exact ⟨k + 1, A5, c5, l ++ [u], s3, q, rfl, O5.out, HR5.out, G5.out, by have := HTL.out; have := HK.out; omega, by have := HTL.out; have := HQ.out; omega, by have := HTL.out; have := HSM.out; omega, HE.out⟩
      case measure => rw [HR5.out.restN, HRN.out]; have := HTL.out; omega
theorem mustR_in (ws : List ByteArray) (s : Pz) (h : ws.length ≤ 100) : InI ((mustR ws s).1 : Int) := by
  have := mustR_le ws s
  exact in_small (by omega) (by omega)
set_option maxHeartbeats 6400000 in
theorem pol_read (f : Nat) (ih : ∀ f', f = f' + 1 → POk L g f') : POk L g f := by
  intro w s dd hdd hf4 h hsum
  obtain ⟨s0, e0⟩ : ∃ y, mostR (5 - (f : Int)) 4 s = y := ⟨_, rfl⟩
  obtain ⟨i, s1, e1⟩ : ∃ x y, mustR [w_policy, w_set] s0 = (x, y) := ⟨_, _, rfl⟩
  obtain ⟨nm, s2, e2⟩ : ∃ x y, nameR s1 = (x, y) := ⟨_, _, rfl⟩
  obtain ⟨al, s3, e3⟩ : ∃ x y, mustR w_algs s2 = (x, y) := ⟨_, _, rfl⟩
  obtain ⟨tt, s4, e4⟩ : ∃ x y, targetR s3 = (x, y) := ⟨_, _, rfl⟩
  obtain ⟨j5, s5, e5⟩ : ∃ x y, mustR [m_lb] s4 = (x, y) := ⟨_, _, rfl⟩
  obtain ⟨rr, kk, s6, e6⟩ : ∃ x y z, inR f i s5 = (x, y, z) := ⟨_, _, _, rfl⟩
  obtain ⟨j7, s7, e7⟩ : ∃ x y, mustR [m_rb] s6 = (x, y) := ⟨_, _, rfl⟩
  obtain ⟨oo, s8, e8⟩ : ∃ x y, dutsR s7 = (x, y) := ⟨_, _, rfl⟩
  have G0 : Go2 L s s0 := .of (e0 ▸ most_go h.ok _ _) (e0 ▸ mostR_met _ _ _)
  have k0 := G0.1.1
  have G1 : Go2 L s0 s1 := .of (by have := must_go k0 [w_policy, w_set]; rwa [e1] at this) (by have := mustR_met [w_policy, w_set] s0; rwa [e1] at this)
  have k1 := G1.1.1
  have G2 : Go2 L s1 s2 := .of (by have := name_go k1; rwa [e2] at this) (by have := nameR_met s1; rwa [e2] at this)
  have k2 := G2.1.1
  have G3 : Go2 L s2 s3 := .of (by have := must_go k2 w_algs; rwa [e3] at this) (by have := mustR_met w_algs s2; rwa [e3] at this)
  have k3 := G3.1.1
  have G4 : Go2 L s3 s4 := .of (by have := target_go k3; rwa [e4] at this) (by have := targetR_met s3; rwa [e4] at this)
  have k4 := G4.1.1
  have G5 : Go2 L s4 s5 := .of (by have := must_go k4 [m_lb]; rwa [e5] at this) (by have := mustR_met [m_lb] s4; rwa [e5] at this)
  have HSM : Hid (s5.met + s5.rest.length ≤ 5990) := by show _ ≤ _; have := G0.2; have := G1.2; have := G2.2; have := G3.2; have := G4.2; have := G5.2; omega
  have HNM : Hid (nm.size ≤ maxLen) := by have := nameR_size k1; rw [e2] at this; exact this
  have HAL : Hid (InI (al : Int)) := by have := mustR_in w_algs s2 (by decide); rw [e3] at this; exact this
  have HI0 : f = 0 → i ≠ 2 := by
    rintro rfl hi
    have h5 : s0.rest.length = 1 := by
      rw [← e0]
      unfold mostR
      rw [if_pos (by omega)]
      exact failR_len _ _ h.ok
    have := must_one k0 h5 [w_policy, w_set]
    rw [e1] at this
    simp only at this
    omega
  have hq := eq2 i
  rw [polR_eq f s e0 e1 e2 e3 e4 e5 e6 e7 e8]
  clear G0 G1 G2 G3 G4 G5 k0 k1 k2 k3 k4
  by_cases hi : i = 2
  · obtain ⟨f', rfl⟩ : ∃ f', f = f' + 1 := ⟨f - 1, by have : f ≠ 0 := fun e => HI0 e hi; omega⟩
    have HIH := Lib.hid (ih f' rfl)
    have HIN : Hid (rr = [] ∧ kk = (kidsR (polR (f' + 1)) s5.rest.length [] s5).1 ∧ s6 = (kidsR (polR (f' + 1)) s5.rest.length [] s5).2) := by
      show _ ∧ _ ∧ _
      unfold inR at e6
      rw [if_pos hi] at e6
      injection e6 with x1 x2
      exact ⟨x1.symm, by rw [x2], by rw [x2]⟩
    subst hi
    have hd1 : -100 ≤ dd := by omega
    have hd2 : dd ≤ 100 := by omega
    have HD : Hid (dd + 1 = 5 - (f' : Int) ∧ f' ≤ 3) := ⟨by omega, by omega⟩
    have hq : ((2 : Int) == 2) = true := rfl
    have E0 : Hid (mostR dd 4 s = s0) := by rw [hdd]; exact Lib.hid e0
    have E1 := Lib.hid e1
    have E2 := Lib.hid e2
    have E3 := Lib.hid e3
    have E4 := Lib.hid e4
    have E5 := Lib.hid e5
    have E7 := Lib.hid e7
    have E8 := Lib.hid e8
    have HG : Hid (g < w.heap.size) := h.lt
    have HBr_1 : Hid (Ob (w.alloc (.cells #[.string ⟨#[]⟩, .bool false, .int .i64 0, .slice none 0 0, .slice none 0 0, .slice none 0 0, .slice none 0 0] 32)) (w.heap.size) 32 #[.string ⟨#[]⟩, .bool false, .int .i64 0, .slice none 0 0, .slice none 0 0, .slice none 0 0, .slice none 0 0]) := Lib.hid (by have := Ob.made w 32 #[.string ⟨#[]⟩, .bool false, .int .i64 0, .slice none 0 0, .slice none 0 0, .slice none 0 0, .slice none 0 0]; simpa using this)
    have HBr_2 := Lib.hid (HBr_1.out.keep (Below.heap_alloc (w.alloc (.cells #[.string ⟨#[]⟩, .bool false, .int .i64 0, .slice none 0 0, .slice none 0 0, .slice none 0 0, .slice none 0 0] 32)) (.cells #[.string ⟨#[]⟩, .bool false, .int .i64 0, .slice none 0 0, .slice none 0 0, .slice none 0 0, .slice none 0 0] 32) _ HBr_1.out.lt))
    have HBp_2 : Hid (Ob ((w.alloc (.cells #[.string ⟨#[]⟩, .bool false, .int .i64 0, .slice none 0 0, .slice none 0 0, .slice none 0 0, .slice none 0 0] 32)).alloc (.cells #[.string ⟨#[]⟩, .bool false, .int .i64 0, .slice none 0 0, .slice none 0 0, .slice none 0 0, .slice none 0 0] 32)) (w.heap.size + 1) 32 #[.string ⟨#[]⟩, .bool false, .int .i64 0, .slice none 0 0, .slice none 0 0, .slice none 0 0, .slice none 0 0]) := Lib.hid (by have := Ob.made (w.alloc (.cells #[.string ⟨#[]⟩, .bool false, .int .i64 0, .slice none 0 0, .slice none 0 0, .slice none 0 0, .slice none 0 0] 32)) 32 #[.string ⟨#[]⟩, .bool false, .int .i64 0, .slice none 0 0, .slice none 0 0, .slice none 0 0, .slice none 0 0]; simpa using this)
    have HR0 := Lib.hid ((h.alloc (.cells #[.string ⟨#[]⟩, .bool false, .int .i64 0, .slice none 0 0, .slice none 0 0, .slice none 0 0, .slice none 0 0] 32)).alloc (.cells #[.string ⟨#[]⟩, .bool false, .int .i64 0, .slice none 0 0, .slice none 0 0, .slice none 0 0, .slice none 0 0] 32))
    have HO0 := Lib.hid (((Only.refl (r := g) (w := w)).al (.cells #[.string ⟨#[]⟩, .bool false, .int .i64 0, .slice none 0 0, .slice none 0 0, .slice none 0 0, .slice none 0 0] 32)).al (.cells #[.string ⟨#[]⟩, .bool false, .int .i64 0, .slice none 0 0, .slice none 0 0, .slice none 0 0, .slice none 0 0] 32))
    clear h hsum e0 e1 e2 e3 e4 e5 e6 e7 e8 ih HI0 hf4 hdd
    go_enter Try.func24, Try.ntmps24
    go_wp2_with fail
    go_at_call 42
    refine (pmost_any HR0.out dd 4).mono ?_
    rintro x u3 ⟨rfl, ho, hr⟩
    rw [E0.out] at hr
    have HO3 := Lib.hid (HO0.out.trans ho)
    have HR3 := Lib.hid hr
    have HBr_3 := Lib.hid (HBr_2.out.keep (ho.heap HBr_2.out.lt (by have := HG.out; omega)))
    have HBp_3 := Lib.hid (HBp_2.out.keep (ho.heap HBp_2.out.lt (by have := HG.out; omega)))
    clear ho hr
    go_wp2_with fail
    go_at_call 43
    refine (pmust_lit HR3.out [w_policy, w_set] #[.string ⟨#[112, 111, 108, 105, 99, 121]⟩, .string ⟨#[115, 101, 116]⟩] 2 rfl rfl (by omega) (by first | rfl | (simp; done) | (simp [World.setCell]; done))).mono ?_
    rintro x u4 ⟨hx, ho, hr⟩
    obtain rfl : x = .returned (.int .i64 ((2 : Nat) : Int)) := by rw [hx, E1.out] <;> rfl
    rw [E1.out] at hr
    clear hx
    have HO4 := Lib.hid (HO3.out.trans ho)
    have HR4 := Lib.hid hr
    have HBr_4 := Lib.hid (HBr_3.out.keep (ho.heap HBr_3.out.lt (by have := HG.out; omega)))
    have HBp_4 := Lib.hid (HBp_3.out.keep (ho.heap HBp_3.out.lt (by have := HG.out; omega)))
    clear ho hr
    have c5 := HBp_4.out.cell 1
    have f5 := HBp_4.out.frozen 1
    have HO5 := Lib.hid (HO4.out.new (r := w.heap.size + 1) (by have := HG.out; omega) 1 (.bool true))
    have HR5 := Lib.hid (HR4.out.set (r := w.heap.size + 1) (by have := HG.out; omega) 1 (.bool true))
    have HBr_5 := Lib.hid (HBr_4.out.keep (Below.heap_setCell u4 ⟨w.heap.size + 1, 1, none⟩ (.bool true) _ (by show w.heap.size ≠ w.heap.size + 1; have := HG.out; omega)))
    have HBp_5 : Hid (Ob (u4.setCell ⟨w.heap.size + 1, 1, none⟩ (.bool true)) (w.heap.size + 1) 32 #[.string ⟨#[]⟩, .bool true, .int .i64 0, .slice none 0 0, .slice none 0 0, .slice none 0 0, .slice none 0 0]) := Lib.hid (by have := HBp_4.out.put 1 (.bool true); simpa using this)
    go_wp2_with fail
    go_at_call 44
    refine (pname_any HR5.out).mono ?_
    rintro x u6 ⟨hx, ho, hr⟩
    obtain rfl : x = .returned (.string nm) := by rw [hx, E2.out] <;> rfl
    rw [E2.out] at hr
    clear hx
    have HO6 := Lib.hid (HO5.out.trans ho)
    have HR6 := Lib.hid hr
    have HBr_6 := Lib.hid (HBr_5.out.keep (ho.heap HBr_5.out.lt (by have := HG.out; omega)))
    have HBp_6 := Lib.hid (HBp_5.out.keep (ho.heap HBp_5.out.lt (by have := HG.out; omega)))
    clear ho hr
    have c7 := HBp_6.out.cell 0
    have f7 := HBp_6.out.frozen 0
    have HO7 := Lib.hid (HO6.out.new (r := w.heap.size + 1) (by have := HG.out; omega) 0 (.string nm))
    have HR7 := Lib.hid (HR6.out.set (r := w.heap.size + 1) (by have := HG.out; omega) 0 (.string nm))
    have HBr_7 := Lib.hid (HBr_6.out.keep (Below.heap_setCell u6 ⟨w.heap.size + 1, 0, none⟩ (.string nm) _ (by show w.heap.size ≠ w.heap.size + 1; have := HG.out; omega)))
    have HBp_7 : Hid (Ob (u6.setCell ⟨w.heap.size + 1, 0, none⟩ (.string nm)) (w.heap.size + 1) 32 #[.string nm, .bool true, .int .i64 0, .slice none 0 0, .slice none 0 0, .slice none 0 0, .slice none 0 0]) := Lib.hid (by have := HBp_6.out.put 0 (.string nm); simpa using this)
    go_wp2_with fail
    go_at_call 43
    refine (pmust_lit HR7.out [w_denyover, w_permitover, w_first, w_only, w_denyunless, w_permitunless] #[.string ⟨#[100, 101, 110, 121, 111, 118, 101, 114]⟩, .string ⟨#[112, 101, 114, 109, 105, 116, 111, 118, 101, 114]⟩, .string ⟨#[102, 105, 114, 115, 116]⟩, .string ⟨#[111, 110, 108, 121]⟩, .string ⟨#[100, 101, 110, 121, 117, 110, 108, 101, 115, 115]⟩, .string ⟨#[112, 101, 114, 109, 105, 116, 117, 110, 108, 101, 115, 115]⟩] 6 rfl rfl (by omega) (by first | rfl | (simp; done) | (simp [World.setCell]; done))).mono ?_
    rintro x u8 ⟨hx, ho, hr⟩
    obtain rfl : x = .returned (.int .i64 (al : Int)) := by rw [hx, E3.out] <;> rfl
    rw [E3.out] at hr
    clear hx
    have HO8 := Lib.hid (HO7.out.trans ho)
    have HR8 := Lib.hid hr
    have HBr_8 := Lib.hid (HBr_7.out.keep (ho.heap HBr_7.out.lt (by have := HG.out; omega)))
    have HBp_8 := Lib.hid (HBp_7.out.keep (ho.heap HBp_7.out.lt (by have := HG.out; omega)))
    clear ho hr
    have c9 := HBp_8.out.cell 2
    have f9 := HBp_8.out.frozen 2
    have HO9 := Lib.hid (HO8.out.new (r := w.heap.size + 1) (by have := HG.out; omega) 2 (.int .i64 (al : Int)))
    have HR9 := Lib.hid (HR8.out.set (r := w.heap.size + 1) (by have := HG.out; omega) 2 (.int .i64 (al : Int)))
    have HBr_9 := Lib.hid (HBr_8.out.keep (Below.heap_setCell u8 ⟨w.heap.size + 1, 2, none⟩ (.int .i64 (al : Int)) _ (by show w.heap.size ≠ w.heap.size + 1; have := HG.out; omega)))
    have HBp_9 : Hid (Ob (u8.setCell ⟨w.heap.size + 1, 2, none⟩ (.int .i64 (al : Int))) (w.heap.size + 1) 32 #[.string nm, .bool true, .int .i64 (al : Int), .slice none 0 0, .slice none 0 0, .slice none 0 0, .slice none 0 0]) := Lib.hid (by have := HBp_8.out.put 2 (.int .i64 (al : Int)); simpa using this)
    go_wp2_with fail
    go_at_call 45
    refine (ptarget_any HR9.out).mono ?_
    rintro x u10 ⟨A1, n1, c1, rfl, ho, hr, ht1⟩
    rw [E4.out] at hr ht1
    have HO10 := Lib.hid (HO9.out.trans ho)
    have HR10 := Lib.hid hr
    have HBr_10 := Lib.hid (HBr_9.out.keep (ho.heap HBr_9.out.lt (by have := HG.out; omega)))
    have HBp_10 := Lib.hid (HBp_9.out.keep (ho.heap HBp_9.out.lt (by have := HG.out; omega)))
    have HTt1_10 := Lib.hid (ht1.keep (Kept.refl _ _) (R' := fun b => w.heap.size + 2 ≤ b) (fun b hb _ => by have hb : ((u8.setCell ⟨w.heap.size + 1, 2, none⟩ (.int .i64 (al : Int)))).heap.size ≤ b := hb; have := HBp_9.out.lt; show w.heap.size + 2 ≤ b; omega))
    clear ho hr ht1
    have c11 := HBp_10.out.cell 3
    have f11 := HBp_10.out.frozen 3
    have HO11 := Lib.hid (HO10.out.new (r := w.heap.size + 1) (by have := HG.out; omega) 3 (.slice A1 n1 c1))
    have HR11 := Lib.hid (HR10.out.set (r := w.heap.size + 1) (by have := HG.out; omega) 3 (.slice A1 n1 c1))
    have HBr_11 := Lib.hid (HBr_10.out.keep (Below.heap_setCell u10 ⟨w.heap.size + 1, 3, none⟩ (.slice A1 n1 c1) _ (by show w.heap.size ≠ w.heap.size + 1; have := HG.out; omega)))
    have HBp_11 : Hid (Ob (u10.setCell ⟨w.heap.size + 1, 3, none⟩ (.slice A1 n1 c1)) (w.heap.size + 1) 32 #[.string nm, .bool true, .int .i64 (al : Int), .slice A1 n1 c1, .slice none 0 0, .slice none 0 0, .slice none 0 0]) := Lib.hid (by have := HBp_10.out.put 3 (.slice A1 n1 c1); simpa using this)
    have HTt1_11 := Lib.hid (HTt1_10.out.keep (Only.kept9 ((Only.refl (r := w.heap.size + 1) (w := u10)).setCell (p := ⟨w.heap.size + 1, 3, none⟩) rfl (.slice A1 n1 c1)) (fun b hb => by have hb : w.heap.size + 2 ≤ b := hb; show b ≠ w.heap.size + 1; omega)) (fun _ h _ => h))
    go_wp2_with fail
    go_at_call 43
    refine (pmust_lit HR11.out [m_lb] #[.string ⟨#[123]⟩] 1 rfl rfl (by omega) (by first | rfl | (simp; done) | (simp [World.setCell]; done))).mono ?_
    rintro x u12 ⟨rfl, ho, hr⟩
    rw [E5.out] at hr
    have HO12 := Lib.hid (HO11.out.trans ho)
    have HR12 := Lib.hid hr
    have HBr_12 := Lib.hid (HBr_11.out.keep (ho.heap HBr_11.out.lt (by have := HG.out; omega)))
    have HBp_12 := Lib.hid (HBp_11.out.keep (ho.heap HBp_11.out.lt (by have := HG.out; omega)))
    have HTt1_12 := Lib.hid (HTt1_11.out.keep (ho.kept9 (fun b hb => by have := HG.out; have hb : w.heap.size + 2 ≤ b := hb; show b ≠ g; omega)) (fun _ h _ => h))
    clear ho hr
    have c13_1 := HBp_12.out.cell 1
    go_wp2_with fail
    go_at_call 46
    refine (pkids_any HR12.out HSM.out HD.out.2 HIH.out (dd + 1) HD.out.1).mono ?_
    rintro x u14 ⟨A3, n3, c3, rfl, ho, hr, ht3⟩
    rw [← HIN.out.2.2] at hr
    rw [← HIN.out.2.1] at ht3
    have HO14 := Lib.hid (HO12.out.trans ho)
    have HR14 := Lib.hid hr
    have HBr_14 := Lib.hid (HBr_12.out.keep (ho.heap HBr_12.out.lt (by have := HG.out; omega)))
    have HBp_14 := Lib.hid (HBp_12.out.keep (ho.heap HBp_12.out.lt (by have := HG.out; omega)))
    have HTt1_14 := Lib.hid (HTt1_12.out.keep (ho.kept9 (fun b hb => by have := HG.out; have hb : w.heap.size + 2 ≤ b := hb; show b ≠ g; omega)) (fun _ h _ => h))
    have HTt3_14 := Lib.hid (ht3.keep (Kept.refl _ _) (R' := fun b => w.heap.size + 2 ≤ b) (fun b hb _ => by have hb : (u12).heap.size ≤ b := hb; have := HBp_12.out.lt; show w.heap.size + 2 ≤ b; omega))
    clear ho hr ht3
    have c15 := HBp_14.out.cell 5
    have f15 := HBp_14.out.frozen 5
    have HO15 := Lib.hid (HO14.out.new (r := w.heap.size + 1) (by have := HG.out; omega) 5 (.slice A3 n3 c3))
    have HR15 := Lib.hid (HR14.out.set (r := w.heap.size + 1) (by have := HG.out; omega) 5 (.slice A3 n3 c3))
    have HBr_15 := Lib.hid (HBr_14.out.keep (Below.heap_setCell u14 ⟨w.heap.size + 1, 5, none⟩ (.slice A3 n3 c3) _ (by show w.heap.size ≠ w.heap.size + 1; have := HG.out; omega)))
    have HBp_15 : Hid (Ob (u14.setCell ⟨w.heap.size + 1, 5, none⟩ (.slice A3 n3 c3)) (w.heap.size + 1) 32 #[.string nm, .bool true, .int .i64 (al : Int), .slice A1 n1 c1, .slice none 0 0, .slice A3 n3 c3, .slice none 0 0]) := Lib.hid (by have := HBp_14.out.put 5 (.slice A3 n3 c3); simpa using this)
    have HTt1_15 := Lib.hid (HTt1_14.out.keep (Only.kept9 ((Only.refl (r := w.heap.size + 1) (w := u14)).setCell (p := ⟨w.heap.size + 1, 5, none⟩) rfl (.slice A3 n3 c3)) (fun b hb => by have hb : w.heap.size + 2 ≤ b := hb; show b ≠ w.heap.size + 1; omega)) (fun _ h _ => h))
    have HTt3_15 := Lib.hid (HTt3_14.out.keep (Only.kept9 ((Only.refl (r := w.heap.size + 1) (w := u14)).setCell (p := ⟨w.heap.size + 1, 5, none⟩) rfl (.slice A3 n3 c3)) (fun b hb => by have hb : w.heap.size + 2 ≤ b := hb; show b ≠ w.heap.size + 1; omega)) (fun _ h _ => h))
    go_wp2_with fail
    go_at_call 43
    refine (pmust_lit HR15.out [m_rb] #[.string ⟨#[125]⟩] 1 rfl rfl (by omega) (by first | rfl | (simp; done) | (simp [World.setCell]; done))).mono ?_
    rintro x u16 ⟨rfl, ho, hr⟩
    rw [E7.out] at hr
    have HO16 := Lib.hid (HO15.out.trans ho)
    have HR16 := Lib.hid hr
    have HBr_16 := Lib.hid (HBr_15.out.keep (ho.heap HBr_15.out.lt (by have := HG.out; omega)))
    have HBp_16 := Lib.hid (HBp_15.out.keep (ho.heap HBp_15.out.lt (by have := HG.out; omega)))
    have HTt1_16 := Lib.hid (HTt1_15.out.keep (ho.kept9 (fun b hb => by have := HG.out; have hb : w.heap.size + 2 ≤ b := hb; show b ≠ g; omega)) (fun _ h _ => h))
    have HTt3_16 := Lib.hid (HTt3_15.out.keep (ho.kept9 (fun b hb => by have := HG.out; have hb : w.heap.size + 2 ≤ b := hb; show b ≠ g; omega)) (fun _ h _ => h))
    clear ho hr
    go_wp2_with fail
    go_at_call 48
    refine (pduts_any HR16.out).mono ?_
    rintro x u17 ⟨A4, n4, c4, rfl, ho, hr, ht4⟩
    rw [E8.out] at hr ht4
    have HO17 := Lib.hid (HO16.out.trans ho)
    have HR17 := Lib.hid hr
    have HBr_17 := Lib.hid (HBr_16.out.keep (ho.heap HBr_16.out.lt (by have := HG.out; omega)))
    have HBp_17 := Lib.hid (HBp_16.out.keep (ho.heap HBp_16.out.lt (by have := HG.out; omega)))
    have HTt1_17 := Lib.hid (HTt1_16.out.keep (ho.kept9 (fun b hb => by have := HG.out; have hb : w.heap.size + 2 ≤ b := hb; show b ≠ g; omega)) (fun _ h _ => h))
    have HTt3_17 := Lib.hid (HTt3_16.out.keep (ho.kept9 (fun b hb => by have := HG.out; have hb : w.heap.size + 2 ≤ b := hb; show b ≠ g; omega)) (fun _ h _ => h))
    have HTt4_17 := Lib.hid (ht4.keep (Kept.refl _ _) (R' := fun b => w.heap.size + 2 ≤ b) (fun b hb _ => by have hb : (u16).heap.size ≤ b := hb; have := HBp_16.out.lt; show w.heap.size + 2 ≤ b; omega))
    clear ho hr ht4
    have c18 := HBp_17.out.cell 6
    have f18 := HBp_17.out.frozen 6
    have HO18 := Lib.hid (HO17.out.new (r := w.heap.size + 1) (by have := HG.out; omega) 6 (.slice A4 n4 c4))
    have HR18 := Lib.hid (HR17.out.set (r := w.heap.size + 1) (by have := HG.out; omega) 6 (.slice A4 n4 c4))
    have HBr_18 := Lib.hid (HBr_17.out.keep (Below.heap_setCell u17 ⟨w.heap.size + 1, 6, none⟩ (.slice A4 n4 c4) _ (by show w.heap.size ≠ w.heap.size + 1; have := HG.out; omega)))
    have HBp_18 : Hid (Ob (u17.setCell ⟨w.heap.size + 1, 6, none⟩ (.slice A4 n4 c4)) (w.heap.size + 1) 32 #[.string nm, .bool true, .int .i64 (al : Int), .slice A1 n1 c1, .slice none 0 0, .slice A3 n3 c3, .slice A4 n4 c4]) := Lib.hid (by have := HBp_17.out.put 6 (.slice A4 n4 c4); simpa using this)
    have HTt1_18 := Lib.hid (HTt1_17.out.keep (Only.kept9 ((Only.refl (r := w.heap.size + 1) (w := u17)).setCell (p := ⟨w.heap.size + 1, 6, none⟩) rfl (.slice A4 n4 c4)) (fun b hb => by have hb : w.heap.size + 2 ≤ b := hb; show b ≠ w.heap.size + 1; omega)) (fun _ h _ => h))
    have HTt3_18 := Lib.hid (HTt3_17.out.keep (Only.kept9 ((Only.refl (r := w.heap.size + 1) (w := u17)).setCell (p := ⟨w.heap.size + 1, 6, none⟩) rfl (.slice A4 n4 c4)) (fun b hb => by have hb : w.heap.size + 2 ≤ b := hb; show b ≠ w.heap.size + 1; omega)) (fun _ h _ => h))
    have HTt4_18 := Lib.hid (HTt4_17.out.keep (Only.kept9 ((Only.refl (r := w.heap.size + 1) (w := u17)).setCell (p := ⟨w.heap.size + 1, 6, none⟩) rfl (.slice A4 n4 c4)) (fun b hb => by have hb : w.heap.size + 2 ≤ b := hb; show b ≠ w.heap.size + 1; omega)) (fun _ h _ => h))
    have c19_0 := HBp_18.out.cell 0
    have c19_1 := HBp_18.out.cell 1
    have c19_2 := HBp_18.out.cell 2
    have c19_3 := HBp_18.out.cell 3
    have c19_4 := HBp_18.out.cell 4
    have c19_5 := HBp_18.out.cell 5
    have c19_6 := HBp_18.out.cell 6
    have c20 := HBr_18.out.cell 0
    have f20 := HBr_18.out.frozen 0
    have HO20 := Lib.hid (HO18.out.new (r := w.heap.size) (by have := HG.out; omega) 0 (.string nm))
    have HR20 := Lib.hid (HR18.out.set (r := w.heap.size) (by have := HG.out; omega) 0 (.string nm))
    have HBr_20 : Hid (Ob ((u17.setCell ⟨w.heap.size + 1, 6, none⟩ (.slice A4 n4 c4)).setCell ⟨w.heap.size, 0, none⟩ (.string nm)) (w.heap.size) 32 #[.string nm, .bool false, .int .i64 0, .slice none 0 0, .slice none 0 0, .slice none 0 0, .slice none 0 0]) := Lib.hid (by have := HBr_18.out.put 0 (.string nm); simpa using this)
    have HBp_20 := Lib.hid (HBp_18.out.keep (Below.heap_setCell (u17.setCell ⟨w.heap.size + 1, 6, none⟩ (.slice A4 n4 c4)) ⟨w.heap.size, 0, none⟩ (.string nm) _ (by show w.heap.size + 1 ≠ w.heap.size; have := HG.out; omega)))
    have HTt1_20 := Lib.hid (HTt1_18.out.keep (Only.kept9 ((Only.refl (r := w.heap.size) (w := (u17.setCell ⟨w.heap.size + 1, 6, none⟩ (.slice A4 n4 c4)))).setCell (p := ⟨w.heap.size, 0, none⟩) rfl (.string nm)) (fun b hb => by have hb : w.heap.size + 2 ≤ b := hb; show b ≠ w.heap.size; omega)) (fun _ h _ => h))
    have HTt3_20 := Lib.hid (HTt3_18.out.keep (Only.kept9 ((Only.refl (r := w.heap.size) (w := (u17.setCell ⟨w.heap.size + 1, 6, none⟩ (.slice A4 n4 c4)))).setCell (p := ⟨w.heap.size, 0, none⟩) rfl (.string nm)) (fun b hb => by have hb : w.heap.size + 2 ≤ b := hb; show b ≠ w.heap.size; omega)) (fun _ h _ => h))
    have HTt4_20 := Lib.hid (HTt4_18.out.keep (Only.kept9 ((Only.refl (r := w.heap.size) (w := (u17.setCell ⟨w.heap.size + 1, 6, none⟩ (.slice A4 n4 c4)))).setCell (p := ⟨w.heap.size, 0, none⟩) rfl (.string nm)) (fun b hb => by have hb : w.heap.size + 2 ≤ b := hb; show b ≠ w.heap.size; omega)) (fun _ h _ => h))
    have c21 := HBr_20.out.cell 1
    have f21 := HBr_20.out.frozen 1
    have HO21 := Lib.hid (HO20.out.new (r := w.heap.size) (by have := HG.out; omega) 1 (.bool true))
    have HR21 := Lib.hid (HR20.out.set (r := w.heap.size) (by have := HG.out; omega) 1 (.bool true))
    have HBr_21 : Hid (Ob (((u17.setCell ⟨w.heap.size + 1, 6, none⟩ (.slice A4 n4 c4)).setCell ⟨w.heap.size, 0, none⟩ (.string nm)).setCell ⟨w.heap.size, 1, none⟩ (.bool true)) (w.heap.size) 32 #[.string nm, .bool true, .int .i64 0, .slice none 0 0, .slice none 0 0, .slice none 0 0, .slice none 0 0]) := Lib.hid (by have := HBr_20.out.put 1 (.bool true); simpa using this)
    have HBp_21 := Lib.hid (HBp_20.out.keep (Below.heap_setCell ((u17.setCell ⟨w.heap.size + 1, 6, none⟩ (.slice A4 n4 c4)).setCell ⟨w.heap.size, 0, none⟩ (.string nm)) ⟨w.heap.size, 1, none⟩ (.bool true) _ (by show w.heap.size + 1 ≠ w.heap.size; have := HG.out; omega)))
    have HTt1_21 := Lib.hid (HTt1_20.out.keep (Only.kept9 ((Only.refl (r := w.heap.size) (w := ((u17.setCell ⟨w.heap.size + 1, 6, none⟩ (.slice A4 n4 c4)).setCell ⟨w.heap.size, 0, none⟩ (.string nm)))).setCell (p := ⟨w.heap.size, 1, none⟩) rfl (.bool true)) (fun b hb => by have hb : w.heap.size + 2 ≤ b := hb; show b ≠ w.heap.size; omega)) (fun _ h _ => h))
    have HTt3_21 := Lib.hid (HTt3_20.out.keep (Only.kept9 ((Only.refl (r := w.heap.size) (w := ((u17.setCell ⟨w.heap.size + 1, 6, none⟩ (.slice A4 n4 c4)).setCell ⟨w.heap.size, 0, none⟩ (.string nm)))).setCell (p := ⟨w.heap.size, 1, none⟩) rfl (.bool true)) (fun b hb => by have hb : w.heap.size + 2 ≤ b := hb; show b ≠ w.heap.size; omega)) (fun _ h _ => h))
    have HTt4_21 := Lib.hid (HTt4_20.out.keep (Only.kept9 ((Only.refl (r := w.heap.size) (w := ((u17.setCell ⟨w.heap.size + 1, 6, none⟩ (.slice A4 n4 c4)).setCell ⟨w.heap.size, 0, none⟩ (.string nm)))).setCell (p := ⟨w.heap.size, 1, none⟩) rfl (.bool true)) (fun b hb => by have hb : w.heap.size + 2 ≤ b := hb; show b ≠ w.heap.size; omega)) (fun _ h _ => h))
    have c22 := HBr_21.out.cell 2
    have f22 := HBr_21.out.frozen 2
    have HO22 := Lib.hid (HO21.out.new (r := w.heap.size) (by have := HG.out; omega) 2 (.int .i64 (al : Int)))
    have HR22 := Lib.hid (HR21.out.set (r := w.heap.size) (by have := HG.out; omega) 2 (.int .i64 (al : Int)))
    have HBr_22 : Hid (Ob ((((u17.setCell ⟨w.heap.size + 1, 6, none⟩ (.slice A4 n4 c4)).setCell ⟨w.heap.size, 0, none⟩ (.string nm)).setCell ⟨w.heap.size, 1, none⟩ (.bool true)).setCell ⟨w.heap.size, 2, none⟩ (.int .i64 (al : Int))) (w.heap.size) 32 #[.string nm, .bool true, .int .i64 (al : Int), .slice none 0 0, .slice none 0 0, .slice none 0 0, .slice none 0 0]) := Lib.hid (by have := HBr_21.out.put 2 (.int .i64 (al : Int)); simpa using this)
    have HBp_22 := Lib.hid (HBp_21.out.keep (Below.heap_setCell (((u17.setCell ⟨w.heap.size + 1, 6, none⟩ (.slice A4 n4 c4)).setCell ⟨w.heap.size, 0, none⟩ (.string nm)).setCell ⟨w.heap.size, 1, none⟩ (.bool true)) ⟨w.heap.size, 2, none⟩ (.int .i64 (al : Int)) _ (by show w.heap.size + 1 ≠ w.heap.size; have := HG.out; omega)))
    have HTt1_22 := Lib.hid (HTt1_21.out.keep (Only.kept9 ((Only.refl (r := w.heap.size) (w := (((u17.setCell ⟨w.heap.size + 1, 6, none⟩ (.slice A4 n4 c4)).setCell ⟨w.heap.size, 0, none⟩ (.string nm)).setCell ⟨w.heap.size, 1, none⟩ (.bool true)))).setCell (p := ⟨w.heap.size, 2, none⟩) rfl (.int .i64 (al : Int))) (fun b hb => by have hb : w.heap.size + 2 ≤ b := hb; show b ≠ w.heap.size; omega)) (fun _ h _ => h))
    have HTt3_22 := Lib.hid (HTt3_21.out.keep (Only.kept9 ((Only.refl (r := w.heap.size) (w := (((u17.setCell ⟨w.heap.size + 1, 6, none⟩ (.slice A4 n4 c4)).setCell ⟨w.heap.size, 0, none⟩ (.string nm)).setCell ⟨w.heap.size, 1, none⟩ (.bool true)))).setCell (p := ⟨w.heap.size, 2, none⟩) rfl (.int .i64 (al : Int))) (fun b hb => by have hb : w.heap.size + 2 ≤ b := hb; show b ≠ w.heap.size; omega)) (fun _ h _ => h))
    have HTt4_22 := Lib.hid (HTt4_21.out.keep (Only.kept9 ((Only.refl (r := w.heap.size) (w := (((u17.setCell ⟨w.heap.size + 1, 6, none⟩ (.slice A4 n4 c4)).setCell ⟨w.heap.size, 0, none⟩ (.string nm)).setCell ⟨w.heap.size, 1, none⟩ (.bool true)))).setCell (p := ⟨w.heap.size, 2, none⟩) rfl (.int .i64 (al : Int))) (fun b hb => by have hb : w.heap.size + 2 ≤ b := hb; show b ≠ w.heap.size; omega)) (fun _ h _ => h))
    have c23 := HBr_22.out.cell 3
    have f23 := HBr_22.out.frozen 3
    have HO23 := Lib.hid (HO22.out.new (r := w.heap.size) (by have := HG.out; omega) 3 (.slice A1 n1 c1))
    have HR23 := Lib.hid (HR22.out.set (r := w.heap.size) (by have := HG.out; omega) 3 (.slice A1 n1 c1))
    have HBr_23 : Hid (Ob (((((u17.setCell ⟨w.heap.size + 1, 6, none⟩ (.slice A4 n4 c4)).setCell ⟨w.heap.size, 0, none⟩ (.string nm)).setCell ⟨w.heap.size, 1, none⟩ (.bool true)).setCell ⟨w.heap.size, 2, none⟩ (.int .i64 (al : Int))).setCell ⟨w.heap.size, 3, none⟩ (.slice A1 n1 c1)) (w.heap.size) 32 #[.string nm, .bool true, .int .i64 (al : Int), .slice A1 n1 c1, .slice none 0 0, .slice none 0 0, .slice none 0 0]) := Lib.hid (by have := HBr_22.out.put 3 (.slice A1 n1 c1); simpa using this)
    have HBp_23 := Lib.hid (HBp_22.out.keep (Below.heap_setCell ((((u17.setCell ⟨w.heap.size + 1, 6, none⟩ (.slice A4 n4 c4)).setCell ⟨w.heap.size, 0, none⟩ (.string nm)).setCell ⟨w.heap.size, 1, none⟩ (.bool true)).setCell ⟨w.heap.size, 2, none⟩ (.int .i64 (al : Int))) ⟨w.heap.size, 3, none⟩ (.slice A1 n1 c1) _ (by show w.heap.size + 1 ≠ w.heap.size; have := HG.out; omega)))
    have HTt1_23 := Lib.hid (HTt1_22.out.keep (Only.kept9 ((Only.refl (r := w.heap.size) (w := ((((u17.setCell ⟨w.heap.size + 1, 6, none⟩ (.slice A4 n4 c4)).setCell ⟨w.heap.size, 0, none⟩ (.string nm)).setCell ⟨w.heap.size, 1, none⟩ (.bool true)).setCell ⟨w.heap.size, 2, none⟩ (.int .i64 (al : Int))))).setCell (p := ⟨w.heap.size, 3, none⟩) rfl (.slice A1 n1 c1)) (fun b hb => by have hb : w.heap.size + 2 ≤ b := hb; show b ≠ w.heap.size; omega)) (fun _ h _ => h))
    have HTt3_23 := Lib.hid (HTt3_22.out.keep (Only.kept9 ((Only.refl (r := w.heap.size) (w := ((((u17.setCell ⟨w.heap.size + 1, 6, none⟩ (.slice A4 n4 c4)).setCell ⟨w.heap.size, 0, none⟩ (.string nm)).setCell ⟨w.heap.size, 1, none⟩ (.bool true)).setCell ⟨w.heap.size, 2, none⟩ (.int .i64 (al : Int))))).setCell (p := ⟨w.heap.size, 3, none⟩) rfl (.slice A1 n1 c1)) (fun b hb => by have hb : w.heap.size + 2 ≤ b := hb; show b ≠ w.heap.size; omega)) (fun _ h _ => h))
    have HTt4_23 := Lib.hid (HTt4_22.out.keep (Only.kept9 ((Only.refl (r := w.heap.size) (w := ((((u17.setCell ⟨w.heap.size + 1, 6, none⟩ (.slice A4 n4 c4)).setCell ⟨w.heap.size, 0, none⟩ (.string nm)).setCell ⟨w.heap.size, 1, none⟩ (.bool true)).setCell ⟨w.heap.size, 2, none⟩ (.int .i64 (al : Int))))).setCell (p := ⟨w.heap.size, 3, none⟩) rfl (.slice A1 n1 c1)) (fun b hb => by have hb : w.heap.size + 2 ≤ b := hb; show b ≠ w.heap.size; omega)) (fun _ h _ => h))
    have c24 := HBr_23.out.cell 4
    have f24 := HBr_23.out.frozen 4
    have HO24 := Lib.hid (HO23.out.new (r := w.heap.size) (by have := HG.out; omega) 4 (.slice none 0 0))
    have HR24 := Lib.hid (HR23.out.set (r := w.heap.size) (by have := HG.out; omega) 4 (.slice none 0 0))
    have HBr_24 : Hid (Ob ((((((u17.setCell ⟨w.heap.size + 1, 6, none⟩ (.slice A4 n4 c4)).setCell ⟨w.heap.size, 0, none⟩ (.string nm)).setCell ⟨w.heap.size, 1, none⟩ (.bool true)).setCell ⟨w.heap.size, 2, none⟩ (.int .i64 (al : Int))).setCell ⟨w.heap.size, 3, none⟩ (.slice A1 n1 c1)).setCell ⟨w.heap.size, 4, none⟩ (.slice none 0 0)) (w.heap.size) 32 #[.string nm, .bool true, .int .i64 (al : Int), .slice A1 n1 c1, .slice none 0 0, .slice none 0 0, .slice none 0 0]) := Lib.hid (by have := HBr_23.out.put 4 (.slice none 0 0); simpa using this)
    have HBp_24 := Lib.hid (HBp_23.out.keep (Below.heap_setCell (((((u17.setCell ⟨w.heap.size + 1, 6, none⟩ (.slice A4 n4 c4)).setCell ⟨w.heap.size, 0, none⟩ (.string nm)).setCell ⟨w.heap.size, 1, none⟩ (.bool true)).setCell ⟨w.heap.size, 2, none⟩ (.int .i64 (al : Int))).setCell ⟨w.heap.size, 3, none⟩ (.slice A1 n1 c1)) ⟨w.heap.size, 4, none⟩ (.slice none 0 0) _ (by show w.heap.size + 1 ≠ w.heap.size; have := HG.out; omega)))
    have HTt1_24 := Lib.hid (HTt1_23.out.keep (Only.kept9 ((Only.refl (r := w.heap.size) (w := (((((u17.setCell ⟨w.heap.size + 1, 6, none⟩ (.slice A4 n4 c4)).setCell ⟨w.heap.size, 0, none⟩ (.string nm)).setCell ⟨w.heap.size, 1, none⟩ (.bool true)).setCell ⟨w.heap.size, 2, none⟩ (.int .i64 (al : Int))).setCell ⟨w.heap.size, 3, none⟩ (.slice A1 n1 c1)))).setCell (p := ⟨w.heap.size, 4, none⟩) rfl (.slice none 0 0)) (fun b hb => by have hb : w.heap.size + 2 ≤ b := hb; show b ≠ w.heap.size; omega)) (fun _ h _ => h))
    have HTt3_24 := Lib.hid (HTt3_23.out.keep (Only.kept9 ((Only.refl (r := w.heap.size) (w := (((((u17.setCell ⟨w.heap.size + 1, 6, none⟩ (.slice A4 n4 c4)).setCell ⟨w.heap.size, 0, none⟩ (.string nm)).setCell ⟨w.heap.size, 1, none⟩ (.bool true)).setCell ⟨w.heap.size, 2, none⟩ (.int .i64 (al : Int))).setCell ⟨w.heap.size, 3, none⟩ (.slice A1 n1 c1)))).setCell (p := ⟨w.heap.size, 4, none⟩) rfl (.slice none 0 0)) (fun b hb => by have hb : w.heap.size + 2 ≤ b := hb; show b ≠ w.heap.size; omega)) (fun _ h _ => h))
    have HTt4_24 := Lib.hid (HTt4_23.out.keep (Only.kept9 ((Only.refl (r := w.heap.size) (w := (((((u17.setCell ⟨w.heap.size + 1, 6, none⟩ (.slice A4 n4 c4)).setCell ⟨w.heap.size, 0, none⟩ (.string nm)).setCell ⟨w.heap.size, 1, none⟩ (.bool true)).setCell ⟨w.heap.size, 2, none⟩ (.int .i64 (al : Int))).setCell ⟨w.heap.size, 3, none⟩ (.slice A1 n1 c1)))).setCell (p := ⟨w.heap.size, 4, none⟩) rfl (.slice none 0 0)) (fun b hb => by have hb : w.heap.size + 2 ≤ b := hb; show b ≠ w.heap.size; omega)) (fun _ h _ => h))
    have c25 := HBr_24.out.cell 5
    have f25 := HBr_24.out.frozen 5
    have HO25 := Lib.hid (HO24.out.new (r := w.heap.size) (by have := HG.out; omega) 5 (.slice A3 n3 c3))
    have HR25 := Lib.hid (HR24.out.set (r := w.heap.size) (by have := HG.out; omega) 5 (.slice A3 n3 c3))
    have HBr_25 : Hid (Ob (((((((u17.setCell ⟨w.heap.size + 1, 6, none⟩ (.slice A4 n4 c4)).setCell ⟨w.heap.size, 0, none⟩ (.string nm)).setCell ⟨w.heap.size, 1, none⟩ (.bool true)).setCell ⟨w.heap.size, 2, none⟩ (.int .i64 (al : Int))).setCell ⟨w.heap.size, 3, none⟩ (.slice A1 n1 c1)).setCell ⟨w.heap.size, 4, none⟩ (.slice none 0 0)).setCell ⟨w.heap.size, 5, none⟩ (.slice A3 n3 c3)) (w.heap.size) 32 #[.string nm, .bool true, .int .i64 (al : Int), .slice A1 n1 c1, .slice none 0 0, .slice A3 n3 c3, .slice none 0 0]) := Lib.hid (by have := HBr_24.out.put 5 (.slice A3 n3 c3); simpa using this)
    have HBp_25 := Lib.hid (HBp_24.out.keep (Below.heap_setCell ((((((u17.setCell ⟨w.heap.size + 1, 6, none⟩ (.slice A4 n4 c4)).setCell ⟨w.heap.size, 0, none⟩ (.string nm)).setCell ⟨w.heap.size, 1, none⟩ (.bool true)).setCell ⟨w.heap.size, 2, none⟩ (.int .i64 (al : Int))).setCell ⟨w.heap.size, 3, none⟩ (.slice A1 n1 c1)).setCell ⟨w.heap.size, 4, none⟩ (.slice none 0 0)) ⟨w.heap.size, 5, none⟩ (.slice A3 n3 c3) _ (by show w.heap.size + 1 ≠ w.heap.size; have := HG.out; omega)))
    have HTt1_25 := Lib.hid (HTt1_24.out.keep (Only.kept9 ((Only.refl (r := w.heap.size) (w := ((((((u17.setCell ⟨w.heap.size + 1, 6, none⟩ (.slice A4 n4 c4)).setCell ⟨w.heap.size, 0, none⟩ (.string nm)).setCell ⟨w.heap.size, 1, none⟩ (.bool true)).setCell ⟨w.heap.size, 2, none⟩ (.int .i64 (al : Int))).setCell ⟨w.heap.size, 3, none⟩ (.slice A1 n1 c1)).setCell ⟨w.heap.size, 4, none⟩ (.slice none 0 0)))).setCell (p := ⟨w.heap.size, 5, none⟩) rfl (.slice A3 n3 c3)) (fun b hb => by have hb : w.heap.size + 2 ≤ b := hb; show b ≠ w.heap.size; omega)) (fun _ h _ => h))
    have HTt3_25 := Lib.hid (HTt3_24.out.keep (Only.kept9 ((Only.refl (r := w.heap.size) (w := ((((((u17.setCell ⟨w.heap.size + 1, 6, none⟩ (.slice A4 n4 c4)).setCell ⟨w.heap.size, 0, none⟩ (.string nm)).setCell ⟨w.heap.size, 1, none⟩ (.bool true)).setCell ⟨w.heap.size, 2, none⟩ (.int .i64 (al : Int))).setCell ⟨w.heap.size, 3, none⟩ (.slice A1 n1 c1)).setCell ⟨w.heap.size, 4, none⟩ (.slice none 0 0)))).setCell (p := ⟨w.heap.size, 5, none⟩) rfl (.slice A3 n3 c3)) (fun b hb => by have hb : w.heap.size + 2 ≤ b := hb; show b ≠ w.heap.size; omega)) (fun _ h _ => h))
    have HTt4_25 := Lib.hid (HTt4_24.out.keep (Only.kept9 ((Only.refl (r := w.heap.size) (w := ((((((u17.setCell ⟨w.heap.size + 1, 6, none⟩ (.slice A4 n4 c4)).setCell ⟨w.heap.size, 0, none⟩ (.string nm)).setCell ⟨w.heap.size, 1, none⟩ (.bool true)).setCell ⟨w.heap.size, 2, none⟩ (.int .i64 (al : Int))).setCell ⟨w.heap.size, 3, none⟩ (.slice A1 n1 c1)).setCell ⟨w.heap.size, 4, none⟩ (.slice none 0 0)))).setCell (p := ⟨w.heap.size, 5, none⟩) rfl (.slice A3 n3 c3)) (fun b hb => by have hb : w.heap.size + 2 ≤ b := hb; show b ≠ w.heap.size; omega)) (fun _ h _ => h))
    have c26 := HBr_25.out.cell 6
    have f26 := HBr_25.out.frozen 6
    have HO26 := Lib.hid (HO25.out.new (r := w.heap.size) (by have := HG.out; omega) 6 (.slice A4 n4 c4))
    have HR26 := Lib.hid (HR25.out.set (r := w.heap.size) (by have := HG.out; omega) 6 (.slice A4 n4 c4))
    have HBr_26 : Hid (Ob ((((((((u17.setCell ⟨w.heap.size + 1, 6, none⟩ (.slice A4 n4 c4)).setCell ⟨w.heap.size, 0, none⟩ (.string nm)).setCell ⟨w.heap.size, 1, none⟩ (.bool true)).setCell ⟨w.heap.size, 2, none⟩ (.int .i64 (al : Int))).setCell ⟨w.heap.size, 3, none⟩ (.slice A1 n1 c1)).setCell ⟨w.heap.size, 4, none⟩ (.slice none 0 0)).setCell ⟨w.heap.size, 5, none⟩ (.slice A3 n3 c3)).setCell ⟨w.heap.size, 6, none⟩ (.slice A4 n4 c4)) (w.heap.size) 32 #[.string nm, .bool true, .int .i64 (al : Int), .slice A1 n1 c1, .slice none 0 0, .slice A3 n3 c3, .slice A4 n4 c4]) := Lib.hid (by have := HBr_25.out.put 6 (.slice A4 n4 c4); simpa using this)
    have HBp_26 := Lib.hid (HBp_25.out.keep (Below.heap_setCell (((((((u17.setCell ⟨w.heap.size + 1, 6, none⟩ (.slice A4 n4 c4)).setCell ⟨w.heap.size, 0, none⟩ (.string nm)).setCell ⟨w.heap.size, 1, none⟩ (.bool true)).setCell ⟨w.heap.size, 2, none⟩ (.int .i64 (al : Int))).setCell ⟨w.heap.size, 3, none⟩ (.slice A1 n1 c1)).setCell ⟨w.heap.size, 4, none⟩ (.slice none 0 0)).setCell ⟨w.heap.size, 5, none⟩ (.slice A3 n3 c3)) ⟨w.heap.size, 6, none⟩ (.slice A4 n4 c4) _ (by show w.heap.size + 1 ≠ w.heap.size; have := HG.out; omega)))
    have HTt1_26 := Lib.hid (HTt1_25.out.keep (Only.kept9 ((Only.refl (r := w.heap.size) (w := (((((((u17.setCell ⟨w.heap.size + 1, 6, none⟩ (.slice A4 n4 c4)).setCell ⟨w.heap.size, 0, none⟩ (.string nm)).setCell ⟨w.heap.size, 1, none⟩ (.bool true)).setCell ⟨w.heap.size, 2, none⟩ (.int .i64 (al : Int))).setCell ⟨w.heap.size, 3, none⟩ (.slice A1 n1 c1)).setCell ⟨w.heap.size, 4, none⟩ (.slice none 0 0)).setCell ⟨w.heap.size, 5, none⟩ (.slice A3 n3 c3)))).setCell (p := ⟨w.heap.size, 6, none⟩) rfl (.slice A4 n4 c4)) (fun b hb => by have hb : w.heap.size + 2 ≤ b := hb; show b ≠ w.heap.size; omega)) (fun _ h _ => h))
    have HTt3_26 := Lib.hid (HTt3_25.out.keep (Only.kept9 ((Only.refl (r := w.heap.size) (w := (((((((u17.setCell ⟨w.heap.size + 1, 6, none⟩ (.slice A4 n4 c4)).setCell ⟨w.heap.size, 0, none⟩ (.string nm)).setCell ⟨w.heap.size, 1, none⟩ (.bool true)).setCell ⟨w.heap.size, 2, none⟩ (.int .i64 (al : Int))).setCell ⟨w.heap.size, 3, none⟩ (.slice A1 n1 c1)).setCell ⟨w.heap.size, 4, none⟩ (.slice none 0 0)).setCell ⟨w.heap.size, 5, none⟩ (.slice A3 n3 c3)))).setCell (p := ⟨w.heap.size, 6, none⟩) rfl (.slice A4 n4 c4)) (fun b hb => by have hb : w.heap.size + 2 ≤ b := hb; show b ≠ w.heap.size; omega)) (fun _ h _ => h))
    have HTt4_26 := Lib.hid (HTt4_25.out.keep (Only.kept9 ((Only.refl (r := w.heap.size) (w := (((((((u17.setCell ⟨w.heap.size + 1, 6, none⟩ (.slice A4 n4 c4)).setCell ⟨w.heap.size, 0, none⟩ (.string nm)).setCell ⟨w.heap.size, 1, none⟩ (.bool true)).setCell ⟨w.heap.size, 2, none⟩ (.int .i64 (al : Int))).setCell ⟨w.heap.size, 3, none⟩ (.slice A1 n1 c1)).setCell ⟨w.heap.size, 4, none⟩ (.slice none 0 0)).setCell ⟨w.heap.size, 5, none⟩ (.slice A3 n3 c3)))).setCell (p := ⟨w.heap.size, 6, none⟩) rfl (.slice A4 n4 c4)) (fun b hb => by have hb : w.heap.size + 2 ≤ b := hb; show b ≠ w.heap.size; omega)) (fun _ h _ => h))
    go_wp2_with fail
    refine bodyPost_ret (policy_ret rfl rfl HBr_26.out rfl) rfl ?_
    rw [HIN.out.1]
    exact ⟨_, rfl, HO26.out, HR26.out, A1, n1, c1, none, 0, 0, A3, n3, c3, A4, n4, c4, rfl, A1, n1, c1, none, 0, 0, A3, n3, c3, A4, n4, c4, rfl, HNM.out, HAL.out, HTt1_26.out.keep (Kept.refl _ _) (fun b hb _ => by have hb : w.heap.size + 2 ≤ b := hb; show w.heap.size ≤ b; omega), Rw.nil_ _ _ _ _, Pls.keep HTt3_26.out (Kept.refl _ _) (fun b hb _ => by have hb : w.heap.size + 2 ≤ b := hb; show w.heap.size ≤ b; omega), HTt4_26.out.keep (Kept.refl _ _) (fun b hb _ => by have hb : w.heap.size + 2 ≤ b := hb; show w.heap.size ≤ b; omega)⟩
  · have HIN : Hid (rr = (rulesR s5.rest.length [] s5).1 ∧ kk = [] ∧ s6 = (rulesR s5.rest.length [] s5).2) := by
      show _ ∧ _ ∧ _
      unfold inR at e6
      rw [if_neg hi] at e6
      injection e6 with x1 x2
      injection x2 with x2 x3
      exact ⟨x1.symm, x2.symm, x3.symm⟩
    have hqi : decide (i = 2) = false := decide_eq_false hi
    rw [hqi] at hq
    have E0 : Hid (mostR dd 4 s = s0) := by rw [hdd]; exact Lib.hid e0
    have E1 := Lib.hid e1
    have E2 := Lib.hid e2
    have E3 := Lib.hid e3
    have E4 := Lib.hid e4
    have E5 := Lib.hid e5
    have E7 := Lib.hid e7
    have E8 := Lib.hid e8
    have HG : Hid (g < w.heap.size) := h.lt
    have HBr_1 : Hid (Ob (w.alloc (.cells #[.string ⟨#[]⟩, .bool false, .int .i64 0, .slice none 0 0, .slice none 0 0, .slice none 0 0, .slice none 0 0] 32)) (w.heap.size) 32 #[.string ⟨#[]⟩, .bool false, .int .i64 0, .slice none 0 0, .slice none 0 0, .slice none 0 0, .slice none 0 0]) := Lib.hid (by have := Ob.made w 32 #[.string ⟨#[]⟩, .bool false, .int .i64 0, .slice none 0 0, .slice none 0 0, .slice none 0 0, .slice none 0 0]; simpa using this)
    have HBr_2 := Lib.hid (HBr_1.out.keep (Below.heap_alloc (w.alloc (.cells #[.string ⟨#[]⟩, .bool false, .int .i64 0, .slice none 0 0, .slice none 0 0, .slice none 0 0, .slice none 0 0] 32)) (.cells #[.string ⟨#[]⟩, .bool false, .int .i64 0, .slice none 0 0, .slice none 0 0, .slice none 0 0, .slice none 0 0] 32) _ HBr_1.out.lt))
    have HBp_2 : Hid (Ob ((w.alloc (.cells #[.string ⟨#[]⟩, .bool false, .int .i64 0, .slice none 0 0, .slice none 0 0, .slice none 0 0, .slice none 0 0] 32)).alloc (.cells #[.string ⟨#[]⟩, .bool false, .int .i64 0, .slice none 0 0, .slice none 0 0, .slice none 0 0, .slice none 0 0] 32)) (w.heap.size + 1) 32 #[.string ⟨#[]⟩, .bool false, .int .i64 0, .slice none 0 0, .slice none 0 0, .slice none 0 0, .slice none 0 0]) := Lib.hid (by have := Ob.made (w.alloc (.cells #[.string ⟨#[]⟩, .bool false, .int .i64 0, .slice none 0 0, .slice none 0 0, .slice none 0 0, .slice none 0 0] 32)) 32 #[.string ⟨#[]⟩, .bool false, .int .i64 0, .slice none 0 0, .slice none 0 0, .slice none 0 0, .slice none 0 0]; simpa using this)
    have HR0 := Lib.hid ((h.alloc (.cells #[.string ⟨#[]⟩, .bool false, .int .i64 0, .slice none 0 0, .slice none 0 0, .slice none 0 0, .slice none 0 0] 32)).alloc (.cells #[.string ⟨#[]⟩, .bool false, .int .i64 0, .slice none 0 0, .slice none 0 0, .slice none 0 0, .slice none 0 0] 32))
    have HO0 := Lib.hid (((Only.refl (r := g) (w := w)).al (.cells #[.string ⟨#[]⟩, .bool false, .int .i64 0, .slice none 0 0, .slice none 0 0, .slice none 0 0, .slice none 0 0] 32)).al (.cells #[.string ⟨#[]⟩, .bool false, .int .i64 0, .slice none 0 0, .slice none 0 0, .slice none 0 0, .slice none 0 0] 32))
    clear h hsum e0 e1 e2 e3 e4 e5 e6 e7 e8 ih HI0 hf4 hdd hi
    go_enter Try.func24, Try.ntmps24
    go_wp2_with fail
    go_at_call 42
    refine (pmost_any HR0.out dd 4).mono ?_
    rintro x u3 ⟨rfl, ho, hr⟩
    rw [E0.out] at hr
    have HO3 := Lib.hid (HO0.out.trans ho)
    have HR3 := Lib.hid hr
    have HBr_3 := Lib.hid (HBr_2.out.keep (ho.heap HBr_2.out.lt (by have := HG.out; omega)))
    have HBp_3 := Lib.hid (HBp_2.out.keep (ho.heap HBp_2.out.lt (by have := HG.out; omega)))
    clear ho hr
    go_wp2_with fail
    go_at_call 43
    refine (pmust_lit HR3.out [w_policy, w_set] #[.string ⟨#[112, 111, 108, 105, 99, 121]⟩, .string ⟨#[115, 101, 116]⟩] 2 rfl rfl (by omega) (by first | rfl | (simp; done) | (simp [World.setCell]; done))).mono ?_
    rintro x u4 ⟨hx, ho, hr⟩
    obtain rfl : x = .returned (.int .i64 (i : Int)) := by rw [hx, E1.out] <;> rfl
    rw [E1.out] at hr
    clear hx
    have HO4 := Lib.hid (HO3.out.trans ho)
    have HR4 := Lib.hid hr
    have HBr_4 := Lib.hid (HBr_3.out.keep (ho.heap HBr_3.out.lt (by have := HG.out; omega)))
    have HBp_4 := Lib.hid (HBp_3.out.keep (ho.heap HBp_3.out.lt (by have := HG.out; omega)))
    clear ho hr
    have c5 := HBp_4.out.cell 1
    have f5 := HBp_4.out.frozen 1
    have HO5 := Lib.hid (HO4.out.new (r := w.heap.size + 1) (by have := HG.out; omega) 1 (.bool false))
    have HR5 := Lib.hid (HR4.out.set (r := w.heap.size + 1) (by have := HG.out; omega) 1 (.bool false))
    have HBr_5 := Lib.hid (HBr_4.out.keep (Below.heap_setCell u4 ⟨w.heap.size + 1, 1, none⟩ (.bool false) _ (by show w.heap.size ≠ w.heap.size + 1; have := HG.out; omega)))
    have HBp_5 : Hid (Ob (u4.setCell ⟨w.heap.size + 1, 1, none⟩ (.bool false)) (w.heap.size + 1) 32 #[.string ⟨#[]⟩, .bool false, .int .i64 0, .slice none 0 0, .slice none 0 0, .slice none 0 0, .slice none 0 0]) := Lib.hid (by have := HBp_4.out.put 1 (.bool false); simpa using this)
    go_wp2_with fail
    go_at_call 44
    refine (pname_any HR5.out).mono ?_
    rintro x u6 ⟨hx, ho, hr⟩
    obtain rfl : x = .returned (.string nm) := by rw [hx, E2.out] <;> rfl
    rw [E2.out] at hr
    clear hx
    have HO6 := Lib.hid (HO5.out.trans ho)
    have HR6 := Lib.hid hr
    have HBr_6 := Lib.hid (HBr_5.out.keep (ho.heap HBr_5.out.lt (by have := HG.out; omega)))
    have HBp_6 := Lib.hid (HBp_5.out.keep (ho.heap HBp_5.out.lt (by have := HG.out; omega)))
    clear ho hr
    have c7 := HBp_6.out.cell 0
    have f7 := HBp_6.out.frozen 0
    have HO7 := Lib.hid (HO6.out.new (r := w.heap.size + 1) (by have := HG.out; omega) 0 (.string nm))
    have HR7 := Lib.hid (HR6.out.set (r := w.heap.size + 1) (by have := HG.out; omega) 0 (.string nm))
    have HBr_7 := Lib.hid (HBr_6.out.keep (Below.heap_setCell u6 ⟨w.heap.size + 1, 0, none⟩ (.string nm) _ (by show w.heap.size ≠ w.heap.size + 1; have := HG.out; omega)))
    have HBp_7 : Hid (Ob (u6.setCell ⟨w.heap.size + 1, 0, none⟩ (.string nm)) (w.heap.size + 1) 32 #[.string nm, .bool false, .int .i64 0, .slice none 0 0, .slice none 0 0, .slice none 0 0, .slice none 0 0]) := Lib.hid (by have := HBp_6.out.put 0 (.string nm); simpa using this)
    go_wp2_with fail
    go_at_call 43
    refine (pmust_lit HR7.out [w_denyover, w_permitover, w_first, w_only, w_denyunless, w_permitunless] #[.string ⟨#[100, 101, 110, 121, 111, 118, 101, 114]⟩, .string ⟨#[112, 101, 114, 109, 105, 116, 111, 118, 101, 114]⟩, .string ⟨#[102, 105, 114, 115, 116]⟩, .string ⟨#[111, 110, 108, 121]⟩, .string ⟨#[100, 101, 110, 121, 117, 110, 108, 101, 115, 115]⟩, .string ⟨#[112, 101, 114, 109, 105, 116, 117, 110, 108, 101, 115, 115]⟩] 6 rfl rfl (by omega) (by first | rfl | (simp; done) | (simp [World.setCell]; done))).mono ?_
    rintro x u8 ⟨hx, ho, hr⟩
    obtain rfl : x = .returned (.int .i64 (al : Int)) := by rw [hx, E3.out] <;> rfl
    rw [E3.out] at hr
    clear hx
    have HO8 := Lib.hid (HO7.out.trans ho)
    have HR8 := Lib.hid hr
    have HBr_8 := Lib.hid (HBr_7.out.keep (ho.heap HBr_7.out.lt (by have := HG.out; omega)))
    have HBp_8 := Lib.hid (HBp_7.out.keep (ho.heap HBp_7.out.lt (by have := HG.out; omega)))
    clear ho hr
    have c9 := HBp_8.out.cell 2
    have f9 := HBp_8.out.frozen 2
    have HO9 := Lib.hid (HO8.out.new (r := w.heap.size + 1) (by have := HG.out; omega) 2 (.int .i64 (al : Int)))
    have HR9 := Lib.hid (HR8.out.set (r := w.heap.size + 1) (by have := HG.out; omega) 2 (.int .i64 (al : Int)))
    have HBr_9 := Lib.hid (HBr_8.out.keep (Below.heap_setCell u8 ⟨w.heap.size + 1, 2, none⟩ (.int .i64 (al : Int)) _ (by show w.heap.size ≠ w.heap.size + 1; have := HG.out; omega)))
    have HBp_9 : Hid (Ob (u8.setCell ⟨w.heap.size + 1, 2, none⟩ (.int .i64 (al : Int))) (w.heap.size + 1) 32 #[.string nm, .bool false, .int .i64 (al : Int), .slice none 0 0, .slice none 0 0, .slice none 0 0, .slice none 0 0]) := Lib.hid (by have := HBp_8.out.put 2 (.int .i64 (al : Int)); simpa using this)
    go_wp2_with fail
    go_at_call 45
    refine (ptarget_any HR9.out).mono ?_
    rintro x u10 ⟨A1, n1, c1, rfl, ho, hr, ht1⟩
    rw [E4.out] at hr ht1
    have HO10 := Lib.hid (HO9.out.trans ho)
    have HR10 := Lib.hid hr
    have HBr_10 := Lib.hid (HBr_9.out.keep (ho.heap HBr_9.out.lt (by have := HG.out; omega)))
    have HBp_10 := Lib.hid (HBp_9.out.keep (ho.heap HBp_9.out.lt (by have := HG.out; omega)))
    have HTt1_10 := Lib.hid (ht1.keep (Kept.refl _ _) (R' := fun b => w.heap.size + 2 ≤ b) (fun b hb _ => by have hb : ((u8.setCell ⟨w.heap.size + 1, 2, none⟩ (.int .i64 (al : Int)))).heap.size ≤ b := hb; have := HBp_9.out.lt; show w.heap.size + 2 ≤ b; omega))
    clear ho hr ht1
    have c11 := HBp_10.out.cell 3
    have f11 := HBp_10.out.frozen 3
    have HO11 := Lib.hid (HO10.out.new (r := w.heap.size + 1) (by have := HG.out; omega) 3 (.slice A1 n1 c1))
    have HR11 := Lib.hid (HR10.out.set (r := w.heap.size + 1) (by have := HG.out; omega) 3 (.slice A1 n1 c1))
    have HBr_11 := Lib.hid (HBr_10.out.keep (Below.heap_setCell u10 ⟨w.heap.size + 1, 3, none⟩ (.slice A1 n1 c1) _ (by show w.heap.size ≠ w.heap.size + 1; have := HG.out; omega)))
    have HBp_11 : Hid (Ob (u10.setCell ⟨w.heap.size + 1, 3, none⟩ (.slice A1 n1 c1)) (w.heap.size + 1) 32 #[.string nm, .bool false, .int .i64 (al : Int), .slice A1 n1 c1, .slice none 0 0, .slice none 0 0, .slice none 0 0]) := Lib.hid (by have := HBp_10.out.put 3 (.slice A1 n1 c1); simpa using this)
    have HTt1_11 := Lib.hid (HTt1_10.out.keep (Only.kept9 ((Only.refl (r := w.heap.size + 1) (w := u10)).setCell (p := ⟨w.heap.size + 1, 3, none⟩) rfl (.slice A1 n1 c1)) (fun b hb => by have hb : w.heap.size + 2 ≤ b := hb; show b ≠ w.heap.size + 1; omega)) (fun _ h _ => h))
    go_wp2_with fail
    go_at_call 43
    refine (pmust_lit HR11.out [m_lb] #[.string ⟨#[123]⟩] 1 rfl rfl (by omega) (by first | rfl | (simp; done) | (simp [World.setCell]; done))).mono ?_
    rintro x u12 ⟨rfl, ho, hr⟩
    rw [E5.out] at hr
    have HO12 := Lib.hid (HO11.out.trans ho)
    have HR12 := Lib.hid hr
    have HBr_12 := Lib.hid (HBr_11.out.keep (ho.heap HBr_11.out.lt (by have := HG.out; omega)))
    have HBp_12 := Lib.hid (HBp_11.out.keep (ho.heap HBp_11.out.lt (by have := HG.out; omega)))
    have HTt1_12 := Lib.hid (HTt1_11.out.keep (ho.kept9 (fun b hb => by have := HG.out; have hb : w.heap.size + 2 ≤ b := hb; show b ≠ g; omega)) (fun _ h _ => h))
    clear ho hr
    have c13_1 := HBp_12.out.cell 1
    go_wp2_with fail
    go_at_call 47
    refine (prules_any HR12.out HSM.out).mono ?_
    rintro x u14 ⟨A3, n3, c3, rfl, ho, hr, ht3⟩
    rw [← HIN.out.2.2] at hr
    rw [← HIN.out.1] at ht3
    have HO14 := Lib.hid (HO12.out.trans ho)
    have HR14 := Lib.hid hr
    have HBr_14 := Lib.hid (HBr_12.out.keep (ho.heap HBr_12.out.lt (by have := HG.out; omega)))
    have HBp_14 := Lib.hid (HBp_12.out.keep (ho.heap HBp_12.out.lt (by have := HG.out; omega)))
    have HTt1_14 := Lib.hid (HTt1_12.out.keep (ho.kept9 (fun b hb => by have := HG.out; have hb : w.heap.size + 2 ≤ b := hb; show b ≠ g; omega)) (fun _ h _ => h))
    have HTt3_14 := Lib.hid (ht3.keep (Kept.refl _ _) (R' := fun b => w.heap.size + 2 ≤ b) (fun b hb _ => by have hb : (u12).heap.size ≤ b := hb; have := HBp_12.out.lt; show w.heap.size + 2 ≤ b; omega))
    clear ho hr ht3
    have c15 := HBp_14.out.cell 4
    have f15 := HBp_14.out.frozen 4
    have HO15 := Lib.hid (HO14.out.new (r := w.heap.size + 1) (by have := HG.out; omega) 4 (.slice A3 n3 c3))
    have HR15 := Lib.hid (HR14.out.set (r := w.heap.size + 1) (by have := HG.out; omega) 4 (.slice A3 n3 c3))
    have HBr_15 := Lib.hid (HBr_14.out.keep (Below.heap_setCell u14 ⟨w.heap.size + 1, 4, none⟩ (.slice A3 n3 c3) _ (by show w.heap.size ≠ w.heap.size + 1; have := HG.out; omega)))
    have HBp_15 : Hid (Ob (u14.setCell ⟨w.heap.size + 1, 4, none⟩ (.slice A3 n3 c3)) (w.heap.size + 1) 32 #[.string nm, .bool false, .int .i64 (al : Int), .slice A1 n1 c1, .slice A3 n3 c3, .slice none 0 0, .slice none 0 0]) := Lib.hid (by have := HBp_14.out.put 4 (.slice A3 n3 c3); simpa using this)
    have HTt1_15 := Lib.hid (HTt1_14.out.keep (Only.kept9 ((Only.refl (r := w.heap.size + 1) (w := u14)).setCell (p := ⟨w.heap.size + 1, 4, none⟩) rfl (.slice A3 n3 c3)) (fun b hb => by have hb : w.heap.size + 2 ≤ b := hb; show b ≠ w.heap.size + 1; omega)) (fun _ h _ => h))
    have HTt3_15 := Lib.hid (HTt3_14.out.keep (Only.kept9 ((Only.refl (r := w.heap.size + 1) (w := u14)).setCell (p := ⟨w.heap.size + 1, 4, none⟩) rfl (.slice A3 n3 c3)) (fun b hb => by have hb : w.heap.size + 2 ≤ b := hb; show b ≠ w.heap.size + 1; omega)) (fun _ h _ => h))
    go_wp2_with fail
    go_at_call 43
    refine (pmust_lit HR15.out [m_rb] #[.string ⟨#[125]⟩] 1 rfl rfl (by omega) (by first | rfl | (simp; done) | (simp [World.setCell]; done))).mono ?_
    rintro x u16 ⟨rfl, ho, hr⟩
    rw [E7.out] at hr
    have HO16 := Lib.hid (HO15.out.trans ho)
    have HR16 := Lib.hid hr
    have HBr_16 := Lib.hid (HBr_15.out.keep (ho.heap HBr_15.out.lt (by have := HG.out; omega)))
    have HBp_16 := Lib.hid (HBp_15.out.keep (ho.heap HBp_15.out.lt (by have := HG.out; omega)))
    have HTt1_16 := Lib.hid (HTt1_15.out.keep (ho.kept9 (fun b hb => by have := HG.out; have hb : w.heap.size + 2 ≤ b := hb; show b ≠ g; omega)) (fun _ h _ => h))
    have HTt3_16 := Lib.hid (HTt3_15.out.keep (ho.kept9 (fun b hb => by have := HG.out; have hb : w.heap.size + 2 ≤ b := hb; show b ≠ g; omega)) (fun _ h _ => h))
    clear ho hr
    go_wp2_with fail
    go_at_call 48
    refine (pduts_any HR16.out).mono ?_
    rintro x u17 ⟨A4, n4, c4, rfl, ho, hr, ht4⟩
    rw [E8.out] at hr ht4
    have HO17 := Lib.hid (HO16.out.trans ho)
    have HR17 := Lib.hid hr
    have HBr_17 := Lib.hid (HBr_16.out.keep (ho.heap HBr_16.out.lt (by have := HG.out; omega)))
    have HBp_17 := Lib.hid (HBp_16.out.keep (ho.heap HBp_16.out.lt (by have := HG.out; omega)))
    have HTt1_17 := Lib.hid (HTt1_16.out.keep (ho.kept9 (fun b hb => by have := HG.out; have hb : w.heap.size + 2 ≤ b := hb; show b ≠ g; omega)) (fun _ h _ => h))
    have HTt3_17 := Lib.hid (HTt3_16.out.keep (ho.kept9 (fun b hb => by have := HG.out; have hb : w.heap.size + 2 ≤ b := hb; show b ≠ g; omega)) (fun _ h _ => h))
    have HTt4_17 := Lib.hid (ht4.keep (Kept.refl _ _) (R' := fun b => w.heap.size + 2 ≤ b) (fun b hb _ => by have hb : (u16).heap.size ≤ b := hb; have := HBp_16.out.lt; show w.heap.size + 2 ≤ b; omega))
    clear ho hr ht4
    have c18 := HBp_17.out.cell 6
    have f18 := HBp_17.out.frozen 6
    have HO18 := Lib.hid (HO17.out.new (r := w.heap.size + 1) (by have := HG.out; omega) 6 (.slice A4 n4 c4))
    have HR18 := Lib.hid (HR17.out.set (r := w.heap.size + 1) (by have := HG.out; omega) 6 (.slice A4 n4 c4))
    have HBr_18 := Lib.hid (HBr_17.out.keep (Below.heap_setCell u17 ⟨w.heap.size + 1, 6, none⟩ (.slice A4 n4 c4) _ (by show w.heap.size ≠ w.heap.size + 1; have := HG.out; omega)))
    have HBp_18 : Hid (Ob (u17.setCell ⟨w.heap.size + 1, 6, none⟩ (.slice A4 n4 c4)) (w.heap.size + 1) 32 #[.string nm, .bool false, .int .i64 (al : Int), .slice A1 n1 c1, .slice A3 n3 c3, .slice none 0 0, .slice A4 n4 c4]) := Lib.hid (by have := HBp_17.out.put 6 (.slice A4 n4 c4); simpa using this)
    have HTt1_18 := Lib.hid (HTt1_17.out.keep (Only.kept9 ((Only.refl (r := w.heap.size + 1) (w := u17)).setCell (p := ⟨w.heap.size + 1, 6, none⟩) rfl (.slice A4 n4 c4)) (fun b hb => by have hb : w.heap.size + 2 ≤ b := hb; show b ≠ w.heap.size + 1; omega)) (fun _ h _ => h))
    have HTt3_18 := Lib.hid (HTt3_17.out.keep (Only.kept9 ((Only.refl (r := w.heap.size + 1) (w := u17)).setCell (p := ⟨w.heap.size + 1, 6, none⟩) rfl (.slice A4 n4 c4)) (fun b hb => by have hb : w.heap.size + 2 ≤ b := hb; show b ≠ w.heap.size + 1; omega)) (fun _ h _ => h))
    have HTt4_18 := Lib.hid (HTt4_17.out.keep (Only.kept9 ((Only.refl (r := w.heap.size + 1) (w := u17)).setCell (p := ⟨w.heap.size + 1, 6, none⟩) rfl (.slice A4 n4 c4)) (fun b hb => by have hb : w.heap.size + 2 ≤ b := hb; show b ≠ w.heap.size + 1; omega)) (fun _ h _ => h))
    have c19_0 := HBp_18.out.cell 0
    have c19_1 := HBp_18.out.cell 1
    have c19_2 := HBp_18.out.cell 2
    have c19_3 := HBp_18.out.cell 3
    have c19_4 := HBp_18.out.cell 4
    have c19_5 := HBp_18.out.cell 5
    have c19_6 := HBp_18.out.cell 6
    have c20 := HBr_18.out.cell 0
    have f20 := HBr_18.out.frozen 0
    have HO20 := Lib.hid (HO18.out.new (r := w.heap.size) (by have := HG.out; omega) 0 (.string nm))
    have HR20 := Lib.hid (HR18.out.set (r := w.heap.size) (by have := HG.out; omega) 0 (.string nm))
    have HBr_20 : Hid (Ob ((u17.setCell ⟨w.heap.size + 1, 6, none⟩ (.slice A4 n4 c4)).setCell ⟨w.heap.size, 0, none⟩ (.string nm)) (w.heap.size) 32 #[.string nm, .bool false, .int .i64 0, .slice none 0 0, .slice none 0 0, .slice none 0 0, .slice none 0 0]) := Lib.hid (by have := HBr_18.out.put 0 (.string nm); simpa using this)
    have HBp_20 := Lib.hid (HBp_18.out.keep (Below.heap_setCell (u17.setCell ⟨w.heap.size + 1, 6, none⟩ (.slice A4 n4 c4)) ⟨w.heap.size, 0, none⟩ (.string nm) _ (by show w.heap.size + 1 ≠ w.heap.size; have := HG.out; omega)))
    have HTt1_20 := Lib.hid (HTt1_18.out.keep (Only.kept9 ((Only.refl (r := w.heap.size) (w := (u17.setCell ⟨w.heap.size + 1, 6, none⟩ (.slice A4 n4 c4)))).setCell (p := ⟨w.heap.size, 0, none⟩) rfl (.string nm)) (fun b hb => by have hb : w.heap.size + 2 ≤ b := hb; show b ≠ w.heap.size; omega)) (fun _ h _ => h))
    have HTt3_20 := Lib.hid (HTt3_18.out.keep (Only.kept9 ((Only.refl (r := w.heap.size) (w := (u17.setCell ⟨w.heap.size + 1, 6, none⟩ (.slice A4 n4 c4)))).setCell (p := ⟨w.heap.size, 0, none⟩) rfl (.string nm)) (fun b hb => by have hb : w.heap.size + 2 ≤ b := hb; show b ≠ w.heap.size; omega)) (fun _ h _ => h))
    have HTt4_20 := Lib.hid (HTt4_18.out.keep (Only.kept9 ((Only.refl (r := w.heap.size) (w := (u17.setCell ⟨w.heap.size + 1, 6, none⟩ (.slice A4 n4 c4)))).setCell (p := ⟨w.heap.size, 0, none⟩) rfl (.string nm)) (fun b hb => by have hb : w.heap.size + 2 ≤ b := hb; show b ≠ w.heap.size; omega)) (fun _ h _ => h))
    have c21 := HBr_20.out.cell 1
    have f21 := HBr_20.out.frozen 1
    have HO21 := Lib.hid (HO20.out.new (r := w.heap.size) (by have := HG.out; omega) 1 (.bool false))
    have HR21 := Lib.hid (HR20.out.set (r := w.heap.size) (by have := HG.out; omega) 1 (.bool false))
    have HBr_21 : Hid (Ob (((u17.setCell ⟨w.heap.size + 1, 6, none⟩ (.slice A4 n4 c4)).setCell ⟨w.heap.size, 0, none⟩ (.string nm)).setCell ⟨w.heap.size, 1, none⟩ (.bool false)) (w.heap.size) 32 #[.string nm, .bool false, .int .i64 0, .slice none 0 0, .slice none 0 0, .slice none 0 0, .slice none 0 0]) := Lib.hid (by have := HBr_20.out.put 1 (.bool false); simpa using this)
    have HBp_21 := Lib.hid (HBp_20.out.keep (Below.heap_setCell ((u17.setCell ⟨w.heap.size + 1, 6, none⟩ (.slice A4 n4 c4)).setCell ⟨w.heap.size, 0, none⟩ (.string nm)) ⟨w.heap.size, 1, none⟩ (.bool false) _ (by show w.heap.size + 1 ≠ w.heap.size; have := HG.out; omega)))
    have HTt1_21 := Lib.hid (HTt1_20.out.keep (Only.kept9 ((Only.refl (r := w.heap.size) (w := ((u17.setCell ⟨w.heap.size + 1, 6, none⟩ (.slice A4 n4 c4)).setCell ⟨w.heap.size, 0, none⟩ (.string nm)))).setCell (p := ⟨w.heap.size, 1, none⟩) rfl (.bool false)) (fun b hb => by have hb : w.heap.size + 2 ≤ b := hb; show b ≠ w.heap.size; omega)) (fun _ h _ => h))
    have HTt3_21 := Lib.hid (HTt3_20.out.keep (Only.kept9 ((Only.refl (r := w.heap.size) (w := ((u17.setCell ⟨w.heap.size + 1, 6, none⟩ (.slice A4 n4 c4)).setCell ⟨w.heap.size, 0, none⟩ (.string nm)))).setCell (p := ⟨w.heap.size, 1, none⟩) rfl (.bool false)) (fun b hb => by have hb : w.heap.size + 2 ≤ b := hb; show b ≠ w.heap.size; omega)) (fun _ h _ => h))
    have HTt4_21 := Lib.hid (HTt4_20.out.keep (Only.kept9 ((Only.refl (r := w.heap.size) (w := ((u17.setCell ⟨w.heap.size + 1, 6, none⟩ (.slice A4 n4 c4)).setCell ⟨w.heap.size, 0, none⟩ (.string nm)))).setCell (p := ⟨w.heap.size, 1, none⟩) rfl (.bool false)) (fun b hb => by have hb : w.heap.size + 2 ≤ b := hb; show b ≠ w.heap.size; omega)) (fun _ h _ => h))
    have c22 := HBr_21.out.cell 2
    have f22 := HBr_21.out.frozen 2
    have HO22 := Lib.hid (HO21.out.new (r := w.heap.size) (by have := HG.out; omega) 2 (.int .i64 (al : Int)))
    have HR22 := Lib.hid (HR21.out.set (r := w.heap.size) (by have := HG.out; omega) 2 (.int .i64 (al : Int)))
    have HBr_22 : Hid (Ob ((((u17.setCell ⟨w.heap.size + 1, 6, none⟩ (.slice A4 n4 c4)).setCell ⟨w.heap.size, 0, none⟩ (.string nm)).setCell ⟨w.heap.size, 1, none⟩ (.bool false)).setCell ⟨w.heap.size, 2, none⟩ (.int .i64 (al : Int))) (w.heap.size) 32 #[.string nm, .bool false, .int .i64 (al : Int), .slice none 0 0, .slice none 0 0, .slice none 0 0, .slice none 0 0]) := Lib.hid (by have := HBr_21.out.put 2 (.int .i64 (al : Int)); simpa using this)
    have HBp_22 := Lib.hid (HBp_21.out.keep (Below.heap_setCell (((u17.setCell ⟨w.heap.size + 1, 6, none⟩ (.slice A4 n4 c4)).setCell ⟨w.heap.size, 0, none⟩ (.string nm)).setCell ⟨w.heap.size, 1, none⟩ (.bool false)) ⟨w.heap.size, 2, none⟩ (.int .i64 (al : Int)) _ (by show w.heap.size + 1 ≠ w.heap.size; have := HG.out; omega)))
    have HTt1_22 := Lib.hid (HTt1_21.out.keep (Only.kept9 ((Only.refl (r := w.heap.size) (w := (((u17.setCell ⟨w.heap.size + 1, 6, none⟩ (.slice A4 n4 c4)).setCell ⟨w.heap.size, 0, none⟩ (.string nm)).setCell ⟨w.heap.size, 1, none⟩ (.bool false)))).setCell (p := ⟨w.heap.size, 2, none⟩) rfl (.int .i64 (al : Int))) (fun b hb => by have hb : w.heap.size + 2 ≤ b := hb; show b ≠ w.heap.size; omega)) (fun _ h _ => h))
    have HTt3_22 := Lib.hid (HTt3_21.out.keep (Only.kept9 ((Only.refl (r := w.heap.size) (w := (((u17.setCell ⟨w.heap.size + 1, 6, none⟩ (.slice A4 n4 c4)).setCell ⟨w.heap.size, 0, none⟩ (.string nm)).setCell ⟨w.heap.size, 1, none⟩ (.bool false)))).setCell (p := ⟨w.heap.size, 2, none⟩) rfl (.int .i64 (al : Int))) (fun b hb => by have hb : w.heap.size + 2 ≤ b := hb; show b ≠ w.heap.size; omega)) (fun _ h _ => h))
    have HTt4_22 := Lib.hid (HTt4_21.out.keep (Only.kept9 ((Only.refl (r := w.heap.size) (w := (((u17.setCell ⟨w.heap.size + 1, 6, none⟩ (.slice A4 n4 c4)).setCell ⟨w.heap.size, 0, none⟩ (.string nm)).setCell ⟨w.heap.size, 1, none⟩ (.bool false)))).setCell (p := ⟨w.heap.size, 2, none⟩) rfl (.int .i64 (al : Int))) (fun b hb => by have hb : w.heap.size + 2 ≤ b := hb; show b ≠ w.heap.size; omega)) (fun _ h _ => h))
    have c23 := HBr_22.out.cell 3
    have f23 := HBr_22.out.frozen 3
    have HO23 := Lib.hid (HO22.out.new (r := w.heap.size) (by have := HG.out; omega) 3 (.slice A1 n1 c1))
    have HR23 := Lib.hid (HR22.out.set (r := w.heap.size) (by have := HG.out; omega) 3 (.slice A1 n1 c1))
    have HBr_23 : Hid (Ob (((((u17.setCell ⟨w.heap.size + 1, 6, none⟩ (.slice A4 n4 c4)).setCell ⟨w.heap.size, 0, none⟩ (.string nm)).setCell ⟨w.heap.size, 1, none⟩ (.bool false)).setCell ⟨w.heap.size, 2, none⟩ (.int .i64 (al : Int))).setCell ⟨w.heap.size, 3, none⟩ (.slice A1 n1 c1)) (w.heap.size) 32 #[.string nm, .bool false, .int .i64 (al : Int), .slice A1 n1 c1, .slice none 0 0, .slice none 0 0, .slice none 0 0]) := Lib.hid (by have := HBr_22.out.put 3 (.slice A1 n1 c1); simpa using this)
    have HBp_23 := Lib.hid (HBp_22.out.keep (Below.heap_setCell ((((u17.setCell ⟨w.heap.size + 1, 6, none⟩ (.slice A4 n4 c4)).setCell ⟨w.heap.size, 0, none⟩ (.string nm)).setCell ⟨w.heap.size, 1, none⟩ (.bool false)).setCell ⟨w.heap.size, 2, none⟩ (.int .i64 (al : Int))) ⟨w.heap.size, 3, none⟩ (.slice A1 n1 c1) _ (by show w.heap.size + 1 ≠ w.heap.size; have := HG.out; omega)))
    have HTt1_23 := Lib.hid (HTt1_22.out.keep (Only.kept9 ((Only.refl (r := w.heap.size) (w := ((((u17.setCell ⟨w.heap.size + 1, 6, none⟩ (.slice A4 n4 c4)).setCell ⟨w.heap.size, 0, none⟩ (.string nm)).setCell ⟨w.heap.size, 1, none⟩ (.bool false)).setCell ⟨w.heap.size, 2, none⟩ (.int .i64 (al : Int))))).setCell (p := ⟨w.heap.size, 3, none⟩) rfl (.slice A1 n1 c1)) (fun b hb => by have hb : w.heap.size + 2 ≤ b := hb; show b ≠ w.heap.size; omega)) (fun _ h _ => h))
    have HTt3_23 := Lib.hid (HTt3_22.out.keep (Only.kept9 ((Only.refl (r := w.heap.size) (w := ((((u17.setCell ⟨w.heap.size + 1, 6, none⟩ (.slice A4 n4 c4)).setCell ⟨w.heap.size, 0, none⟩ (.string nm)).setCell ⟨w.heap.size, 1, none⟩ (.bool false)).setCell ⟨w.heap.size, 2, none⟩ (.int .i64 (al : Int))))).setCell (p := ⟨w.heap.size, 3, none⟩) rfl (.slice A1 n1 c1)) (fun b hb => by have hb : w.heap.size + 2 ≤ b := hb; show b ≠ w.heap.size; omega)) (fun _ h _ => h))
    have HTt4_23 := Lib.hid (HTt4_22.out.keep (Only.kept9 ((Only.refl (r := w.heap.size) (w := ((((u17.setCell ⟨w.heap.size + 1, 6, none⟩ (.slice A4 n4 c4)).setCell ⟨w.heap.size, 0, none⟩ (.string nm)).setCell ⟨w.heap.size, 1, none⟩ (.bool false)).setCell ⟨w.heap.size, 2, none⟩ (.int .i64 (al : Int))))).setCell (p := ⟨w.heap.size, 3, none⟩) rfl (.slice A1 n1 c1)) (fun b hb => by have hb : w.heap.size + 2 ≤ b := hb; show b ≠ w.heap.size; omega)) (fun _ h _ => h))
    have c24 := HBr_23.out.cell 4
    have f24 := HBr_23.out.frozen 4
    have HO24 := Lib.hid (HO23.out.new (r := w.heap.size) (by have := HG.out; omega) 4 (.slice A3 n3 c3))
    have HR24 := Lib.hid (HR23.out.set (r := w.heap.size) (by have := HG.out; omega) 4 (.slice A3 n3 c3))
    have HBr_24 : Hid (Ob ((((((u17.setCell ⟨w.heap.size + 1, 6, none⟩ (.slice A4 n4 c4)).setCell ⟨w.heap.size, 0, none⟩ (.string nm)).setCell ⟨w.heap.size, 1, none⟩ (.bool false)).setCell ⟨w.heap.size, 2, none⟩ (.int .i64 (al : Int))).setCell ⟨w.heap.size, 3, none⟩ (.slice A1 n1 c1)).setCell ⟨w.heap.size, 4, none⟩ (.slice A3 n3 c3)) (w.heap.size) 32 #[.string nm, .bool false, .int .i64 (al : Int), .slice A1 n1 c1, .slice A3 n3 c3, .slice none 0 0, .slice none 0 0]) := Lib.hid (by have := HBr_23.out.put 4 (.slice A3 n3 c3); simpa using this)
    have HBp_24 := Lib.hid (HBp_23.out.keep (Below.heap_setCell (((((u17.setCell ⟨w.heap.size + 1, 6, none⟩ (.slice A4 n4 c4)).setCell ⟨w.heap.size, 0, none⟩ (.string nm)).setCell ⟨w.heap.size, 1, none⟩ (.bool false)).setCell ⟨w.heap.size, 2, none⟩ (.int .i64 (al : Int))).setCell ⟨w.heap.size, 3, none⟩ (.slice A1 n1 c1)) ⟨w.heap.size, 4, none⟩ (.slice A3 n3 c3) _ (by show w.heap.size + 1 ≠ w.heap.size; have := HG.out; omega)))
    have HTt1_24 := Lib.hid (HTt1_23.out.keep (Only.kept9 ((Only.refl (r := w.heap.size) (w := (((((u17.setCell ⟨w.heap.size + 1, 6, none⟩ (.slice A4 n4 c4)).setCell ⟨w.heap.size, 0, none⟩ (.string nm)).setCell ⟨w.heap.size, 1, none⟩ (.bool false)).setCell ⟨w.heap.size, 2, none⟩ (.int .i64 (al : Int))).setCell ⟨w.heap.size, 3, none⟩ (.slice A1 n1 c1)))).setCell (p := ⟨w.heap.size, 4, none⟩) rfl (.slice A3 n3 c3)) (fun b hb => by have hb : w.heap.size + 2 ≤ b := hb; show b ≠ w.heap.size; omega)) (fun _ h _ => h))
    have HTt3_24 := Lib.hid (HTt3_23.out.keep (Only.kept9 ((Only.refl (r := w.heap.size) (w := (((((u17.setCell ⟨w.heap.size + 1, 6, none⟩ (.slice A4 n4 c4)).setCell ⟨w.heap.size, 0, none⟩ (.string nm)).setCell ⟨w.heap.size, 1, none⟩ (.bool false)).setCell ⟨w.heap.size, 2, none⟩ (.int .i64 (al : Int))).setCell ⟨w.heap.size, 3, none⟩ (.slice A1 n1 c1)))).setCell (p := ⟨w.heap.size, 4, none⟩) rfl (.slice A3 n3 c3)) (fun b hb => by have hb : w.heap.size + 2 ≤ b := hb; show b ≠ w.heap.size; omega)) (fun _ h _ => h))
    have HTt4_24 := Lib.hid (HTt4_23.out.keep (Only.kept9 ((Only.refl (r := w.heap.size) (w := (((((u17.setCell ⟨w.heap.size + 1, 6, none⟩ (.slice A4 n4 c4)).setCell ⟨w.heap.size, 0, none⟩ (.string nm)).setCell ⟨w.heap.size, 1, none⟩ (.bool false)).setCell ⟨w.heap.size, 2, none⟩ (.int .i64 (al : Int))).setCell ⟨w.heap.size, 3, none⟩ (.slice A1 n1 c1)))).setCell (p := ⟨w.heap.size, 4, none⟩) rfl (.slice A3 n3 c3)) (fun b hb => by have hb : w.heap.size + 2 ≤ b := hb; show b ≠ w.heap.size; omega)) (fun _ h _ => h))
    have c25 := HBr_24.out.cell 5
    have f25 := HBr_24.out.frozen 5
    have HO25 := Lib.hid (HO24.out.new (r := w.heap.size) (by have := HG.out; omega) 5 (.slice none 0 0))
    have HR25 := Lib.hid (HR24.out.set (r := w.heap.size) (by have := HG.out; omega) 5 (.slice none 0 0))
    have HBr_25 : Hid (Ob (((((((u17.setCell ⟨w.heap.size + 1, 6, none⟩ (.slice A4 n4 c4)).setCell ⟨w.heap.size, 0, none⟩ (.string nm)).setCell ⟨w.heap.size, 1, none⟩ (.bool false)).setCell ⟨w.heap.size, 2, none⟩ (.int .i64 (al : Int))).setCell ⟨w.heap.size, 3, none⟩ (.slice A1 n1 c1)).setCell ⟨w.heap.size, 4, none⟩ (.slice A3 n3 c3)).setCell ⟨w.heap.size, 5, none⟩ (.slice none 0 0)) (w.heap.size) 32 #[.string nm, .bool false, .int .i64 (al : Int), .slice A1 n1 c1, .slice A3 n3 c3, .slice none 0 0, .slice none 0 0]) := Lib.hid (by have := HBr_24.out.put 5 (.slice none 0 0); simpa using this)
    have HBp_25 := Lib.hid (HBp_24.out.keep (Below.heap_setCell ((((((u17.setCell ⟨w.heap.size + 1, 6, none⟩ (.slice A4 n4 c4)).setCell ⟨w.heap.size, 0, none⟩ (.string nm)).setCell ⟨w.heap.size, 1, none⟩ (.bool false)).setCell ⟨w.heap.size, 2, none⟩ (.int .i64 (al : Int))).setCell ⟨w.heap.size, 3, none⟩ (.slice A1 n1 c1)).setCell ⟨w.heap.size, 4, none⟩ (.slice A3 n3 c3)) ⟨w.heap.size, 5, none⟩ (.slice none 0 0) _ (by show w.heap.size + 1 ≠ w.heap.size; have := HG.out; omega)))
    have HTt1_25 := Lib.hid (HTt1_24.out.keep (Only.kept9 ((Only.refl (r := w.heap.size) (w := ((((((u17.setCell ⟨w.heap.size + 1, 6, none⟩ (.slice A4 n4 c4)).setCell ⟨w.heap.size, 0, none⟩ (.string nm)).setCell ⟨w.heap.size, 1, none⟩ (.bool false)).setCell ⟨w.heap.size, 2, none⟩ (.int .i64 (al : Int))).setCell ⟨w.heap.size, 3, none⟩ (.slice A1 n1 c1)).setCell ⟨w.heap.size, 4, none⟩ (.slice A3 n3 c3)))).setCell (p := ⟨w.heap.size, 5, none⟩) rfl (.slice none 0 0)) (fun b hb => by have hb : w.heap.size + 2 ≤ b := hb; show b ≠ w.heap.size; omega)) (fun _ h _ => h))
    have HTt3_25 := Lib.hid (HTt3_24.out.keep (Only.kept9 ((Only.refl (r := w.heap.size) (w := ((((((u17.setCell ⟨w.heap.size + 1, 6, none⟩ (.slice A4 n4 c4)).setCell ⟨w.heap.size, 0, none⟩ (.string nm)).setCell ⟨w.heap.size, 1, none⟩ (.bool false)).setCell ⟨w.heap.size, 2, none⟩ (.int .i64 (al : Int))).setCell ⟨w.heap.size, 3, none⟩ (.slice A1 n1 c1)).setCell ⟨w.heap.size, 4, none⟩ (.slice A3 n3 c3)))).setCell (p := ⟨w.heap.size, 5, none⟩) rfl (.slice none 0 0)) (fun b hb => by have hb : w.heap.size + 2 ≤ b := hb; show b ≠ w.heap.size; omega)) (fun _ h _ => h))
    have HTt4_25 := Lib.hid (HTt4_24.out.keep (Only.kept9 ((Only.refl (r := w.heap.size) (w := ((((((u17.setCell ⟨w.heap.size + 1, 6, none⟩ (.slice A4 n4 c4)).setCell ⟨w.heap.size, 0, none⟩ (.string nm)).setCell ⟨w.heap.size, 1, none⟩ (.bool false)).setCell ⟨w.heap.size, 2, none⟩ (.int .i64 (al : Int))).setCell ⟨w.heap.size, 3, none⟩ (.slice A1 n1 c1)).setCell ⟨w.heap.size, 4, none⟩ (.slice A3 n3 c3)))).setCell (p := ⟨w.heap.size, 5, none⟩) rfl (.slice none 0 0)) (fun b hb => by have hb : w.heap.size + 2 ≤ b := hb; show b ≠ w.heap.size; omega)) (fun _ h _ => h))
    have c26 := HBr_25.out.cell 6
    have f26 := HBr_25.out.frozen 6
    have HO26 := Lib.hid (HO25.out.new (r := w.heap.size) (by have := HG.out; omega) 6 (.slice A4 n4 c4))
    have HR26 := Lib.hid (HR25.out.set (r := w.heap.size) (by have := HG.out; omega) 6 (.slice A4 n4 c4))
    have HBr_26 : Hid (Ob ((((((((u17.setCell ⟨w.heap.size + 1, 6, none⟩ (.slice A4 n4 c4)).setCell ⟨w.heap.size, 0, none⟩ (.string nm)).setCell ⟨w.heap.size, 1, none⟩ (.bool false)).setCell ⟨w.heap.size, 2, none⟩ (.int .i64 (al : Int))).setCell ⟨w.heap.size, 3, none⟩ (.slice A1 n1 c1)).setCell ⟨w.heap.size, 4, none⟩ (.slice A3 n3 c3)).setCell ⟨w.heap.size, 5, none⟩ (.slice none 0 0)).setCell ⟨w.heap.size, 6, none⟩ (.slice A4 n4 c4)) (w.heap.size) 32 #[.string nm, .bool false, .int .i64 (al : Int), .slice A1 n1 c1, .slice A3 n3 c3, .slice none 0 0, .slice A4 n4 c4]) := Lib.hid (by have := HBr_25.out.put 6 (.slice A4 n4 c4); simpa using this)
    have HBp_26 := Lib.hid (HBp_25.out.keep (Below.heap_setCell (((((((u17.setCell ⟨w.heap.size + 1, 6, none⟩ (.slice A4 n4 c4)).setCell ⟨w.heap.size, 0, none⟩ (.string nm)).setCell ⟨w.heap.size, 1, none⟩ (.bool false)).setCell ⟨w.heap.size, 2, none⟩ (.int .i64 (al : Int))).setCell ⟨w.heap.size, 3, none⟩ (.slice A1 n1 c1)).setCell ⟨w.heap.size, 4, none⟩ (.slice A3 n3 c3)).setCell ⟨w.heap.size, 5, none⟩ (.slice none 0 0)) ⟨w.heap.size, 6, none⟩ (.slice A4 n4 c4) _ (by show w.heap.size + 1 ≠ w.heap.size; have := HG.out; omega)))
    have HTt1_26 := Lib.hid (HTt1_25.out.keep (Only.kept9 ((Only.refl (r := w.heap.size) (w := (((((((u17.setCell ⟨w.heap.size + 1, 6, none⟩ (.slice A4 n4 c4)).setCell ⟨w.heap.size, 0, none⟩ (.string nm)).setCell ⟨w.heap.size, 1, none⟩ (.bool false)).setCell ⟨w.heap.size, 2, none⟩ (.int .i64 (al : Int))).setCell ⟨w.heap.size, 3, none⟩ (.slice A1 n1 c1)).setCell ⟨w.heap.size, 4, none⟩ (.slice A3 n3 c3)).setCell ⟨w.heap.size, 5, none⟩ (.slice none 0 0)))).setCell (p := ⟨w.heap.size, 6, none⟩) rfl (.slice A4 n4 c4)) (fun b hb => by have hb : w.heap.size + 2 ≤ b := hb; show b ≠ w.heap.size; omega)) (fun _ h _ => h))
    have HTt3_26 := Lib.hid (HTt3_25.out.keep (Only.kept9 ((Only.refl (r := w.heap.size) (w := (((((((u17.setCell ⟨w.heap.size + 1, 6, none⟩ (.slice A4 n4 c4)).setCell ⟨w.heap.size, 0, none⟩ (.string nm)).setCell ⟨w.heap.size, 1, none⟩ (.bool false)).setCell ⟨w.heap.size, 2, none⟩ (.int .i64 (al : Int))).setCell ⟨w.heap.size, 3, none⟩ (.slice A1 n1 c1)).setCell ⟨w.heap.size, 4, none⟩ (.slice A3 n3 c3)).setCell ⟨w.heap.size, 5, none⟩ (.slice none 0 0)))).setCell (p := ⟨w.heap.size, 6, none⟩) rfl (.slice A4 n4 c4)) (fun b hb => by have hb : w.heap.size + 2 ≤ b := hb; show b ≠ w.heap.size; omega)) (fun _ h _ => h))
    have HTt4_26 := Lib.hid (HTt4_25.out.keep (Only.kept9 ((Only.refl (r := w.heap.size) (w := (((((((u17.setCell ⟨w.heap.size + 1, 6, none⟩ (.slice A4 n4 c4)).setCell ⟨w.heap.size, 0, none⟩ (.string nm)).setCell ⟨w.heap.size, 1, none⟩ (.bool false)).setCell ⟨w.heap.size, 2, none⟩ (.int .i64 (al : Int))).setCell ⟨w.heap.size, 3, none⟩ (.slice A1 n1 c1)).setCell ⟨w.heap.size, 4, none⟩ (.slice A3 n3 c3)).setCell ⟨w.heap.size, 5, none⟩ (.slice none 0 0)))).setCell (p := ⟨w.heap.size, 6, none⟩) rfl (.slice A4 n4 c4)) (fun b hb => by have hb : w.heap.size + 2 ≤ b := hb; show b ≠ w.heap.size; omega)) (fun _ h _ => h))
    go_wp2_with fail
    refine bodyPost_ret (policy_ret rfl rfl HBr_26.out rfl) rfl ?_
    rw [HIN.out.2.1, hqi]
    exact ⟨_, rfl, HO26.out, HR26.out, A1, n1, c1, A3, n3, c3, none, 0, 0, A4, n4, c4, rfl, A1, n1, c1, A3, n3, c3, none, 0, 0, A4, n4, c4, rfl, HNM.out, HAL.out, HTt1_26.out.keep (Kept.refl _ _) (fun b hb _ => by have hb : w.heap.size + 2 ≤ b := hb; show w.heap.size ≤ b; omega), HTt3_26.out.keep (Kept.refl _ _) (fun b hb _ => by have hb : w.heap.size + 2 ≤ b := hb; show w.heap.size ≤ b; omega), Rw.nil_ _ _ _ _, HTt4_26.out.keep (Kept.refl _ _) (fun b hb _ => by have hb : w.heap.size + 2 ≤ b := hb; show w.heap.size ≤ b; omega)⟩
theorem pol_read_all : ∀ f, f ≤ 4 → POk L g f
  | 0, _ => pol_read 0 (fun f' e => by omega)
  | f + 1, h => pol_read (f + 1) (fun f' e => by obtain rfl : f = f' := by omega
                                                 exact pol_read_all f (by omega))
end
end Go.Proofs.Ytadjfkgnoklmiaa
/- The small functions of bytes of package lex. -/
namespace Go.Proofs.Ytadjfkgnoklmiaa
set_option linter.unusedVariables false
open Go.RowKit

theorem lett_t {c : UInt8} (h : 97 ≤ (c.toNat : Int) ∧ (c.toNat : Int) ≤ 122) : lett c = true := by unfold lett; simp; omega
theorem lett_f {c : UInt8} (h : (c.toNat : Int) < 97 ∨ 122 < (c.toNat : Int)) : lett c = false := by unfold lett; simp; omega
theorem dgt_t {c : UInt8} (h : 48 ≤ (c.toNat : Int) ∧ (c.toNat : Int) ≤ 57) : dgt c = true := by unfold dgt; simp; omega
theorem dgt_f {c : UInt8} (h : (c.toNat : Int) < 48 ∨ 57 < (c.toNat : Int)) : dgt c = false := by unfold dgt; simp; omega
theorem inm_eq (c : UInt8) : inm c = (lett c || dgt c || decide (c.toNat = 95)) := by unfold inm later dgt; rw [Bool.or_assoc]

set_option maxHeartbeats 800000 in
theorem blank_any (c : UInt8) (w : World) : Calls Try.prog 33 #[.int .u8 (c.toNat : Int)] w fun e w' => e = .returned (.bool (blk c)) ∧ w' = w := by
  have hb : blk c = (((c.toNat : Int) == 32) || ((c.toNat : Int) == 10)) := by unfold blk; rw [Bool.eq_iff_iff]; simp; omega
  have HB := Lib.hid hb
  clear hb
  by_cases h1 : (c.toNat : Int) = 32
  · have e1 : ((c.toNat : Int) == 32) = true := by rw [h1]; rfl
    have H1 := Lib.hid h1
    clear h1
    go_enter Try.func33, Try.ntmps33
    go_wp2_with fail
    go_ret
    exact ⟨ret_bool (by rw [HB.out, H1.out]; rfl), rfl⟩
  · have e1 : ((c.toNat : Int) == 32) = false := by rw [beq_eq_false_iff_ne]; exact h1
    have H1 := Lib.hid e1
    clear h1
    go_enter Try.func33, Try.ntmps33
    go_wp2_with fail
    go_ret
    exact ⟨ret_bool (by rw [HB.out, H1.out]; rfl), rfl⟩

set_option maxHeartbeats 800000 in
theorem letter_any (c : UInt8) (w : World) : Calls Try.prog 34 #[.int .u8 (c.toNat : Int)] w fun e w' => e = .returned (.bool (lett c)) ∧ w' = w := by
  have three : (c.toNat : Int) < 97 ∨ (97 ≤ (c.toNat : Int) ∧ (c.toNat : Int) ≤ 122) ∨ (97 ≤ (c.toNat : Int) ∧ 122 < (c.toNat : Int)) := by omega
  rcases three with h | h | h
  all_goals
    go_enter Try.func34, Try.ntmps34
    go_wp2_with fail
    go_ret
  · exact ⟨ret_bool (lett_f (by omega)).symm, rfl⟩
  · exact ⟨ret_bool (lett_t h).symm, rfl⟩
  · exact ⟨ret_bool (by rw [decide_eq_false (by omega), lett_f (by omega)]), rfl⟩

set_option maxHeartbeats 800000 in
theorem digit_any (c : UInt8) (w : World) : Calls Try.prog 35 #[.int .u8 (c.toNat : Int)] w fun e w' => e = .returned (.bool (dgt c)) ∧ w' = w := by
  have three : (c.toNat : Int) < 48 ∨ (48 ≤ (c.toNat : Int) ∧ (c.toNat : Int) ≤ 57) ∨ (48 ≤ (c.toNat : Int) ∧ 57 < (c.toNat : Int)) := by omega
  rcases three with h | h | h
  all_goals
    go_enter Try.func35, Try.ntmps35
    go_wp2_with fail
    go_ret
  · exact ⟨ret_bool (dgt_f (by omega)).symm, rfl⟩
  · exact ⟨ret_bool (dgt_t h).symm, rfl⟩
  · exact ⟨ret_bool (by rw [decide_eq_false (by omega), dgt_f (by omega)]), rfl⟩

set_option maxHeartbeats 800000 in
theorem inName_any (c : UInt8) (w : World) : Calls Try.prog 36 #[.int .u8 (c.toNat : Int)] w fun e w' => e = .returned (.bool (inm c)) ∧ w' = w := by
  have hi := inm_eq c
  have hl := letter_any c w
  have hd := digit_any c w
  have h95 : decide (c.toNat = 95) = ((c.toNat : Int) == 95) := by rw [Bool.eq_iff_iff]; simp; omega
  rw [h95] at hi
  have HI := Lib.hid hi
  have HL := Lib.hid hl
  have HD := Lib.hid hd
  clear hi hl hd h95
  cases h1 : lett c with
  | true =>
    rw [h1] at HI HL
    clear h1
    go_enter Try.func36, Try.ntmps36
    go_wp2_with (go_at_call 34; refine HL.out.mono ?_; rintro e w' ⟨rfl, rfl⟩)
    go_ret
    exact ⟨ret_bool (by rw [HI.out]; rfl), rfl⟩
  | false =>
    rw [h1] at HI HL
    clear h1
    cases h2 : dgt c with
    | true =>
      rw [h2] at HI HD
      clear h2
      go_enter Try.func36, Try.ntmps36
      go_wp2_with (first | (go_at_call 34; refine HL.out.mono ?_; rintro e w' ⟨rfl, rfl⟩) | (go_at_call 35; refine HD.out.mono ?_; rintro e w' ⟨rfl, rfl⟩))
      go_ret
      exact ⟨ret_bool (by rw [HI.out]; rfl), rfl⟩
    | false =>
      rw [h2] at HI HD
      clear h2
      go_enter Try.func36, Try.ntmps36
      go_wp2_with (first | (go_at_call 34; refine HL.out.mono ?_; rintro e w' ⟨rfl, rfl⟩) | (go_at_call 35; refine HD.out.mono ?_; rintro e w' ⟨rfl, rfl⟩))
      go_ret
      exact ⟨ret_bool (by rw [HI.out]; rfl), rfl⟩
end Go.Proofs.Ytadjfkgnoklmiaa
/- past: on, as long as there are such bytes. -/
namespace Go.Proofs.Ytadjfkgnoklmiaa
set_option linter.unusedVariables false
open Go.RowKit

def PastTo (l : List UInt8) (p : UInt8 → Bool) (a k : Nat) : Prop := k + ((l.drop k).takeWhile p).length = a + ((l.drop a).takeWhile p).length
theorem PastTo.step {l : List UInt8} {p : UInt8 → Bool} {a k : Nat} {c : UInt8} (h : PastTo l p a k) (hc : l[k]? = some c) (hp : p c = true) : PastTo l p a (k + 1) := by
  obtain ⟨hk, e⟩ := List.getElem?_eq_some_iff.1 hc
  unfold PastTo at h ⊢
  rw [← h, List.drop_eq_getElem_cons hk, e, List.takeWhile_cons, if_pos hp, List.length_cons]
  omega
theorem PastTo.stop {l : List UInt8} {p : UInt8 → Bool} {a k : Nat} {c : UInt8} (h : PastTo l p a k) (hc : l[k]? = some c) (hp : p c = false) : k = a + ((l.drop a).takeWhile p).length := by
  obtain ⟨hk, e⟩ := List.getElem?_eq_some_iff.1 hc
  unfold PastTo at h
  rw [← h, List.drop_eq_getElem_cons hk, e, List.takeWhile_cons, if_neg (by rw [hp]; simp)]
  simp
theorem PastTo.end {l : List UInt8} {p : UInt8 → Bool} {a k : Nat} (h : PastTo l p a k) (hk : l.length ≤ k) : k = a + ((l.drop a).takeWhile p).length := by
  unfold PastTo at h
  rw [← h, List.drop_of_length_le hk]
  simp

set_option maxHeartbeats 1600000 in
theorem past_blank (s : ByteArray) (hs : s.size ≤ maxLen) (a : Nat) (ha : a ≤ s.size) (w : World) :
    Calls Try.prog 32 #[.string s, .int .i64 (a : Int), .func (.func 33) #[] #[]] w fun e w' => e = .returned (.int .i64 ((a + ((s.data.toList.drop a).takeWhile blk).length : Nat) : Int)) ∧ w' = w := by
  have hl := data_len s
  generalize hL : s.data.toList = l at *
  have HD : Hid (∀ k (h : k < s.size), l[k]? = some s[k]) := by
    show ∀ k (h : k < s.size), l[k]? = some s[k]
    subst hL; exact fun k h => data_at h
  have HL := Lib.hid hl
  unfold maxLen at hs
  clear hl hL
  go_enter Try.func32, Try.ntmps32
  go_wp2_with fail
  go_loop [1] (fun i => ∃ k : Nat, k ≤ s.size ∧ i = .int .i64 k ∧ PastTo l blk a k) (fun i => s.size - (intOf i).toNat)
  case atStart => exact ⟨a, ha, rfl, rfl⟩
  case round =>
    obtain ⟨k, hk, rfl, ht⟩ := hrel
    have HT := Lib.hid ht
    clear ht
    by_cases hlt : k < s.size
    · have hi : 0 ≤ (k : Int) ∧ (k : Int) < s.size := by omega
      have hc := HD.out k hlt
      generalize hcc : s[k] = c at *
      have HC := Lib.hid hc
      clear hc
      have hf := blank_any c w
      cases hp : blk c with
      | true =>
        have HP := Lib.hid hp
        rw [hp] at hf
        have HFC := Lib.hid hf
        clear hp hf
        go_wp2_with (go_at_call 33; refine HFC.out.mono ?_; rintro e w' ⟨rfl, rfl⟩)
        go_round
        case rel => exact ⟨k + 1, by omega, by go_num, HT.out.step HC.out HP.out⟩
        case measure => simp [intOf]; omega
      | false =>
        have HP := Lib.hid hp
        rw [hp] at hf
        have HFC := Lib.hid hf
        clear hp hf
        go_wp2_with (go_at_call 33; refine HFC.out.mono ?_; rintro e w' ⟨rfl, rfl⟩)
        go_ret
        exact ⟨ret_int (by have := HT.out.stop HC.out HP.out; omega), rfl⟩
    · obtain rfl : k = s.size := by omega
      go_wp2_with fail
      go_ret
      exact ⟨ret_int (by have := HT.out.end (by rw [HL.out]; exact Nat.le_refl _); omega), rfl⟩

set_option maxHeartbeats 1600000 in
theorem past_digit (s : ByteArray) (hs : s.size ≤ maxLen) (a : Nat) (ha : a ≤ s.size) (w : World) :
    Calls Try.prog 32 #[.string s, .int .i64 (a : Int), .func (.func 35) #[] #[]] w fun e w' => e = .returned (.int .i64 ((a + ((s.data.toList.drop a).takeWhile dgt).length : Nat) : Int)) ∧ w' = w := by
  have hl := data_len s
  generalize hL : s.data.toList = l at *
  have HD : Hid (∀ k (h : k < s.size), l[k]? = some s[k]) := by
    show ∀ k (h : k < s.size), l[k]? = some s[k]
    subst hL; exact fun k h => data_at h
  have HL := Lib.hid hl
  unfold maxLen at hs
  clear hl hL
  go_enter Try.func32, Try.ntmps32
  go_wp2_with fail
  go_loop [1] (fun i => ∃ k : Nat, k ≤ s.size ∧ i = .int .i64 k ∧ PastTo l dgt a k) (fun i => s.size - (intOf i).toNat)
  case atStart => exact ⟨a, ha, rfl, rfl⟩
  case round =>
    obtain ⟨k, hk, rfl, ht⟩ := hrel
    have HT := Lib.hid ht
    clear ht
    by_cases hlt : k < s.size
    · have hi : 0 ≤ (k : Int) ∧ (k : Int) < s.size := by omega
      have hc := HD.out k hlt
      generalize hcc : s[k] = c at *
      have HC := Lib.hid hc
      clear hc
      have hf := digit_any c w
      cases hp : dgt c with
      | true =>
        have HP := Lib.hid hp
        rw [hp] at hf
        have HFC := Lib.hid hf
        clear hp hf
        go_wp2_with (go_at_call 35; refine HFC.out.mono ?_; rintro e w' ⟨rfl, rfl⟩)
        go_round
        case rel => exact ⟨k + 1, by omega, by go_num, HT.out.step HC.out HP.out⟩
        case measure => simp [intOf]; omega
      | false =>
        have HP := Lib.hid hp
        rw [hp] at hf
        have HFC := Lib.hid hf
        clear hp hf
        go_wp2_with (go_at_call 35; refine HFC.out.mono ?_; rintro e w' ⟨rfl, rfl⟩)
        go_ret
        exact ⟨ret_int (by have := HT.out.stop HC.out HP.out; omega), rfl⟩
    · obtain rfl : k = s.size := by omega
      go_wp2_with fail
      go_ret
      exact ⟨ret_int (by have := HT.out.end (by rw [HL.out]; exact Nat.le_refl _); omega), rfl⟩

set_option maxHeartbeats 1600000 in
theorem past_inName (s : ByteArray) (hs : s.size ≤ maxLen) (a : Nat) (ha : a ≤ s.size) (w : World) :
    Calls Try.prog 32 #[.string s, .int .i64 (a : Int), .func (.func 36) #[] #[]] w fun e w' => e = .returned (.int .i64 ((a + ((s.data.toList.drop a).takeWhile inm).length : Nat) : Int)) ∧ w' = w := by
  have hl := data_len s
  generalize hL : s.data.toList = l at *
  have HD : Hid (∀ k (h : k < s.size), l[k]? = some s[k]) := by
    show ∀ k (h : k < s.size), l[k]? = some s[k]
    subst hL; exact fun k h => data_at h
  have HL := Lib.hid hl
  unfold maxLen at hs
  clear hl hL
  go_enter Try.func32, Try.ntmps32
  go_wp2_with fail
  go_loop [1] (fun i => ∃ k : Nat, k ≤ s.size ∧ i = .int .i64 k ∧ PastTo l inm a k) (fun i => s.size - (intOf i).toNat)
  case atStart => exact ⟨a, ha, rfl, rfl⟩
  case round =>
    obtain ⟨k, hk, rfl, ht⟩ := hrel
    have HT := Lib.hid ht
    clear ht
    by_cases hlt : k < s.size
    · have hi : 0 ≤ (k : Int) ∧ (k : Int) < s.size := by omega
      have hc := HD.out k hlt
      generalize hcc : s[k] = c at *
      have HC := Lib.hid hc
      clear hc
      have hf := inName_any c w
      cases hp : inm c with
      | true =>
        have HP := Lib.hid hp
        rw [hp] at hf
        have HFC := Lib.hid hf
        clear hp hf
        go_wp2_with (go_at_call 36; refine HFC.out.mono ?_; rintro e w' ⟨rfl, rfl⟩)
        go_round
        case rel => exact ⟨k + 1, by omega, by go_num, HT.out.step HC.out HP.out⟩
        case measure => simp [intOf]; omega
      | false =>
        have HP := Lib.hid hp
        rw [hp] at hf
        have HFC := Lib.hid hf
        clear hp hf
        go_wp2_with (go_at_call 36; refine HFC.out.mono ?_; rintro e w' ⟨rfl, rfl⟩)
        go_ret
        exact ⟨ret_int (by have := HT.out.stop HC.out HP.out; omega), rfl⟩
    · obtain rfl : k = s.size := by omega
      go_wp2_with fail
      go_ret
      exact ⟨ret_int (by have := HT.out.end (by rw [HL.out]; exact Nat.le_refl _); omega), rfl⟩
end Go.Proofs.Ytadjfkgnoklmiaa
/- A slice of bytes as a text: string(b). -/
namespace Go.Proofs.Ytadjfkgnoklmiaa
set_option linter.unusedVariables false
open Go.RowKit

theorem conv_text {P : Program} {w : World} {src dst e : TypeId} {B n c : Nat} {A : Option Addr} {l : List UInt8} (hs : P.underlying src = some (.slice e)) (he : P.underlying e = some (.int .u8)) (hd : P.underlying dst = some .string)
    (h : Sl w B A n c (bv l)) : (convert src dst (.slice A n c)).run P w = .ok (.string ⟨l.toArray⟩) w := by
  have hlen := h.len
  rw [bv_len] at hlen
  have fin : ∀ ad : Addr, A = some ad → (∀ j u, (bv l)[j]? = some u → w.cell? (ad.add j) = some u) → (convert src dst (.slice A n c)).run P w = .ok (.string ⟨l.toArray⟩) w := by
    rintro ad rfl hc
    have hb : bv l = (l.map fun x : UInt8 => (x.toNat : Int)).map (Value.int .u8) := by simp [bv]
    have hl : (loadCells ad n).run P w = .ok ((l.map fun x : UInt8 => (x.toNat : Int)).map (Value.int .u8)).toArray w := by
      have := run_loadCells_list (P := P) w ad (bv l) hc
      rw [bv_len, hlen, hb] at this
      exact this
    rw [run_convert_bytes_string w src dst e ad n c hs he hd, run_bytesToString w ad n c _ hl, foldl_push_bytes]
    simp [ByteArray.empty, ByteArray.emptyWithCapacity, Function.comp_def]
    rfl
  rcases h.2.2.2 with h0 | ⟨b, o, e, hb, hc⟩
  · subst h0
    obtain rfl : l = [] := List.eq_nil_of_length_eq_zero hlen
    rcases A with _ | ad
    · exact run_convert_bytes_nil w src e hs he 0 c dst hd
    · exact fin ad rfl (fun j u hu => by simp [bv] at hu)
  · refine fin _ e fun j u hu => ?_
    have := hc j u hu
    by_cases hj : j = 0
    · subst hj; simpa [Addr.add] using this
    · simpa [Addr.add, hj] using this

end Go.Proofs.Ytadjfkgnoklmiaa
/- alone, sixteenth, mark, one of package lex. -/
namespace Go.Proofs.Ytadjfkgnoklmiaa
set_option linter.unusedVariables false
open Go.RowKit

theorem ret_pair {a b c d : Value} (h1 : a = c) (h2 : b = d) : Ending.returned (.tuple #[a, b]) = .returned (.tuple #[c, d]) := by rw [h1, h2]
theorem int_eq {k : IntKind} {a b : Int} (h : a = b) : Value.int k a = .int k b := by rw [h]
theorem odd8_t {c : UInt8} (h : c.toNat < 32 ∨ 126 < c.toNat ∨ c.toNat = 34 ∨ c.toNat = 92) : odd8 c = true := by simpa [odd8, or_assoc] using h
theorem odd8_f {c : UInt8} (h : ¬ (c.toNat < 32 ∨ 126 < c.toNat ∨ c.toNat = 34 ∨ c.toNat = 92)) : odd8 c = false := by
  rw [← Bool.not_eq_true]
  intro h'
  exact h (by simpa [odd8, or_assoc] using h')
theorem byte_ways7 (c : UInt8) : ((c.toNat : Int) < 32) ∨ ((32 ≤ (c.toNat : Int) ∧ 126 < (c.toNat : Int))) ∨ ((c.toNat : Int) = 34) ∨ ((c.toNat : Int) = 92) ∨ ((32 ≤ (c.toNat : Int) ∧ (c.toNat : Int) ≤ 126) ∧ ((c.toNat : Int) == 34) = false ∧ ((c.toNat : Int) == 92) = false ∧ ((c.toNat : Int) != 34) = true ∧ ((c.toNat : Int) != 92) = true) := by
  simp only [beq_eq_false_iff_ne, bne_iff_ne]; omega

set_option maxHeartbeats 800000 in
theorem alone_any (c : UInt8) (w : World) : Calls Try.prog 77 #[.int .u8 (c.toNat : Int)] w fun e w' => e = .returned (.bool (!odd8 c)) ∧ w' = w := by
  rcases byte_ways7 c with a | a | a | a | a
  case inr.inr.inl =>
    obtain rfl : c = 34 := UInt8.toNat_inj.1 (by have : (34 : UInt8).toNat = 34 := rfl; omega)
    clear a
    go_enter Try.func77, Try.ntmps77
    go_wp2_with fail
    go_ret
    exact ⟨rfl, rfl⟩
  case inr.inr.inr.inl =>
    obtain rfl : c = 92 := UInt8.toNat_inj.1 (by have : (92 : UInt8).toNat = 92 := rfl; omega)
    clear a
    go_enter Try.func77, Try.ntmps77
    go_wp2_with fail
    go_ret
    exact ⟨rfl, rfl⟩
  case inr.inr.inr.inr =>
    have HO : Hid (odd8 c = false) := odd8_f (by obtain ⟨a1, a2, a3, _⟩ := a; simp only [beq_eq_false_iff_ne] at a2 a3; omega)
    go_enter Try.func77, Try.ntmps77
    go_wp2_with fail
    go_ret
    exact ⟨ret_bool (by rw [HO.out]; rfl), rfl⟩
  all_goals
    have HO : Hid (odd8 c = true) := odd8_t (by omega)
    go_enter Try.func77, Try.ntmps77
    go_wp2_with fail
    go_ret
    exact ⟨ret_bool (by rw [HO.out]; first | rfl | exact decide_eq_false (by omega)), rfl⟩

theorem hexv_dgt {c : UInt8} (h : dgt c = true) : hexv c = some (c.toNat - 48) := by unfold hexv; rw [if_pos h]
theorem hexv_let {c : UInt8} (h : dgt c = false) (h2 : 97 ≤ c.toNat ∧ c.toNat ≤ 102) : hexv c = some (c.toNat - 87) := by unfold hexv; rw [if_neg (by rw [h]; simp), if_pos h2]
theorem hexv_none {c : UInt8} (h : dgt c = false) (h2 : ¬ (97 ≤ c.toNat ∧ c.toNat ≤ 102)) : hexv c = none := by unfold hexv; rw [if_neg (by rw [h]; simp), if_neg h2]
theorem hexv_lt {c : UInt8} {x : Nat} (h : hexv c = some x) : x < 16 := by
  unfold hexv at h
  split at h
  · rename_i hd; cases h; unfold dgt at hd; simp at hd; omega
  · split at h
    · cases h; omega
    · cases h

set_option maxHeartbeats 800000 in
theorem sixteenth_any (c : UInt8) (w : World) : Calls Try.prog 78 #[.int .u8 (c.toNat : Int)] w fun e w' => e = .returned (.tuple #[.int .u8 (((hexv c).getD 0 : Nat) : Int), .bool (hexv c).isSome]) ∧ w' = w := by
  have hd := digit_any c w
  have HD := Lib.hid hd
  have hlt := c.toNat_lt
  clear hd
  cases h : dgt c with
  | true =>
    rw [h] at HD
    have HX := Lib.hid (hexv_dgt h)
    have hb : 48 ≤ (c.toNat : Int) ∧ (c.toNat : Int) ≤ 57 := by unfold dgt at h; simp at h; omega
    clear h
    go_enter Try.func78, Try.ntmps78
    go_wp2_with (go_at_call 35; refine HD.out.mono ?_; rintro e w' ⟨rfl, rfl⟩)
    go_ret2
    exact ⟨ret_pair (int_eq (by rw [HX.out]; show (c.toNat : Int) - 48 = ((c.toNat - 48 : Nat) : Int); omega)) (by rw [HX.out]; rfl), rfl⟩
  | false =>
    rw [h] at HD
    have three : (c.toNat : Int) < 97 ∨ (97 ≤ (c.toNat : Int) ∧ (c.toNat : Int) ≤ 102) ∨ (97 ≤ (c.toNat : Int) ∧ 102 < (c.toNat : Int)) := by omega
    rcases three with a | a | a
    case inr.inl =>
      have HX := Lib.hid (hexv_let h (by omega))
      clear h
      go_enter Try.func78, Try.ntmps78
      go_wp2_with (go_at_call 35; refine HD.out.mono ?_; rintro e w' ⟨rfl, rfl⟩)
      go_ret2
      exact ⟨ret_pair (int_eq (by rw [HX.out]; show (c.toNat : Int) - 97 + 10 = ((c.toNat - 87 : Nat) : Int); omega)) (by rw [HX.out]; rfl), rfl⟩
    all_goals
      have HX := Lib.hid (hexv_none h (by omega))
      clear h
      go_enter Try.func78, Try.ntmps78
      go_wp2_with (go_at_call 35; refine HD.out.mono ?_; rintro e w' ⟨rfl, rfl⟩)
      go_ret2
      exact ⟨by rw [HX.out]; rfl, rfl⟩

theorem conv_one (c : UInt8) (w : World) : (convert 115 9 (.slice (some ⟨w.heap.size, 0, none⟩) 1 1)).run Try.prog (w.alloc (.cells #[.int .u8 (c.toNat : Int)] 5)) = .ok (.string ⟨#[c]⟩) (w.alloc (.cells #[.int .u8 (c.toNat : Int)] 5)) :=
  conv_text Try.underlying115 Try.underlying5 Try.underlying9 (Sl.lit w 5 (bv [c]) 1 rfl (by simp [maxLen]))

theorem conv_lit (c : UInt8) (k : Int) (h : (c.toNat : Int) = k) (w : World) : (convert 115 9 (.slice (some ⟨w.heap.size, 0, none⟩) 1 1)).run Try.prog (w.alloc (.cells #[.int .u8 k] 5)) = .ok (.string ⟨#[c]⟩) (w.alloc (.cells #[.int .u8 k] 5)) := by
  subst h
  exact conv_one c w

def markV (c : UInt8) : Value := .tuple #[.string (if mrk c = true then ⟨#[c]⟩ else ⟨#[]⟩), .bool (mrk c)]
theorem mrk_ways (c : UInt8) : c = 123 ∨ c = 125 ∨ c = 40 ∨ c = 41 ∨ c = 46 ∨ c = 44 ∨ c = 59 ∨ c = 61 ∨ c = 60 ∨ c = 62 ∨ c = 33 ∨ mrk c = false := by
  unfold mrk
  simp only [Bool.or_eq_false_iff, decide_eq_false_iff_not]
  by_cases c = 123 <;> by_cases c = 125 <;> by_cases c = 40 <;> by_cases c = 41 <;> by_cases c = 46 <;> by_cases c = 44 <;> by_cases c = 59 <;> by_cases c = 61 <;> by_cases c = 60 <;> by_cases c = 62 <;> by_cases c = 33 <;> simp_all
set_option maxHeartbeats 1600000 in
theorem mark_any (c : UInt8) (w : World) : Calls Try.prog 41 #[.int .u8 (c.toNat : Int)] w fun e w' => e = .returned (markV c) ∧ Below w.heap.size w w' := by
  have hc0 := conv_lit 123 123 rfl w
  have hc1 := conv_lit 125 125 rfl w
  have hc2 := conv_lit 40 40 rfl w
  have hc3 := conv_lit 41 41 rfl w
  have hc4 := conv_lit 46 46 rfl w
  have hc5 := conv_lit 44 44 rfl w
  have hc6 := conv_lit 59 59 rfl w
  have hc7 := conv_lit 61 61 rfl w
  have hc8 := conv_lit 60 60 rfl w
  have hc9 := conv_lit 62 62 rfl w
  have hc10 := conv_lit 33 33 rfl w
  have HB : Hid (∀ k : Int, Below w.heap.size w (w.alloc (.cells #[.int .u8 k] 5))) := Lib.hid fun k => (Below.refl _ _).alloc (Nat.le_refl _) _
  rcases mrk_ways c with rfl | rfl | rfl | rfl | rfl | rfl | rfl | rfl | rfl | rfl | rfl | h
  case inr.inr.inr.inr.inr.inr.inr.inr.inr.inr.inr =>
    have e : ∀ k : UInt8, mrk k = true → ((c.toNat : Int) == (k.toNat : Int)) = false := fun k hk => by
      rw [beq_eq_false_iff_ne]
      intro he
      have : c = k := UInt8.toNat_inj.1 (by omega)
      rw [this, hk] at h
      cases h
    have e1 : ((c.toNat : Int) == 123) = false := e 123 rfl
    have e2 : ((c.toNat : Int) == 125) = false := e 125 rfl
    have e3 : ((c.toNat : Int) == 40) = false := e 40 rfl
    have e4 : ((c.toNat : Int) == 41) = false := e 41 rfl
    have e5 : ((c.toNat : Int) == 46) = false := e 46 rfl
    have e6 : ((c.toNat : Int) == 44) = false := e 44 rfl
    have e7 : ((c.toNat : Int) == 59) = false := e 59 rfl
    have e8 : ((c.toNat : Int) == 61) = false := e 61 rfl
    have e9 : ((c.toNat : Int) == 60) = false := e 60 rfl
    have e10 : ((c.toNat : Int) == 62) = false := e 62 rfl
    have e11 : ((c.toNat : Int) == 33) = false := e 33 rfl
    have HH := Lib.hid h
    clear e h
    go_enter Try.func41, Try.ntmps41
    go_wp2_with fail
    go_ret2
    exact ⟨by unfold markV; rw [HH.out]; rfl, Below.refl _ _⟩
  all_goals
    go_enter Try.func41, Try.ntmps41
    go_wp2_with fail
    go_ret2
    exact ⟨rfl, HB.out _⟩
end Go.Proofs.Ytadjfkgnoklmiaa
/- name of package lex. -/
namespace Go.Proofs.Ytadjfkgnoklmiaa
set_option linter.unusedVariables false
open Go.RowKit

def nameV (s : ByteArray) : Value := .tuple #[.string (if Named s.data.toList then s else ⟨#[]⟩), .bool (decide (Named s.data.toList))]
set_option maxHeartbeats 800000 in
theorem lname_any (s : ByteArray) (w : World) (hlim : s.size ≤ 1000000) :
    Calls Try.prog 37 #[.string s] w fun e w' => e = .returned (nameV s) ∧ Below w.heap.size w w' := by
  have H := Lib.hid (clone_any s w hlim)
  have HN := Lib.hid (name_any s (by unfold maxLen; omega) w)
  clear hlim
  by_cases h : Named s.data.toList
  · have HV : Hid (nameV s = .tuple #[.string s, .bool true]) := by show _ = _; unfold nameV; rw [if_pos h, decide_eq_true h]
    rw [decide_eq_true h] at HN
    clear h
    go_enter Try.func37, Try.ntmps37
    go_wp2_with (first | (go_at_call 60; refine HN.out.mono ?_; rintro e w' ⟨rfl, rfl⟩) | (go_at_call 61; refine H.out.mono ?_; rintro e w' ⟨rfl, hb⟩))
    go_ret2
    exact ⟨by rw [HV.out]; rfl, hb⟩
  · have HV : Hid (nameV s = .tuple #[.string ⟨#[]⟩, .bool false]) := by show _ = _; unfold nameV; rw [if_neg h, decide_eq_false h]
    rw [decide_eq_false h] at HN
    clear h
    go_enter Try.func37, Try.ntmps37
    go_wp2_with (first | (go_at_call 60; refine HN.out.mono ?_; rintro e w' ⟨rfl, rfl⟩) | (go_at_call 61; refine H.out.mono ?_; rintro e w' ⟨rfl, hb⟩))
    go_ret2
    exact ⟨by rw [HV.out]; rfl, Below.refl _ _⟩
end Go.Proofs.Ytadjfkgnoklmiaa
