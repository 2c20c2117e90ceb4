/- Several texts in one: Gr, EvalMem, Make, Clone, EvalOn, VApp, AskMem, VBoxPut, AskCopied, AskPlace, AskGet, TgtW, TgtMet, ExprMem, FunNum, FunCall, ExprSmall, ExprLaws, ExprDec, FunJudge, FunCalls, VHas, ExprReck. -/
import Derived.Test.YtmoglaknmlhpgaaGreatFouB
import Derived.Test.YtmoglaknmlhpgaaGreatFouA
import Derived.Lib.Strings
import Derived.Lib.Walk
import Derived.Lib.BufferWrite
import Derived.Lib.UnsafeStr
import Derived.Laws.MakeOwn
import Derived.Deep.RegionLaw
import Derived.Laws.OwnMore
import Derived.Lib.MinMax
import Derived.Laws.ResultCell
/- Rows of the call's own that grow by one, whose elements lead to memory apart from the row itself. -/
namespace Go.Proofs.YtmoglaknmlhpgaaGreat
set_option linter.unusedVariables false
open Go.RowKit

/-- The blocks from base on but for the row's own. -/
def Nb (base : Nat) (v : Value) (b : Nat) : Prop := base ≤ b ∧ some b ≠ v.ownBlock
/-- Elements that are kept where the memory that they lead to is. -/
def Keeps {α : Type} (P : World → (Nat → Prop) → List Value → α → Prop) : Prop :=
  ∀ (w w' : World) (R R' : Nat → Prop) vs x, P w R vs x → Kept R w w' → (∀ b, R b → b < w.heap.size → R' b) → P w' R' vs x
def Gr {α : Type} (k : Nat) (P : World → (Nat → Prop) → List Value → α → Prop) (w : World) (base : Nat) (E : TypeId) (A : Option Addr) (n c : Nat) (l : List α) : Prop :=
  Ow k (P w (Nb base (.slice A n c))) w base E A n c l ∧ base ≤ w.heap.size

section
variable {α : Type} {k : Nat} {P : World → (Nat → Prop) → List Value → α → Prop} {w w' : World} {base : Nat} {E : TypeId} {A : Option Addr} {n c : Nat} {l : List α}
theorem Ow.lt {P : List Value → α → Prop} (h : Ow k P w base E A n c l) : ∀ b, (Value.slice A n c).ownBlock = some b → base ≤ b ∧ b < w.heap.size := by
  obtain ⟨raw, h1, _⟩ := h
  exact h1.lt
theorem Gr.nil (w : World) (base : Nat) (hb : base ≤ w.heap.size) : Gr k P w base E none 0 0 [] := ⟨Ow.nil _ _ _ _ _, hb⟩
theorem Gr.len (h : Gr k P w base E A n c l) : l.length = n := h.1.len
theorem Gr.below (hP : Keeps P) (h : Gr k P w base E A n c l) (hb : Below w.heap.size w w') : Gr k P w' base E A n c l :=
  ⟨(h.1.mapP (fun vs x _ hp => hP _ _ _ _ vs x hp (Kept.all hb _) (fun _ h _ => h))).below hb, Nat.le_trans h.2 hb.size⟩
/-- It reads as its list; row and elements lie from base on. -/
theorem Gr.rw (hP : Keeps P) (h : Gr k P w base E A n c l) (hbig : n ≤ 140737488351232) : Rw k (P w (fun b => base ≤ b)) w (fun b => base ≤ b) A n c l :=
  (h.1.mapP (fun vs x _ hp => hP _ _ _ (fun b => base ≤ b) vs x hp (Kept.refl _ _) (fun _ h _ => h.1))).rw hbig (fun _ _ h => h)
/-- One more, laid behind as a literal. -/
theorem Gr.push {Pg : Program} {T : TypeId} {i : TypeInfo} {z : Value} {by_ : Nat} (ht : Pg.underlying T = some (.slice E)) (hi : Pg.info? E = some i) (hz : i.zero = some z) (hs : i.size = k) (hb : i.bytes = by_) (hzs : z.cells.size = k) (hk : 0 < k) (hby : by_ ≤ 1000)
    {ty : Nat} {vs : List Value} {x : α} (hP : Keeps P) (h : Gr k P w base E A n c l) (hx : P w (Nb base (.slice A n c)) vs x) (hl : vs.length = k) (h1 : ∀ w R vs (x : α), P w R vs x → ∀ v ∈ vs, v.oneCell' = true) (hn : n < 1000000) :
    ∃ A' c' w', (Builtin.append_ #[T, T] ty #[.slice A n c, .slice (some ⟨w.heap.size, 0, none⟩) 1 1]).run Pg (w.alloc (.cells vs.toArray E)) = .ok (.slice A' (n + 1) c') w' ∧ Gr k P w' base E A' (n + 1) c' (l ++ [x]) ∧ Below base w w' := by
  have hbase := h.2
  have a1 : Below w.heap.size w (w.alloc (.cells vs.toArray E)) := (Below.refl _ _).alloc (Nat.le_refl _) _
  have h' := Gr.below hP h a1
  have hlit : Rw k (P (w.alloc (.cells vs.toArray E)) (Nb base (.slice A n c))) (w.alloc (.cells vs.toArray E)) (fun _ => True) (some ⟨w.heap.size, 0, none⟩) 1 1 [x] := by
    have := Rw.lit (P := P (w.alloc (.cells vs.toArray E)) (Nb base (.slice A n c))) (R := fun _ => True) w E (fun _ => vs) [x] (n := 1) rfl (by omega) trivial (fun _ _ => hl) (fun y hy => by simp at hy; subst hy; exact hP _ _ _ _ _ _ hx (Kept.all a1 _) (fun _ h _ => h))
    simpa using this
  obtain ⟨A', c', w', hrun, hown, hbel, hg, hob⟩ := Ow.app (ty := ty) ht hi hz hs hb hzs hk hby h'.1 hlit (h1 _ _) (by omega) h'.2
  refine ⟨A', c', w', hrun, ⟨hown.mapP fun vs x _ hp => hP _ _ _ _ vs x hp ⟨hg.size, fun b hR hlt => hg.block b hlt hR.2⟩ (fun b hR hlt => ⟨hR.1, ?_⟩), Nat.le_trans h'.2 hbel.size⟩, (a1.mono hbase).trans hbel⟩
  rcases hob with e | e
  · rw [e]; exact hR.2
  · rw [e]
    intro he
    injection he with he
    omega
end
theorem keeps_alp : Keeps AlP := fun _ _ _ _ _ _ h hk hR => h.keep hk hR
theorem keeps_anp : Keeps AnP := fun _ _ _ _ _ _ h hk hR => h.keep hk hR
theorem keeps_rul : Keeps RulAt := fun _ _ _ _ _ _ h hk hR => h.keep hk hR
theorem keeps_pol (d : Nat) : Keeps (fun w R => PolAt w R d) := fun _ _ _ _ _ _ h hk hR => PolAt.keep hk hR h
theorem matinfo : (Tryz.prog.info? 64).map (fun i => (i.zero, i.size, i.bytes)) = some (some (.agg #[.int .i64 0, .string ⟨#[]⟩, .bool false, .int .i64 0, .int .i64 0, .int .i64 0, .string ⟨#[]⟩]), 7, 72) := by kernel_rfl
/-- append([]Match{}, a...). -/
theorem copy_mats {w : World} {R : Nat → Prop} {A0 : Option Addr} {p0 c0 : Nat} {L0 : List Mat} (h0 : Ms w R A0 p0 c0 L0) (h : p0 ≤ 1000000) :
    ∃ A5 c5 w5, (Builtin.append_ #[65, 65] 65 #[.slice (some ⟨w.heap.size, 0, none⟩) 0 0, .slice A0 p0 c0]).run Tryz.prog (w.alloc (.cells #[] 64)) = .ok (.slice A5 p0 c5) w5 ∧ Below w.heap.size w w5 ∧ Ms w5 (fun b => w.heap.size ≤ b) A5 p0 c5 L0 := by
  have e1 : Below w.heap.size w (w.alloc (.cells #[] 64)) := (Below.refl _ _).alloc (Nat.le_refl _) _
  obtain ⟨i, hi, hz, hs, hb⟩ := info_of matinfo
  obtain ⟨A5, c5, w5, r5, o5, b5, _, _⟩ := append_rows (ty := 65) (c2 := c0) (m := p0) Tryz.underlying65 hi hz hs hb rfl (by omega) (by omega) (own_none w 64 7) (Ms.fl (h0.keep (Kept.all e1 R) (fun _ h _ => h))) (by omega) e1.size
  rw [Nat.zero_add] at r5 o5
  refine ⟨A5, c5, w5, r5, e1.trans b5, ?_⟩
  exact Rw.flat_own o5 (by omega) (Rw.len h0) (fun _ => rfl) (Rw.all h0) (fun _ _ h => h)
theorem copy_duts {w : World} {R : Nat → Prop} {A0 : Option Addr} {p0 c0 : Nat} {L0 : List Dut} (h0 : Dus w R A0 p0 c0 L0) (h : p0 ≤ 1000000) :
    ∃ A5 c5 w5, (Builtin.append_ #[26, 26] 26 #[.slice (some ⟨w.heap.size, 0, none⟩) 0 0, .slice A0 p0 c0]).run Tryz.prog (w.alloc (.cells #[] 42)) = .ok (.slice A5 p0 c5) w5 ∧ Below w.heap.size w w5 ∧ Dus w5 (fun b => w.heap.size ≤ b) A5 p0 c5 L0 := by
  have e1 : Below w.heap.size w (w.alloc (.cells #[] 42)) := (Below.refl _ _).alloc (Nat.le_refl _) _
  obtain ⟨A5, c5, w5, r5, o5, b5, _, _⟩ := append_duts (ty := 26) (xs := []) (own_none w 42 3) (h0.keep (Kept.all e1 R) (fun _ h _ => h)) (by omega) e1.size
  rw [Nat.zero_add] at r5 o5
  refine ⟨A5, c5, w5, r5, e1.trans b5, ?_⟩
  exact Rw.flat_own o5 (by omega) (Rw.len h0) (fun _ => rfl) (Rw.all h0) (fun _ _ h => h)
theorem copy_nods {w : World} {R : Nat → Prop} {A0 : Option Addr} {p0 c0 : Nat} {L0 : List Nod} (h0 : Nds w R A0 p0 c0 L0) (h : p0 ≤ 1000000) :
    ∃ A5 c5 w5, (Builtin.append_ #[54, 54] 54 #[.slice (some ⟨w.heap.size, 0, none⟩) 0 0, .slice A0 p0 c0]).run Tryz.prog (w.alloc (.cells #[] 58)) = .ok (.slice A5 p0 c5) w5 ∧ Below w.heap.size w w5 ∧ Nds w5 (fun b => w.heap.size ≤ b) A5 p0 c5 L0 := by
  have e1 : Below w.heap.size w (w.alloc (.cells #[] 58)) := (Below.refl _ _).alloc (Nat.le_refl _) _
  obtain ⟨A5, c5, w5, r5, o5, b5, _, _⟩ := append_nods (ty := 54) (xs := []) (own_none w 58 7) (h0.keep (Kept.all e1 R) (fun _ h _ => h)) (by omega) e1.size
  rw [Nat.zero_add] at r5 o5
  refine ⟨A5, c5, w5, r5, e1.trans b5, ?_⟩
  exact Rw.flat_own o5 (by omega) (Rw.len h0) (fun _ => rfl) (Rw.all h0) (fun _ _ h => h)
/-- One more AllOf, one more AnyOf. -/
theorem push_all {w : World} {base n c : Nat} {A : Option Addr} {l : List (List Mat)} {A1 : Option Addr} {n1 c1 : Nat} {x : List Mat} (h : Gr 1 AlP w base 65 A n c l) (hx : Ms w (Nb base (.slice A n c)) A1 n1 c1 x) (hn : n < 1000000) :
    ∃ A' c' w', (Builtin.append_ #[66, 66] 66 #[.slice A n c, .slice (some ⟨w.heap.size, 0, none⟩) 1 1]).run Tryz.prog (w.alloc (.cells #[.slice A1 n1 c1] 65)) = .ok (.slice A' (n + 1) c') w' ∧ Gr 1 AlP w' base 65 A' (n + 1) c' (l ++ [x]) ∧ Below base w w' := by
  obtain ⟨i, hi, hz, hs, hb⟩ := info_of s0info
  exact Gr.push (vs := [.slice A1 n1 c1]) (x := x) Tryz.underlying66 hi hz hs hb rfl (by omega) (by omega) keeps_alp h ⟨A1, n1, c1, rfl, hx⟩ rfl (fun _ _ _ _ => AlP.one _ _) hn
theorem push_any {w : World} {base n c : Nat} {A : Option Addr} {l : Tgt} {A1 : Option Addr} {n1 c1 : Nat} {x : List (List Mat)} (h : Gr 1 AnP w base 66 A n c l) (hx : Als w (Nb base (.slice A n c)) A1 n1 c1 x) (hn : n < 1000000) :
    ∃ A' c' w', (Builtin.append_ #[23, 23] 23 #[.slice A n c, .slice (some ⟨w.heap.size, 0, none⟩) 1 1]).run Tryz.prog (w.alloc (.cells #[.slice A1 n1 c1] 66)) = .ok (.slice A' (n + 1) c') w' ∧ Gr 1 AnP w' base 66 A' (n + 1) c' (l ++ [x]) ∧ Below base w w' := by
  obtain ⟨i, hi, hz, hs, hb⟩ := info_of s1info
  exact Gr.push (vs := [.slice A1 n1 c1]) (x := x) Tryz.underlying23 hi hz hs hb rfl (by omega) (by omega) keeps_anp h ⟨A1, n1, c1, rfl, hx⟩ rfl (fun _ _ _ _ => AnP.one _ _) hn
/-- What is new lies apart from a row that is older. -/
theorem Gr.apart {α : Type} {k : Nat} {P : World → (Nat → Prop) → List Value → α → Prop} {w : World} {base : Nat} {E : TypeId} {A : Option Addr} {n c : Nat} {l : List α} (h : Gr k P w base E A n c l) : ∀ b, w.heap.size ≤ b → Nb base (.slice A n c) b := fun b hb => by
  refine ⟨Nat.le_trans h.2 hb, fun e => ?_⟩
  have := (h.1.lt b e.symm).2
  omega
/-- A block that is known to be empty is a row of the call's own. -/
theorem own_ob {V : World} {E : TypeId} {k g base : Nat} (h : Ob V g E #[]) (hb : base ≤ g) : V.ownsRow base E k (.slice (some ⟨g, 0, none⟩) 0 0) 0 [] :=
  ⟨by simp, .inr ⟨g, 0, #[], rfl, hb, h, Nat.le_refl _, by simp [maxLen], by simp, by simp⟩⟩
/-- append to an empty row that was laid before. -/
theorem copy_duts_at {V : World} {R : Nat → Prop} {A0 : Option Addr} {p0 c0 g : Nat} {L0 : List Dut} (hg : Ob V g 42 #[]) (h0 : Dus V R A0 p0 c0 L0) (h : p0 ≤ 1000000) (hlt : g ≤ V.heap.size) :
    ∃ A5 c5 w5, (Builtin.append_ #[26, 26] 26 #[.slice (some ⟨g, 0, none⟩) 0 0, .slice A0 p0 c0]).run Tryz.prog V = .ok (.slice A5 p0 c5) w5 ∧ Below g V w5 ∧ Dus w5 (fun b => b = g ∨ b = V.heap.size) A5 p0 c5 L0 ∧ Kept (fun b => b ≠ g) V w5 := by
  obtain ⟨A5, c5, w5, r5, o5, b5, g5, t5⟩ := append_duts (ty := 26) (xs := []) (own_ob hg (Nat.le_refl g)) h0 (by omega) hlt
  rw [Nat.zero_add] at r5 o5
  exact ⟨A5, c5, w5, r5, b5, Rw.flat_own o5 (by omega) (Rw.len h0) (fun _ => rfl) (Rw.all h0) (fun ad e _ => by subst e; exact t5.elim (fun h => .inl (by injection h)) (fun h => .inr (by injection h))), g5.size, fun b hb hlt => g5.block b hlt (fun e => hb (by injection e))⟩
theorem copy_nods_at {V : World} {R : Nat → Prop} {A0 : Option Addr} {p0 c0 g : Nat} {L0 : List Nod} (hg : Ob V g 58 #[]) (h0 : Nds V R A0 p0 c0 L0) (h : p0 ≤ 1000000) (hlt : g ≤ V.heap.size) :
    ∃ A5 c5 w5, (Builtin.append_ #[54, 54] 54 #[.slice (some ⟨g, 0, none⟩) 0 0, .slice A0 p0 c0]).run Tryz.prog V = .ok (.slice A5 p0 c5) w5 ∧ Below g V w5 ∧ Nds w5 (fun b => b = g ∨ b = V.heap.size) A5 p0 c5 L0 ∧ Kept (fun b => b ≠ g) V w5 := by
  obtain ⟨A5, c5, w5, r5, o5, b5, g5, t5⟩ := append_nods (ty := 54) (xs := []) (own_ob hg (Nat.le_refl g)) h0 (by omega) hlt
  rw [Nat.zero_add] at r5 o5
  exact ⟨A5, c5, w5, r5, b5, Rw.flat_own o5 (by omega) (Rw.len h0) (fun _ => rfl) (Rw.all h0) (fun ad e _ => by subst e; exact t5.elim (fun h => .inl (by injection h)) (fun h => .inr (by injection h))), g5.size, fun b hb hlt => g5.block b hlt (fun e => hb (by injection e))⟩
end Go.Proofs.YtmoglaknmlhpgaaGreat
/- Decisions in memory: rows of duties of the call's own, rows of results. -/
namespace Go.Proofs.YtmoglaknmlhpgaaGreat
set_option linter.unusedVariables false
open Go.RowKit

/-- A row of duties of the call's own. -/
def OwD (w : World) (base : Nat) (A : Option Addr) (n c : Nat) (l : List Dut) : Prop :=
  w.ownsRow base 42 3 (.slice A n c) n (l.flatMap Dut.cells) ∧ l.length = n ∧ (∀ x ∈ l, x.ok) ∧ base ≤ w.heap.size
section
variable {w w' : World} {base n c : Nat} {A : Option Addr} {l : List Dut}
theorem OwD.nil (w : World) (base : Nat) (hb : base ≤ w.heap.size) : OwD w base none 0 0 [] := ⟨⟨by simp, .inl ⟨rfl, rfl⟩⟩, rfl, by simp, hb⟩
theorem OwD.below (h : OwD w base A n c l) (hb : Below w.heap.size w w') : OwD w' base A n c l :=
  ⟨h.1.kept (row := none) ⟨hb.os, hb.tape, hb.output, hb.size, fun k hk _ => hb.block k hk⟩ (by
    by_cases hv : (Value.slice A n c).ownBlock = none
    · exact .inl hv
    · exact .inr hv), h.2.1, h.2.2.1, Nat.le_trans h.2.2.2 hb.size⟩
theorem OwD.dus (h : OwD w base A n c l) (hn : n ≤ 1000000) : Dus w (fun b => base ≤ b) A n c l := Rw.flat_own h.1 (by omega) h.2.1 (fun _ => rfl) h.2.2.1 (fun _ _ h => h)
theorem OwD.app {m c2 : Nat} {R : Nat → Prop} {A2 : Option Addr} {ys : List Dut} (h : OwD w base A n c l) (hy : Dus w R A2 m c2 ys) (hn : n + m ≤ 1000000) (ty : Nat) :
    ∃ A' c' w', (Builtin.append_ #[26, 26] ty #[.slice A n c, .slice A2 m c2]).run Tryz.prog w = .ok (.slice A' (n + m) c') w' ∧ OwD w' base A' (n + m) c' (l ++ ys) ∧ Below base w w' := by
  obtain ⟨A', c', w', r, o, b, _, _⟩ := append_duts (ty := ty) h.1 hy hn h.2.2.2
  exact ⟨A', c', w', r, ⟨o, by rw [List.length_append, h.2.1, Rw.len hy], fun x hx => (List.mem_append.1 hx).elim (h.2.2.1 x) (Rw.all hy x), Nat.le_trans h.2.2.2 b.size⟩, b⟩
/-- One more, laid behind as a literal. -/
theorem OwD.push {x : Dut} (h : OwD w base A n c l) (hx : x.ok) (hn : n < 1000000) (ty : Nat) :
    ∃ A' c' w', (Builtin.append_ #[26, 26] ty #[.slice A n c, .slice (some ⟨w.heap.size, 0, none⟩) 1 1]).run Tryz.prog (w.alloc (.cells #[.int .i64 x.on, .int .i64 x.kind, .string x.arg] 42)) = .ok (.slice A' (n + 1) c') w' ∧ OwD w' base A' (n + 1) c' (l ++ [x]) ∧ Below base w w' := by
  have a1 : Below w.heap.size w (w.alloc (.cells #[.int .i64 x.on, .int .i64 x.kind, .string x.arg] 42)) := (Below.refl _ _).alloc (Nat.le_refl _) _
  have hl := Dus.lit w (R := fun _ => True) [x] (n := 1) rfl (by omega) trivial (fun y hy => by simp at hy; subst hy; exact hx)
  obtain ⟨A', c', w', r, o, b⟩ := (h.below a1).app (show Dus (w.alloc (.cells #[.int .i64 x.on, .int .i64 x.kind, .string x.arg] 42)) (fun _ => True) (some ⟨w.heap.size, 0, none⟩) 1 1 [x] by simpa [Dut.cells] using hl) (by omega) ty
  exact ⟨A', c', w', r, o, (a1.mono h.2.2.2).trans b⟩
end

/-- A result's cells: its mark, its duties. -/
def ResAt (w : World) (R : Nat → Prop) (vs : List Value) (r : Res) : Prop := ∃ A n c, vs = [mcell r.m, .slice A n c] ∧ Dus w R A n c r.ob
def Rss (w : World) (R : Nat → Prop) := Rw 2 (ResAt w R) w R
section
variable {w w' : World} {R R' : Nat → Prop} {A : Option Addr} {n c : Nat}
theorem ResAt.keep {vs : List Value} {r : Res} (h : ResAt w R vs r) (hk : Kept R w w') (hR : ∀ b, R b → b < w.heap.size → R' b) : ResAt w' R' vs r := by
  obtain ⟨A, n, c, e, h1⟩ := h
  exact ⟨A, n, c, e, h1.keep hk hR⟩
theorem keeps_res : Keeps ResAt := fun _ _ _ _ _ _ h hk hR => h.keep hk hR
theorem Rss.keep {l : List Res} (h : Rss w R A n c l) (hk : Kept R w w') (hR : ∀ b, R b → b < w.heap.size → R' b) : Rss w' R' A n c l := Rw.keep h hk hR fun _ _ _ h => h.keep hk hR
theorem ResAt.one {w : World} {R : Nat → Prop} (vs : List Value) (r : Res) (h : ResAt w R vs r) : ∀ v ∈ vs, v.oneCell' = true := by
  obtain ⟨A, n, c, rfl, _⟩ := h
  intro v hv
  simp at hv
  rcases hv with rfl | rfl <;> rfl
theorem Rss.at_ {l : List Res} (h : Rss w R A n c l) {j : Nat} (hj : j < n) : ∃ b o r A' n' c', A = some ⟨b, o, none⟩ ∧ R b ∧ b < w.heap.size ∧ l[j]? = some r ∧
    (w.cell? ⟨b, o + j * 2, none⟩ = some (.complex .f64 (fl r.m.1) (fl r.m.2)) ∧ w.cell? ⟨b, o + j * 2 + 1, none⟩ = some (.slice A' n' c')) ∧ Dus w R A' n' c' r.ob := by
  obtain ⟨b, o, g, vs, e, hb, hlt, hm, hl, hv, A', n', c', rfl, hin⟩ := Rw.at_ h hj
  exact ⟨b, o, g, A', n', c', e, hb, hlt, hm, ⟨hv 0 _ rfl, hv 1 _ rfl⟩, hin⟩
end
theorem resinfo : (Tryz.prog.info? 33).map (fun i => (i.zero, i.size, i.bytes)) = some (some (.agg #[.complex .f64 0 0, .slice none 0 0]), 2, 40) := by kernel_rfl
/-- One more result. -/
theorem push_res {w : World} {base n c : Nat} {A : Option Addr} {l : List Res} {A1 : Option Addr} {n1 c1 : Nat} {r : Res} (h : Gr 2 ResAt w base 33 A n c l) (hx : Dus w (Nb base (.slice A n c)) A1 n1 c1 r.ob) (hn : n < 1000000) :
    ∃ A' c' w', (Builtin.append_ #[102, 102] 102 #[.slice A n c, .slice (some ⟨w.heap.size, 0, none⟩) 1 1]).run Tryz.prog (w.alloc (.cells #[.complex .f64 (fl r.m.1) (fl r.m.2), .slice A1 n1 c1] 33)) = .ok (.slice A' (n + 1) c') w' ∧ Gr 2 ResAt w' base 33 A' (n + 1) c' (l ++ [r]) ∧ Below base w w' := by
  obtain ⟨i, hi, hz, hs, hb⟩ := info_of resinfo
  exact Gr.push (vs := [mcell r.m, .slice A1 n1 c1]) (x := r) Tryz.underlying102 hi hz hs hb rfl (by omega) (by omega) keeps_res h ⟨A1, n1, c1, rfl, hx⟩ rfl (fun _ _ _ _ => ResAt.one _ _) hn

/-- A row of marks of the call's own. -/
def OwM (w : World) (base : Nat) (A : Option Addr) (n c : Nat) (l : List Mk) : Prop := w.ownsRow base 31 1 (.slice A n c) n (mv l) ∧ l.length = n ∧ base ≤ w.heap.size
theorem OwM.nil (w : World) (base : Nat) (hb : base ≤ w.heap.size) : OwM w base none 0 0 [] := ⟨⟨by simp [mv], .inl ⟨rfl, rfl⟩⟩, rfl, hb⟩
theorem OwM.below {w w' : World} {base n c : Nat} {A : Option Addr} {l : List Mk} (h : OwM w base A n c l) (hb : Below w.heap.size w w') : OwM w' base A n c l :=
  ⟨h.1.kept (row := none) ⟨hb.os, hb.tape, hb.output, hb.size, fun k hk _ => hb.block k hk⟩ (by
    by_cases hv : (Value.slice A n c).ownBlock = none
    · exact .inl hv
    · exact .inr hv), h.2.1, Nat.le_trans h.2.2 hb.size⟩
theorem OwM.sl {w : World} {base n c : Nat} {A : Option Addr} {l : List Mk} (h : OwM w base A n c l) : Sl w w.heap.size A n c (mv l) := Sl.of_own h.1
theorem OwM.push {w : World} {base n c : Nat} {A : Option Addr} {l : List Mk} {m : Mk} (h : OwM w base A n c l) (hn : n < 1000000) (ty : Nat) :
    ∃ A' c' w', (Builtin.append_ #[134, 134] ty #[.slice A n c, .slice (some ⟨w.heap.size, 0, none⟩) 1 1]).run Tryz.prog (w.alloc (.cells #[.complex .f64 (fl m.1) (fl m.2)] 31)) = .ok (.slice A' (n + 1) c') w' ∧ OwM w' base A' (n + 1) c' (l ++ [m]) ∧ Below base w w' := by
  have a1 : Below w.heap.size w (w.alloc (.cells #[.complex .f64 (fl m.1) (fl m.2)] 31)) := (Below.refl _ _).alloc (Nat.le_refl _) _
  have h' := h.below a1
  have hs : Sl (w.alloc (.cells #[.complex .f64 (fl m.1) (fl m.2)] 31)) (w.heap.size + 1) (some ⟨w.heap.size, 0, none⟩) 1 1 (mv [m]) := Sl.lit w 31 (mv [m]) 1 rfl (by unfold maxLen; omega)
  obtain ⟨A', c', w', r, o, b, _, _⟩ := append_marks (ty := ty) h'.1 hs (by omega) h'.2.2
  exact ⟨A', c', w', r, ⟨o, by rw [List.length_append, h.2.1]; rfl, Nat.le_trans h'.2.2 b.size⟩, (a1.mono h.2.2).trans b⟩
end Go.Proofs.YtmoglaknmlhpgaaGreat
/- Rows of bytes in new memory: what a byte's type is, and make. -/
namespace Go.Proofs.YtmoglaknmlhpgaaGreat
open Go.RowKit

theorem u8info : (Tryz.prog.info? 5).map (fun i => (i.zero, i.size, i.bytes)) = some (some (.int .u8 0), 1, 1) := by kernel_rfl

theorem madeBytes (n : Nat) : madeCells (Value.int .u8 0).cells (n * 1) = (List.replicate n (Value.int .u8 0)).toArray := by
  apply Array.ext
  · simp [madeCells]
  · intro i h1 h2; simp [madeCells, Value.cells, Nat.mod_one]

theorem make_bytes (n c : Nat) (hnc : n ≤ c) (h : c ≤ 140737488355328) (W : World) :
    (Instr.makeSlice 152 (.int .i64 (n : Int)) (.int .i64 (c : Int))).run Tryz.prog W = .ok (.slice (some ⟨W.heap.size, 0, none⟩) n c) (W.alloc (.cells (List.replicate c (Value.int .u8 0)).toArray 5)) := by
  obtain ⟨i, hi, hz0, hz1, hz2⟩ := info_parts u8info
  have hr := run_make (P := Tryz.prog) W 152 5 i _ Tryz.underlying152 hi hz0 .i64 .i64 n c (by omega) (by omega) (by rw [hz2]; omega) (by omega)
  rw [hz1] at hr
  simp only [Int.toNat_natCast, madeBytes] at hr
  exact hr

end Go.Proofs.YtmoglaknmlhpgaaGreat
/- strings.Clone. -/
namespace Go.Proofs.YtmoglaknmlhpgaaGreat
set_option linter.unusedVariables false
open Go.RowKit

set_option maxRecDepth 10000 in
set_option maxHeartbeats 4000000 in
theorem slclone_any (s : ByteArray) (w : World) (hlim : s.size ≤ 1000000) :
    Calls Tryz.prog 109 #[.string s] w fun e w' => e = .returned (.string s) ∧ Below w.heap.size w w' := by
  by_cases h0 : s.size = 0
  · have hs : s = ⟨#[]⟩ := by
      apply ByteArray.ext
      exact Array.eq_empty_of_size_eq_zero h0
    subst hs
    clear h0 hlim
    go_enter Tryz.func109, Tryz.ntmps109
    go_wp2_with fail
    go_ret
    exact ⟨rfl, Below.refl _ _⟩
  · obtain ⟨i0, hi, hz0, hz1, hz2⟩ := info_parts u8info
    have hinfo : (Tryz.prog.info? 5).map (·.size) = some 1 := by rw [hi]; simp [hz1]
    have hco : Tryz.prog.cellsOf 5 = 1 := by simp [Program.cellsOf, hi, hz1]
    obtain ⟨M, hM⟩ : ∃ M, M = madeCells (Value.int .u8 0).cells (((s.size : Nat) : Int).toNat * i0.size) := ⟨_, rfl⟩
    have hMs : M.size = s.size := by rw [hM, size_madeCells, hz1]; simp
    have hmk : ∀ W : World, (Instr.makeSlice 152 (.int .i64 (s.size : Int)) (.int .i64 (s.size : Int))).run Tryz.prog W = .ok (.slice (some ⟨W.heap.size, 0, none⟩) s.size s.size) (W.alloc (.cells M 5)) := fun W => by
      have h := run_make (P := Tryz.prog) W 152 5 i0 (.int .u8 0) Tryz.underlying152 hi hz0 .i64 .i64 (s.size : Int) (s.size : Int) (by omega) (by omega) (by rw [hz2]; omega) (by omega)
      rw [← hM] at h
      simpa using h
    clear hM
    have hcp := Lib.run_copy_row_string (P := Tryz.prog) (w.alloc (.cells M 5)) 152 9 3 5 w.heap.size 0 s.size s.size s M 5 Tryz.underlying152 hinfo (heap_alloc_new w _) (Nat.le_refl _) (by omega)
    obtain ⟨Y, hY⟩ : ∃ Y, Y = (M.toList.take 0 ++ Lib.byteCells s.data.toList ++ M.toList.drop (0 + s.size)).toArray := ⟨_, rfl⟩
    rw [← hY] at hcp
    have hYl : Y.toList = Lib.byteCells s.data.toList := by
      rw [hY, List.toList_toArray, List.take_zero, List.nil_append, List.drop_of_length_le (by rw [Array.length_toList]; omega), List.append_nil]
    have hYs : Y.size = s.size := by rw [← Array.length_toList, hYl, Lib.byteCells_length, ← Lib.size_eq]
    have hgY : ((w.alloc (.cells M 5)).setRow w.heap.size Y).heap[w.heap.size]? = some (.cells Y 5 (0, 0)) := setRow_heap _ _ M _ 5 (0, 0) (heap_alloc_new w _)
    have hne : s.data.toList ≠ [] := fun e => h0 (by rw [Lib.size_eq, e]; rfl)
    have hUS := Lib.run_unsafeString_row (P := Tryz.prog) ((w.alloc (.cells M 5)).setRow w.heap.size Y) 200 3 9 5 Tryz.underlying200 hco w.heap.size Y.size (by unfold World.shape?; rw [hgY]) s.data.toList hne (by rw [← Lib.size_eq]; omega) (by rw [← Lib.size_eq]; omega)
      (fun j x hx => Lib.cells_of_row hgY Y.size j _ (by rw [List.take_of_length_le (by rw [Array.length_toList]; exact Nat.le_refl _), hYl]; simp [Lib.byteCells, hx]))
    rw [← Lib.size_eq] at hUS
    have H0 := Lib.hid hYl
    have H1 := Lib.hid hne
    have H2 := Lib.hid hgY
    clear hY hYl hne hgY hco hinfo hi hz0 hz1 hz2
    go_enter Tryz.func109, Tryz.ntmps109
    go_wp2_with fail
    go_ret
    have hb1 : Below w.heap.size w (w.alloc (.cells M 5)) := (Below.refl _ w).alloc (Nat.le_refl _) _
    have hb2 : Below w.heap.size (w.alloc (.cells M 5)) ((w.alloc (.cells M 5)).setRow w.heap.size Y) := ⟨rfl, rfl, rfl, by simp, fun k hk => setRow_other _ _ _ _ (by omega)⟩
    exact ⟨rfl, Lib.below_freeze (hb1.trans hb2) (p := ⟨w.heap.size, 0, none⟩) (Nat.le_refl _) _⟩

set_option maxHeartbeats 800000 in
theorem clone_any (s : ByteArray) (w : World) (hlim : s.size ≤ 1000000) :
    Calls Tryz.prog 82 #[.string s] w fun e w' => e = .returned (.string s) ∧ Below w.heap.size w w' := by
  have H := Lib.hid (slclone_any s w hlim)
  clear hlim
  go_enter Tryz.func82, Tryz.ntmps82
  go_wp2_with (go_at_call 109; refine H.out.mono ?_; rintro e w' ⟨rfl, hb⟩)
  go_ret
  exact ⟨rfl, hb⟩
end Go.Proofs.YtmoglaknmlhpgaaGreat
/- Package eval: on, Duties. -/
namespace Go.Proofs.YtmoglaknmlhpgaaGreat
set_option linter.unusedVariables false
open Go.RowKit
attribute [local go_sem] eq0 feq2 eq4 fgt0 gt2 ord_eq ord_gt ord_lt

theorem filter_step {l : List Dut} {k : Nat} {x : Dut} (f : Dut → Bool) (h : l[k]? = some x) : (l.take (k + 1)).filter f = (l.take k).filter f ++ if f x = true then [x] else [] := by
  obtain ⟨hk, e⟩ := List.getElem?_eq_some_iff.1 h
  rw [List.take_succ_eq_append_getElem hk, e, List.filter_append]
  congr 1
  by_cases hf : f x = true
  · rw [if_pos hf, List.filter_cons_of_pos hf]; rfl
  · rw [if_neg hf, List.filter_cons_of_neg hf]; rfl
set_option maxRecDepth 100000 in
set_option maxHeartbeats 1600000 in
theorem on_any {w : World} {R : Nat → Prop} {A : Option Addr} {n c : Nat} {l : List Dut} (d : Int) (h : Dus w R A n c l) (hs : ∀ o ∈ l, o.arg.size ≤ 1000000) (hn : n ≤ 500000) :
    Calls Tryz.prog 49 #[.slice A n c, .int .i64 d] w fun e w' => ∃ A' n' c', e = .returned (.slice A' n' c') ∧ Below w.heap.size w w' ∧ OwD w' w.heap.size A' n' c' (l.filter (fun o => decide (o.on = d))) := by
  have hle := Rw.le h
  have hcap := Rw.cap h
  have HL := Lib.hid (Rw.len h)
  unfold maxLen at hcap
  have H := Lib.hid h
  have HS := Lib.hid hs
  clear h hs
  go_enter Tryz.func49, Tryz.ntmps49
  go_wp2
  go_loopw [5, 10] (fun out i wr => ∃ (k : Nat) (A' : Option Addr) (n' c' : Nat), k ≤ n ∧ i = .int .i64 k ∧ out = .slice A' n' c' ∧ n' ≤ k ∧ OwD wr w.heap.size A' n' c' ((l.take k).filter (fun o => decide (o.on = d))) ∧ Below w.heap.size w wr) (fun out i _ => n - (intOf i).toNat)
  case atStart => exact ⟨0, none, 0, 0, Nat.zero_le _, rfl, rfl, Nat.le_refl _, OwD.nil _ _ (Nat.le_refl _), Below.refl _ _⟩
  case round =>
    obtain ⟨k, A', n', c', hk, rfl, rfl, hnk, ho, hb⟩ := hrel
    have HO := Lib.hid ho
    have HB := Lib.hid hb
    clear ho hb
    by_cases hlt : k < n
    · obtain ⟨b, o, x, rfl, hRb, hbl, hx, hok, x0, x1, x2⟩ := (H.out.keep (Kept.all HB.out R) (fun _ h _ => h)).at_ hlt
      have HX := Lib.hid hx
      have HK := Lib.hid hok
      have HA := Lib.hid (HS.out x (List.mem_of_getElem? hx))
      have HF := Lib.hid (filter_step (fun o => decide (o.on = d)) hx)
      obtain ⟨xo, xk, xa⟩ := x
      simp only at x0 x1 x2
      clear hx hok
      by_cases hd : xo = d
      · have hdb : (xo == d) = true := by rw [beq_iff_eq]; exact hd
        have D0 := (Below.refl wr.heap.size wr).alloc (Nat.le_refl _) (.cells #[.int .i64 xo, .int .i64 xk, .string xa] 42)
        have HC : Hid (Calls Tryz.prog 82 #[.string xa] (wr.alloc (.cells #[.int .i64 xo, .int .i64 xk, .string xa] 42)) fun e w' => e = .returned (.string xa) ∧ Below (wr.alloc (.cells #[.int .i64 xo, .int .i64 xk, .string xa] 42)).heap.size (wr.alloc (.cells #[.int .i64 xo, .int .i64 xk, .string xa] 42)) w') := clone_any xa _ HA.out
        have HD := Lib.hid hd
        have B2 := Lib.hid D0
        clear hd D0
        go_wp2_with fail
        refine HC.out.mono ?_
        rintro e w2 ⟨rfl, hb⟩
        have q1 := Ob.below (Ob.made wr 42 #[.int .i64 xo, .int .i64 xk, .string xa]) hb (by rw [size_al]; omega)
        have q4 := q1.frozen 2
        have z0 := q1.cell 0
        have z1 := q1.cell 1
        have z2 := q1.cell 2
        have d1 : Below wr.heap.size wr (w2.setCell ⟨wr.heap.size, 2, none⟩ (.string xa)) := (below_step B2.out hb).setCell (Nat.le_refl _) _
        have hz : (w2.setCell ⟨wr.heap.size, 2, none⟩ (.string xa)).heap.size = w2.heap.size := by simp [World.setCell]
        obtain ⟨A2, c2, w3, r3, o3, b3⟩ := (HO.out.below d1).push (x := ⟨xo, xk, xa⟩) HK.out (by omega) 26
        rw [hz] at r3
        simp only at r3
        have R3 := Lib.hid r3
        have O3 := Lib.hid o3
        have B3 := Lib.hid (HB.out.trans ((d1.mono HB.out.size).trans b3))
        clear hb d1 hz r3 o3 b3 q1
        go_wp2_with (first
          | (at_builtin; refine wpList_append_run (o := ⟨some 25, _, _, _, _, _⟩) rfl _ _ _ _ rfl rfl rfl R3.out ?_))
        go_roundw
        case rel => exact ⟨k + 1, A2, n' + 1, c2, by omega, by go_num, rfl, by omega, by rw [HF.out, if_pos (by simpa using HD.out)]; exact O3.out, B3.out⟩
        case measure => simp [intOf]; omega
      · have hdb : (xo == d) = false := by rw [beq_eq_false_iff_ne]; exact hd
        have HD := Lib.hid hd
        clear hd
        go_wp2_with fail
        go_roundw
        case rel =>
          have a1 : Below wr.heap.size wr (wr.alloc (.cells #[.int .i64 xo, .int .i64 xk, .string xa] 42)) := (Below.refl _ _).alloc (Nat.le_refl _) _
          exact ⟨k + 1, A', n', c', by omega, by go_num, rfl, by omega, by rw [HF.out, if_neg (by simpa using HD.out), List.append_nil]; exact HO.out.below a1, below_step HB.out a1⟩
        case measure => simp [intOf]; omega
    · obtain rfl : k = n := by omega
      go_wp2
      go_ret
      have ho := HO.out
      rw [List.take_of_length_le (by have := HL.out; omega)] at ho
      exact ⟨A', n', c', rfl, HB.out, ho⟩
set_option maxHeartbeats 1600000 in
theorem duties_any {w : World} {R : Nat → Prop} {A : Option Addr} {n c : Nat} {l : List Dut} (p d : Fin 5) (h : Dus w R A n c l) (hs : ∀ o ∈ l, o.arg.size ≤ 1000000) (hn : n ≤ 500000) :
    Calls Tryz.prog 36 #[.slice A n c, .complex .f64 (fl p) (fl d)] w fun e w' => ∃ A' n' c', e = .returned (.slice A' n' c') ∧ Below w.heap.size w w' ∧ OwD w' w.heap.size A' n' c' (dutsM l (p, d)) := by
  have H1 := Lib.hid (on_any (w := w) 1 h hs hn)
  have H2 := Lib.hid (on_any (w := w) 2 h hs hn)
  have HE : Hid (dutsM l (p, d) = if (p, d) = ((4, 0) : Mk) then l.filter (fun o => decide (o.on = 1)) else if (p, d) = ((0, 4) : Mk) then l.filter (fun o => decide (o.on = 2)) else []) := rfl
  generalize dutsM l (p, d) = out at *
  clear h hs
  by_cases h1 : (p, d) = ((4, 0) : Mk)
  · obtain ⟨rfl, rfl⟩ := Prod.mk.inj h1
    have HQ : Hid (out = l.filter (fun o => decide (o.on = 1))) := HE.out.trans (if_pos rfl)
    clear h1 HE
    go_enter Tryz.func36, Tryz.ntmps36
    go_wp2_with fail
    refine H1.out.mono ?_
    rintro e w1 ⟨A', n', c', rfl, hb, ho⟩
    have B1 := Lib.hid hb
    have O1 := Lib.hid ho
    clear hb ho
    go_wp2_with fail
    go_ret
    exact ⟨A', n', c', rfl, B1.out, by rw [HQ.out]; exact O1.out⟩
  · by_cases h2 : (p, d) = ((0, 4) : Mk)
    · obtain ⟨rfl, rfl⟩ := Prod.mk.inj h2
      have HQ : Hid (out = l.filter (fun o => decide (o.on = 2))) := HE.out.trans (if_neg h1 |>.trans (if_pos rfl))
      clear h1 h2 HE
      go_enter Tryz.func36, Tryz.ntmps36
      go_wp2_with fail
      refine H2.out.mono ?_
      rintro e w1 ⟨A', n', c', rfl, hb, ho⟩
      have B1 := Lib.hid hb
      have O1 := Lib.hid ho
      clear hb ho
      go_wp2_with fail
      go_ret
      exact ⟨A', n', c', rfl, B1.out, by rw [HQ.out]; exact O1.out⟩
    · have HQ : Hid (out = []) := HE.out.trans (if_neg h1 |>.trans (if_neg h2))
      have e1 : (p == 4 && d == 0) = false := by
        rw [Bool.eq_false_iff]
        intro h
        rw [Bool.and_eq_true, beq_iff_eq, beq_iff_eq] at h
        exact h1 (by rw [h.1, h.2])
      have e2 : (p == 0 && d == 4) = false := by
        rw [Bool.eq_false_iff]
        intro h
        rw [Bool.and_eq_true, beq_iff_eq, beq_iff_eq] at h
        exact h2 (by rw [h.1, h.2])
      clear h1 h2 HE H1 H2
      go_enter Tryz.func36, Tryz.ntmps36
      go_wp2_with fail
      go_ret
      exact ⟨none, 0, 0, rfl, Below.refl _ _, by rw [HQ.out]; exact OwD.nil _ _ (Nat.le_refl _)⟩
end Go.Proofs.YtmoglaknmlhpgaaGreat
/- Lists of values of the call's own: append. -/
namespace Go.Proofs.YtmoglaknmlhpgaaGreat
set_option linter.unusedVariables false
open Go.RowKit

def cells3 : List Vl → List Value
  | [] => []
  | v :: r => .int .i64 v.k :: .int .i64 v.n :: .string v.s :: cells3 r
theorem cells3_len (l : List Vl) : (cells3 l).length = l.length * 3 := by
  induction l with
  | nil => rfl
  | cons v r ih => simp [cells3, ih]; omega
theorem cells3_app (l m : List Vl) : cells3 (l ++ m) = cells3 l ++ cells3 m := by
  induction l with
  | nil => rfl
  | cons v r ih => simp [cells3, ih]
theorem cells3_one {l : List Vl} : ∀ v ∈ cells3 l, v.oneCell' = true := by
  induction l with
  | nil => intro v hv; cases hv
  | cons x r ih =>
    intro v hv
    simp only [cells3, List.mem_cons] at hv
    rcases hv with rfl | rfl | rfl | hv
    · rfl
    · rfl
    · rfl
    · exact ih v hv
theorem cells3_at {l : List Vl} {j : Nat} {v : Vl} (h : l[j]? = some v) : (cells3 l)[j * 3]? = some (.int .i64 v.k) ∧ (cells3 l)[j * 3 + 1]? = some (.int .i64 v.n) ∧ (cells3 l)[j * 3 + 2]? = some (.string v.s) := by
  induction l generalizing j with
  | nil => simp at h
  | cons x r ih =>
    cases j with
    | zero => simp at h; subst h; exact ⟨rfl, rfl, rfl⟩
    | succ j =>
      simp at h
      obtain ⟨a, b, c⟩ := ih h
      have e : (j + 1) * 3 = j * 3 + 1 + 1 + 1 := by omega
      rw [e]
      exact ⟨by simpa [cells3] using a, by simpa [cells3] using b, by simpa [cells3] using c⟩
theorem cells3_of {l : List Vl} {i : Nat} {u : Value} (h : (cells3 l)[i]? = some u) : ∃ j v, l[j]? = some v ∧ (i = j * 3 ∧ u = .int .i64 v.k ∨ i = j * 3 + 1 ∧ u = .int .i64 v.n ∨ i = j * 3 + 2 ∧ u = .string v.s) := by
  have hi : i < l.length * 3 := by rw [← cells3_len]; exact (List.getElem?_eq_some_iff.1 h).1
  have hj : i / 3 < l.length := by omega
  obtain ⟨a, b, c⟩ := cells3_at (List.getElem?_eq_getElem hj)
  refine ⟨i / 3, l[i / 3], List.getElem?_eq_getElem hj, ?_⟩
  have hm : i = i / 3 * 3 ∨ i = i / 3 * 3 + 1 ∨ i = i / 3 * 3 + 2 := by omega
  rcases hm with e | e | e
  · rw [← e, h] at a; exact .inl ⟨e, Option.some.inj a⟩
  · rw [← e, h] at b; exact .inr (.inl ⟨e, Option.some.inj b⟩)
  · rw [← e, h] at c; exact .inr (.inr ⟨e, Option.some.inj c⟩)

theorem valinfo : (Tryz.prog.info? 40).map (fun i => (i.zero, i.size, i.bytes)) = some (some (.agg #[.int .i64 0, .int .i64 0, .string ⟨#[]⟩]), 3, 32) := by kernel_rfl
theorem val_parts : ∃ i, Tryz.prog.info? 40 = some i ∧ i.zero = some (.agg #[.int .i64 0, .int .i64 0, .string ⟨#[]⟩]) ∧ i.size = 3 ∧ i.bytes = 32 := by
  have h := valinfo
  cases hi : Tryz.prog.info? 40 with
  | none => rw [hi] at h; cases h
  | some i =>
    rw [hi] at h
    simp only [Option.map_some, Option.some.injEq, Prod.mk.injEq] at h
    exact ⟨i, rfl, h.1, h.2.1, h.2.2⟩

/-- A list of the call's own reads as its values. -/
theorem Vs.of_own {w : World} {base n c : Nat} {A : Option Addr} {l : List Vl} (h : w.ownsRow base 40 3 (.slice A n c) n (cells3 l)) (hok : ∀ v ∈ l, v.ok) : Vs w w.heap.size A n c l := by
  have hl : l.length = n := by have := h.1; rw [cells3_len] at this; omega
  rcases h.2 with ⟨hv, hn⟩ | ⟨g, cap, cur, hv, hb, hg, hnc, hcm, hcs, ht⟩
  · injection hv with h1 h2 h3
    subst h1 h2 h3
    exact ⟨hl, Nat.le_refl _, by simp [maxLen], .inl rfl, hok⟩
  · injection hv with h1 h2 h3
    subst h1 h3
    refine ⟨hl, hnc, hcm, .inr ⟨g, 0, rfl, ?_, fun j v hv => ?_⟩, hok⟩
    · rcases Nat.lt_or_ge g w.heap.size with hlt | hge
      · exact hlt
      · rw [Array.getElem?_eq_none hge] at hg; cases hg
    · have add : ∀ j : Nat, (⟨g, 0, none⟩ : Addr).add j = ⟨g, 0 + j, none⟩ := fun j => by by_cases hj : j = 0 <;> simp [Addr.add, hj]
      obtain ⟨a, b, c⟩ := cells3_at hv
      have h1 := h.cells (g := g) rfl (j * 3) _ a
      have h2 := h.cells (g := g) rfl (j * 3 + 1) _ b
      have h3 := h.cells (g := g) rfl (j * 3 + 2) _ c
      rw [add] at h1 h2 h3
      exact ⟨h1, h2, h3⟩

/-- append(out, l...) of values that lie somewhere. -/
theorem append_vals {w : World} {base B n c m c2 ty : Nat} {A A2 : Option Addr} {xs ys : List Vl} (h : w.ownsRow base 40 3 (.slice A n c) n (cells3 xs)) (hy : Vs w B A2 m c2 ys) (hn : n + m ≤ 1000000) (hbase : base ≤ w.heap.size) :
    ∃ A' c' w', (Builtin.append_ #[76, 76] ty #[.slice A n c, .slice A2 m c2]).run Tryz.prog w = .ok (.slice A' (n + m) c') w' ∧
      w'.ownsRow base 40 3 (.slice A' (n + m) c') (n + m) (cells3 (xs ++ ys)) ∧ Below base w w' ∧ w.grownBy w' (Value.slice A n c).ownBlock := by
  obtain ⟨i, hi, hz, hs, hb⟩ := val_parts
  have hlen := hy.1
  have fin : ∀ (ad : Addr), A2 = some ad → (∀ j u, (cells3 ys)[j]? = some u → w.cell? (ad.add j) = some u) → ∃ A' c' w', (Builtin.append_ #[76, 76] ty #[.slice A n c, .slice A2 m c2]).run Tryz.prog w = .ok (.slice A' (n + m) c') w' ∧
      w'.ownsRow base 40 3 (.slice A' (n + m) c') (n + m) (cells3 (xs ++ ys)) ∧ Below base w w' ∧ w.grownBy w' (Value.slice A n c).ownBlock := by
    rintro ad rfl hc
    obtain ⟨v', w', hrun, h2, h3, h4⟩ := run_append_own (P := Tryz.prog) w base 76 ty 40 i _ 3 32 Tryz.underlying76 hi hz hs hb rfl (by omega) (.slice A n c) n (cells3 xs) h
      ad m c2 (cells3 ys) (by rw [cells3_len, hlen]) hc cells3_one (by unfold maxLen; omega) (by omega) hbase
    have hform : ∃ A' c', v' = .slice A' (n + m) c' := by
      rcases h2.2 with ⟨hv, hz⟩ | ⟨g, cap, cur, hv, _⟩
      · exact ⟨_, _, by rw [hv, hz]⟩
      · exact ⟨_, _, hv⟩
    obtain ⟨A', c', rfl⟩ := hform
    exact ⟨A', c', w', hrun, by rw [cells3_app]; exact h2, (Below.refl base w).grown h3 hbase (fun k hk => (h.lt k hk).1), h3⟩
  rcases hy.2.2.2.1 with h0 | ⟨b, o, e, hb', hc⟩
  · subst h0
    obtain rfl : ys = [] := List.eq_nil_of_length_eq_zero hlen
    rcases A2 with _ | ad
    · exact ⟨A, c, w, append_nil_src Tryz.underlying76 hi h, by simpa using h, Below.refl _ _, ⟨rfl, rfl, rfl, Nat.le_refl _, fun _ _ _ => rfl⟩⟩
    · exact fin ad rfl (fun j u hu => by simp [cells3] at hu)
  · refine fin _ e fun j u hu => ?_
    have add : ∀ j : Nat, (⟨b, o, none⟩ : Addr).add j = ⟨b, o + j, none⟩ := fun j => by by_cases hj : j = 0 <;> simp [Addr.add, hj]
    rw [add]
    obtain ⟨i', v, hv, hcase⟩ := cells3_of hu
    obtain ⟨c0, c1, c2⟩ := hc i' v hv
    rcases hcase with ⟨rfl, rfl⟩ | ⟨rfl, rfl⟩ | ⟨rfl, rfl⟩
    · exact c0
    · exact c1
    · exact c2

theorem Vs.keep1 {w w' : World} {B n c b o : Nat} {l : List Vl} (h : Vs w B (some ⟨b, o, none⟩) n c l) (hk : w'.heap[b]? = w.heap[b]?) : Vs w' B (some ⟨b, o, none⟩) n c l := by
  obtain ⟨h1, h2, h3, h4, h5⟩ := h
  refine ⟨h1, h2, h3, ?_, h5⟩
  rcases h4 with h4 | ⟨b', o', e, hb, hc⟩
  · exact .inl h4
  · injection e with e
    injection e with e1 e2
    subst e1 e2
    refine .inr ⟨b, o, rfl, hb, fun j v hv => ?_⟩
    obtain ⟨a1, a2, a3⟩ := hc j v hv
    exact ⟨(World.cell?_of_block hk).trans a1, (World.cell?_of_block hk).trans a2, (World.cell?_of_block hk).trans a3⟩

/-- append of values, as a step of a region that draws. -/
theorem step_append_vals {ops : Array Oper} {o : Oper} {a : Act} {w : World} {K : Act → World → Prop} {Q : Exit → Act → World → Prop} {E : Prop}
    {base B n c m c2 : Nat} {A A2 : Option Addr} {xs ys : List Vl} (N : Nat) (zs : List Vl) (hown : w.ownsRow base 40 3 (.slice A n c) n (cells3 xs)) (hsrc : Vs w B A2 m c2 ys) (hN : n + m = N) (hz : xs ++ ys = zs) (hn : N ≤ 1000000) (hbase : base ≤ w.heap.size)
    (hg : o.guard = none) (s x : Operand) (hop : o.op = Op.call { callee := Callee.builtin Builtin.append, args := #[s, x], argTypes := #[76, 76] })
    (hs : a.eval s = .slice A n c) (hx : a.eval x = .slice A2 m c2)
    (hK : ∀ A' c' w', w'.ownsRow base 40 3 (.slice A' N c') N (cells3 zs) → Below base w w' → w.grownBy w' (Value.slice A n c).ownBlock → K (a.put o.dst (.slice A' N c')) w') :
    if Region.wanted o (yielded ops a.tmps) = true then Oper.wp Tryz.prog o a w K Q else E := by
  subst hN hz
  obtain ⟨A', c', w', hrun, h1, h2, h3⟩ := append_vals (ty := o.type) hown hsrc hn hbase
  exact step_append_run hg s x _ _ hop hs hx hrun (hK A' c' w' h1 h2 h3)
theorem own_e1 (w : World) : (w.alloc (.cells #[] 40)).ownsRow w.heap.size 40 3 (.slice (some ⟨w.heap.size, 0, none⟩) 0 0) 0 (cells3 []) :=
  World.ownsRow_lit w #[] 0 (Nat.le_refl _) (by simp [maxLen]) rfl
theorem own_e2 (w : World) (o : Obj) : ((w.alloc (.cells #[] 40)).alloc o).ownsRow w.heap.size 40 3 (.slice (some ⟨w.heap.size, 0, none⟩) 0 0) 0 (cells3 []) :=
  (own_e1 w).alloc o
theorem own_e3 (w : World) (o : Obj) : ((w.alloc o).alloc (.cells #[] 40)).ownsRow (w.heap.size + 1) 40 3 (.slice (some ⟨w.heap.size + 1, 0, none⟩) 0 0) 0 (cells3 []) := by
  have := own_e1 (w.alloc o)
  rwa [size_al] at this
theorem lit_keep {w w6 : World} {v : Vl} (hv : v.ok) {B : Nat} (g : (((w.alloc (.cells #[] 40)).alloc (.cells #[.int .i64 v.k, .int .i64 v.n, .string v.s] 40)).drew).grownBy w6 (Value.slice (some ⟨w.heap.size, 0, none⟩) 0 B).ownBlock) :
    Vs w6 (w.heap.size + 2) (some ⟨w.heap.size + 1, 0, none⟩) 1 1 [v] := by
  have h := Vs.lit1 (w.alloc (.cells #[] 40)) v hv
  rw [size_al] at h
  refine h.keep1 (g.block _ ?_ ?_)
  · show _ < ((w.alloc _).alloc _).heap.size
    rw [size_al, size_al]
    omega
  · simp [Value.ownBlock]
theorem lit_below {w w6 : World} {v : Vl} (hv : v.ok) (b : Below (w.heap.size + 1) (((w.alloc (.cells #[.int .i64 v.k, .int .i64 v.n, .string v.s] 40)).alloc (.cells #[] 40)).drew) w6) :
    Vs w6 (w.heap.size + 1) (some ⟨w.heap.size, 0, none⟩) 1 1 [v] := by
  have h := Vs.lit1 w v hv
  have e : Below (w.heap.size + 1) (w.alloc (.cells #[.int .i64 v.k, .int .i64 v.n, .string v.s] 40)) ((w.alloc (.cells #[.int .i64 v.k, .int .i64 v.n, .string v.s] 40)).alloc (.cells #[] 40)) :=
    (Below.refl _ _).alloc (by rw [size_al]; exact Nat.le_refl _) _
  exact h.below ((below_drewN e 1).trans b)
theorem own_then {w w' : World} {base size n : Nat} {e : TypeId} {v : Value} {xs : List Value} (h : w.ownsRow base e size v n xs) (hb : Below w.heap.size w w') : w'.ownsRow base e size v n xs :=
  h.kept (row := none) ⟨hb.os, hb.tape, hb.output, hb.size, fun k hk _ => hb.block k hk⟩ (by by_cases hv : v.ownBlock = none; exact .inl hv; exact .inr hv)
theorem size_e3 (w : World) (x y : Obj) : w.heap.size + 1 ≤ (((w.alloc x).alloc y).drew).heap.size := by
  show _ ≤ ((w.alloc x).alloc y).heap.size
  rw [size_al, size_al]
  omega
end Go.Proofs.YtmoglaknmlhpgaaGreat
/- Requests in memory: rows of attributes, each with its bag. -/
namespace Go.Proofs.YtmoglaknmlhpgaaGreat
set_option linter.unusedVariables false
open Go.RowKit

/-- A row of values, in blocks that R lets in. -/
def Vls (w : World) (R : Nat → Prop) := Rw 3 (fun vs (v : Vl) => vs = v.cells ∧ v.ok) w R
/-- The cells of what is given. -/
def GivAt (w : World) (R : Nat → Prop) (vs : List Value) (g : Giv) : Prop := ∃ A n c, vs = [.int .i64 g.cat, .string g.name, .slice A n c] ∧ g.ok ∧ Vls w R A n c g.bag
def Gvs (w : World) (R : Nat → Prop) := Rw 3 (GivAt w R) w R
section
variable {w w' : World} {R R' : Nat → Prop} {A : Option Addr} {n c : Nat}
theorem Vls.keep {l : List Vl} (h : Vls w R A n c l) (hk : Kept R w w') (hR : ∀ b, R b → b < w.heap.size → R' b) : Vls w' R' A n c l := Rw.keep h hk hR fun _ _ _ h => h
theorem GivAt.keep {vs : List Value} {g : Giv} (h : GivAt w R vs g) (hk : Kept R w w') (hR : ∀ b, R b → b < w.heap.size → R' b) : GivAt w' R' vs g := by
  obtain ⟨A, n, c, e, h0, h1⟩ := h
  exact ⟨A, n, c, e, h0, h1.keep hk hR⟩
theorem Gvs.keep {l : List Giv} (h : Gvs w R A n c l) (hk : Kept R w w') (hR : ∀ b, R b → b < w.heap.size → R' b) : Gvs w' R' A n c l := Rw.keep h hk hR fun _ _ _ h => h.keep hk hR
theorem keeps_giv : Keeps GivAt := fun _ _ _ _ _ _ h hk hR => h.keep hk hR
theorem GivAt.one {w : World} {R : Nat → Prop} (vs : List Value) (g : Giv) (h : GivAt w R vs g) : ∀ v ∈ vs, v.oneCell' = true := by
  obtain ⟨A, n, c, rfl, _⟩ := h
  intro v hv
  simp at hv
  rcases hv with rfl | rfl | rfl <;> rfl
theorem Vl.one (v : Vl) : ∀ x ∈ v.cells, x.oneCell' = true := by
  intro x hx
  simp [Vl.cells] at hx
  rcases hx with rfl | rfl | rfl <;> rfl
theorem Vls.oks {l : List Vl} (h : Vls w R A n c l) : ∀ v ∈ l, v.ok := Rw.all h
theorem Vls.at_ {l : List Vl} (h : Vls w R A n c l) {j : Nat} (hj : j < n) : ∃ b o v, A = some ⟨b, o, none⟩ ∧ R b ∧ b < w.heap.size ∧ l[j]? = some v ∧ v.ok ∧
    (w.cell? ⟨b, o + j * 3, none⟩ = some (.int .i64 v.k) ∧ w.cell? ⟨b, o + j * 3 + 1, none⟩ = some (.int .i64 v.n) ∧ w.cell? ⟨b, o + j * 3 + 2, none⟩ = some (.string v.s)) := by
  obtain ⟨b, o, m, vs, e, hb, hlt, hm, hl, hv, rfl, hok⟩ := Rw.at_ h hj
  exact ⟨b, o, m, e, hb, hlt, hm, hok, hv 0 _ rfl, hv 1 _ rfl, hv 2 _ rfl⟩
theorem Gvs.at_ {l : List Giv} (h : Gvs w R A n c l) {j : Nat} (hj : j < n) : ∃ b o g A' n' c', A = some ⟨b, o, none⟩ ∧ R b ∧ b < w.heap.size ∧ l[j]? = some g ∧ g.ok ∧
    (w.cell? ⟨b, o + j * 3, none⟩ = some (.int .i64 g.cat) ∧ w.cell? ⟨b, o + j * 3 + 1, none⟩ = some (.string g.name) ∧ w.cell? ⟨b, o + j * 3 + 2, none⟩ = some (.slice A' n' c')) ∧ Vls w R A' n' c' g.bag := by
  obtain ⟨b, o, g, vs, e, hb, hlt, hm, hl, hv, A', n', c', rfl, hok, hin⟩ := Rw.at_ h hj
  exact ⟨b, o, g, A', n', c', e, hb, hlt, hm, hok, ⟨hv 0 _ rfl, hv 1 _ rfl, hv 2 _ rfl⟩, hin⟩
/-- As the texts of package value have it. -/
theorem Vls.vs {l : List Vl} (h : Vls w R A n c l) : Vs w w.heap.size A n c l := by
  refine ⟨Rw.len h, Rw.le h, Rw.cap h, ?_, h.oks⟩
  by_cases h0 : n = 0
  · exact .inl h0
  · right
    obtain ⟨b, o, v, e, hb, hlt, hv, _, _⟩ := h.at_ (j := 0) (by omega)
    refine ⟨b, o, e, hlt, fun j x hx => ?_⟩
    have hj : j < n := by have := (List.getElem?_eq_some_iff.1 hx).1; have := Rw.len h; omega
    obtain ⟨b', o', v', e', _, _, hv', _, c0, c1, c2⟩ := h.at_ hj
    rw [e] at e'
    injection e' with e'
    injection e' with e1 e2
    subst e1 e2
    rw [hx] at hv'
    injection hv' with hv'
    subst hv'
    exact ⟨c0, c1, c2⟩
theorem Vs.vls {B : Nat} {l : List Vl} (h : Vs w B A n c l) (hB : B ≤ w.heap.size) (hn : n ≤ 140737488351232) (hR : ∀ b o, A = some ⟨b, o, none⟩ → b < B → R b) : Vls w R A n c l := by
  obtain ⟨h1, h2, h3, h4, h5⟩ := h
  refine ⟨h1, h2, ⟨h3, hn⟩, ?_⟩
  rcases h4 with h4 | ⟨b, o, e, hb, hc⟩
  · exact .inl h4
  · refine .inr ⟨b, o, e, hR b o e hb, by omega, fun j x hx => ⟨x.cells, rfl, fun i v hi => ?_, rfl, h5 x (List.mem_of_getElem? hx)⟩⟩
    obtain ⟨c0, c1, c2⟩ := hc j x hx
    match i, hi with
    | 0, hi => injection hi with hi; subst hi; exact c0
    | 1, hi => injection hi with hi; subst hi; exact c1
    | 2, hi => injection hi with hi; subst hi; exact c2
    | i + 3, hi => simp [Vl.cells] at hi
theorem Gvs.oks {l : List Giv} (h : Gvs w R A n c l) : ∀ g ∈ l, g.ok ∧ ∀ v ∈ g.bag, v.ok := by
  intro g hg
  obtain ⟨j, hj, rfl⟩ := List.getElem_of_mem hg
  obtain ⟨b, o, x, A', n', c', e, _, _, hx, hok, _, hin⟩ := h.at_ (j := j) (by have := Rw.len h; omega)
  rw [List.getElem?_eq_getElem hj] at hx
  injection hx with hx
  rw [hx]
  exact ⟨hok, hin.oks⟩
end
theorem givinfo : (Tryz.prog.info? 78).map (fun i => (i.zero, i.size, i.bytes)) = some (some (.agg #[.int .i64 0, .string ⟨#[]⟩, .slice none 0 0]), 3, 48) := by kernel_rfl
/-- One more attribute behind a row of the call's own. -/
theorem push_giv {w : World} {base n c : Nat} {A : Option Addr} {l : List Giv} {A1 : Option Addr} {n1 c1 : Nat} {g : Giv} (h : Gr 3 GivAt w base 78 A n c l) (hok : g.ok) (hx : Vls w (Nb base (.slice A n c)) A1 n1 c1 g.bag) (hn : n < 1000000) :
    ∃ A' c' w', (Builtin.append_ #[37, 37] 37 #[.slice A n c, .slice (some ⟨w.heap.size, 0, none⟩) 1 1]).run Tryz.prog (w.alloc (.cells #[.int .i64 g.cat, .string g.name, .slice A1 n1 c1] 78)) = .ok (.slice A' (n + 1) c') w' ∧ Gr 3 GivAt w' base 78 A' (n + 1) c' (l ++ [g]) ∧ Below base w w' := by
  obtain ⟨i, hi, hz, hs, hb⟩ := info_of givinfo
  exact Gr.push (vs := [.int .i64 g.cat, .string g.name, .slice A1 n1 c1]) (x := g) Tryz.underlying37 hi hz hs hb rfl (by omega) (by omega) keeps_giv h ⟨A1, n1, c1, rfl, hok, hx⟩ rfl (fun _ _ _ _ => GivAt.one _ _) hn
/-- append([]Value{}, bag...). -/
theorem copy_bag {w : World} {R : Nat → Prop} {A0 : Option Addr} {p0 c0 : Nat} {L0 : List Vl} (h0 : Vls w R A0 p0 c0 L0) (h : p0 ≤ 1000000) :
    ∃ A5 c5 w5, (Builtin.append_ #[76, 76] 76 #[.slice (some ⟨w.heap.size, 0, none⟩) 0 0, .slice A0 p0 c0]).run Tryz.prog (w.alloc (.cells #[] 40)) = .ok (.slice A5 p0 c5) w5 ∧ Below w.heap.size w w5 ∧ Vls w5 (fun b => w.heap.size ≤ b) A5 p0 c5 L0 := by
  have e1 : Below w.heap.size w (w.alloc (.cells #[] 40)) := (Below.refl _ _).alloc (Nat.le_refl _) _
  obtain ⟨i, hi, hz, hs, hb⟩ := val_parts
  obtain ⟨A5, c5, w5, r5, o5, b5, _, _⟩ := append_rows (ty := 76) (c2 := c0) (m := p0) Tryz.underlying76 hi hz hs hb rfl (by omega) (by omega) (own_none w 40 3) (Rw.flat_fl (h0.keep (Kept.all e1 R) (fun _ h _ => h)) (by omega) Vl.one) (by omega) e1.size
  rw [Nat.zero_add] at r5 o5
  refine ⟨A5, c5, w5, r5, e1.trans b5, ?_⟩
  exact Rw.flat_own o5 (by omega) (Rw.len h0) (fun _ => rfl) (Rw.all h0) (fun _ _ h => h)
end Go.Proofs.YtmoglaknmlhpgaaGreat
/- A value stored over another one in its block. -/
namespace Go.Proofs.YtmoglaknmlhpgaaGreat
open Go.RowKit

/-- A value stored over another one, cell by cell. -/
theorem Bx.put {w : World} {g : Nat} {k n : Int} {s : ByteArray} (h : Bx w g k n s) (k' n' : Int) (s' : ByteArray) : Bx (((w.setCell ⟨g, 0, none⟩ (.int .i64 k')).setCell ⟨g, 1, none⟩ (.int .i64 n')).setCell ⟨g, 2, none⟩ (.string s')) g k' n' s' := by
  unfold Bx
  simpa using ((Ob.put h 0 (.int .i64 k')).put 1 (.int .i64 n')).put 2 (.string s')
theorem Bx.past {w : World} {g g' : Nat} {k n : Int} {s : ByteArray} (h : Bx w g k n s) (hne : g ≠ g') (a b c : Value) : Bx (((w.setCell ⟨g', 0, none⟩ a).setCell ⟨g', 1, none⟩ b).setCell ⟨g', 2, none⟩ c) g k n s :=
  h.only (((Only.refl.setCell (p := ⟨g', 0, none⟩) rfl a).setCell (p := ⟨g', 1, none⟩) rfl b).setCell (p := ⟨g', 2, none⟩) rfl c) hne
theorem below_put {w0 w : World} {g B : Nat} (h : Below B w0 w) (hg : B ≤ g) (a b c : Value) : Below B w0 (((w.setCell ⟨g, 0, none⟩ a).setCell ⟨g, 1, none⟩ b).setCell ⟨g, 2, none⟩ c) :=
  ((h.setCell (p := ⟨g, 0, none⟩) hg a).setCell (p := ⟨g, 1, none⟩) hg b).setCell (p := ⟨g, 2, none⟩) hg c
end Go.Proofs.YtmoglaknmlhpgaaGreat
/- copied: a bag in memory of its own, its texts too. -/
namespace Go.Proofs.YtmoglaknmlhpgaaGreat
set_option linter.unusedVariables false
open Go.RowKit

/-- Texts that aren't long. -/
def Shorts (l : List Vl) : Prop := ∀ v ∈ l, v.s.size ≤ 1000000

theorem take_one {α : Type} {l : List α} {k : Nat} {x : α} (h : l[k]? = some x) : l.take (k + 1) = l.take k ++ [x] := by
  obtain ⟨hk, rfl⟩ := List.getElem?_eq_some_iff.1 h
  rw [List.take_succ_eq_append_getElem hk]
theorem cells3_flat : ∀ l : List Vl, cells3 l = l.flatMap Vl.cells
  | [] => rfl
  | v :: r => by simp [cells3, Vl.cells, cells3_flat r]
/-- One more value behind a row of the call's own. -/
theorem push_val {w : World} {base n c : Nat} {A : Option Addr} {l : List Vl} {v : Vl} (h : w.ownsRow base 40 3 (.slice A n c) n (cells3 l)) (hb : base ≤ w.heap.size) (hv : v.ok) (hn : n < 1000000) :
    ∃ A' c' w', (Builtin.append_ #[76, 76] 76 #[.slice A n c, .slice (some ⟨w.heap.size, 0, none⟩) 1 1]).run Tryz.prog (w.alloc (.cells #[.int .i64 v.k, .int .i64 v.n, .string v.s] 40)) = .ok (.slice A' (n + 1) c') w' ∧
      w'.ownsRow base 40 3 (.slice A' (n + 1) c') (n + 1) (cells3 (l ++ [v])) ∧ Below base w w' := by
  have e1 : Below w.heap.size w (w.alloc (.cells #[.int .i64 v.k, .int .i64 v.n, .string v.s] 40)) := (Below.refl _ _).alloc (Nat.le_refl _) _
  obtain ⟨A', c', w', r, o, b, _⟩ := append_vals (ty := 76) (h.alloc (.cells #[.int .i64 v.k, .int .i64 v.n, .string v.s] 40)) (Vs.lit1 w v hv) (by omega) (by rw [size_al]; omega)
  exact ⟨A', c', w', r, o, (e1.mono hb).trans b⟩

set_option maxHeartbeats 1600000 in
theorem copied_any {w : World} {R : Nat → Prop} {A : Option Addr} {n c : Nat} {l : List Vl} (h : Vls w R A n c l) (hs : Shorts l) (hn : n ≤ 100000) :
    Calls Tryz.prog 131 #[.slice A n c] w fun e w' => ∃ A' c', e = .returned (.slice A' n c') ∧ Below w.heap.size w w' ∧ Vls w' (fun b => w.heap.size ≤ b) A' n c' l := by
  have hle := Rw.le h
  have hcap := Rw.cap h
  have HL := Lib.hid (Rw.len h)
  have HOK := Lib.hid h.oks
  unfold maxLen at hcap
  have H := Lib.hid h
  have HS := Lib.hid hs
  clear h hs
  go_enter Tryz.func131, Tryz.ntmps131
  go_wp2
  go_loopw [3, 8] (fun out i wr => ∃ (k : Nat) (A' : Option Addr) (c' : Nat), k ≤ n ∧ i = .int .i64 k ∧ out = .slice A' k c' ∧ wr.ownsRow w.heap.size 40 3 (.slice A' k c') k (cells3 (l.take k)) ∧ Below w.heap.size w wr) (fun out i _ => n - (intOf i).toNat)
  case atStart => exact ⟨0, none, 0, Nat.zero_le _, rfl, rfl, World.ownsRow_nil w w.heap.size 40 3, Below.refl _ _⟩
  case round =>
    obtain ⟨k, A', c', hk, rfl, rfl, ho, hb⟩ := hrel
    have HO := Lib.hid ho
    have HB := Lib.hid hb
    clear ho hb
    by_cases hlt : k < n
    · obtain ⟨b, o, x, rfl, hRb, hbl, hx, hok, ⟨x0, x1, x2⟩⟩ := (H.out.keep (Kept.all HB.out R) (fun _ h _ => h)).at_ hlt
      have HX := Lib.hid hx
      have HK := Lib.hid hok
      have hlim := HS.out x (List.mem_of_getElem? hx)
      have HCL := Lib.hid (fun W => clone_any x.s W hlim)
      obtain ⟨xk, xn, xs⟩ := x
      simp only at x0 x1 x2 HCL hlim
      clear hx hok
      have hbx := Bx.made wr xk xn xs
      have D0 := Lib.hid ((Below.refl wr.heap.size wr).alloc (Nat.le_refl _) (.cells #[.int .i64 xk, .int .i64 xn, .string xs] 40))
      go_wp2_with (first
        | (go_at_call 82; refine (HCL.out _).mono ?_; rintro e w1 ⟨rfl, hb1⟩
           have q1 := hbx.then_ hb1
           have qs := q1.setS xs
           have q3 := q1.c3
           have q4 := q1.fz 2
           have d1 : Below wr.heap.size wr (w1.setCell ⟨wr.heap.size, 2, none⟩ (.string xs)) := (Below.lit hb1).setCell (Nat.le_refl _) _
           obtain ⟨A2, c2, w2, r2, o2, b2⟩ := push_val (v := ⟨xk, xn, xs⟩) (own_then HO.out d1) (Nat.le_trans HB.out.size d1.size) HK.out (by omega)
           have hz : (w1.setCell ⟨wr.heap.size, 2, none⟩ (.string xs)).heap.size = w1.heap.size := by simp [World.setCell]
           rw [hz] at r2
           simp only at r2
           have R2 := Lib.hid r2
           have O2 := Lib.hid o2
           have B2 := Lib.hid (HB.out.trans ((d1.mono HB.out.size).trans b2))
           have Q1 := Lib.hid q1
           clear hz r2 o2 b2 hb1 q1 qs d1)
        | (at_builtin; refine wpList_append_run rfl _ _ _ _ rfl rfl rfl R2.out ?_))
      go_roundw
      case rel => exact ⟨k + 1, A2, c2, by omega, by go_num, rfl, by rw [take_one HX.out]; exact O2.out, B2.out⟩
      case measure => simp [intOf]; omega
    · obtain rfl : k = n := by omega
      go_wp2
      go_ret
      refine ⟨A', c', rfl, HB.out, ?_⟩
      have ho := HO.out
      rw [List.take_of_length_le (by have := HL.out; omega), cells3_flat] at ho
      exact Rw.flat_own ho (by omega) HL.out (fun _ => rfl) HOK.out (fun _ _ h => h)
end Go.Proofs.YtmoglaknmlhpgaaGreat
/- place: the first of a category and a name (by slices.IndexFunc). -/
namespace Go.Proofs.YtmoglaknmlhpgaaGreat
set_option linter.unusedVariables false
open Go.RowKit

theorem isg_any {w : World} {h4 h5 : Nat} {c : Int} {s : ByteArray} (g : Giv) {A : Option Addr} {n k : Nat} (hp : Ob w h4 3 #[.int .i64 c]) (hi : Ob w h5 9 #[.string s]) :
    Calls Tryz.prog 144 #[.agg #[.int .i64 g.cat, .string g.name, .slice A n k], .pointer (some ⟨h4, 0, none⟩), .pointer (some ⟨h5, 0, none⟩)] w fun e w' => e = .returned (.bool (isG c s g)) ∧ Below w.heap.size w w' := by
  have c4 := hp.cell 0
  have c5 := hi.cell 0
  have l4 := hp.lt
  have l5 := hi.lt
  have HE : Hid (isG c s g = (decide (g.cat = c) && (g.name.toList == s.toList))) := by
    show isG c s g = _
    unfold isG
    rw [Bool.eq_iff_iff]
    simp only [Bool.and_eq_true, decide_eq_true_eq, beq_iff_eq]
    rw [show (g.name.toList = s.toList) = (g.name = s) from propext ⟨fun e => text_eq (by show g.name.data.toList = s.data.toList; rw [← ByteArray.toList_eq, ← ByteArray.toList_eq]; exact e), fun e => by rw [e]⟩]
  generalize isG c s g = r at *
  obtain ⟨gc, gn, gb⟩ := g
  simp only at HE ⊢
  clear hp hi
  by_cases h : gc = c
  · have h' : (gc == c) = true := by simpa using h
    have H := Lib.hid h
    clear h
    go_enter Tryz.func144, Tryz.ntmps144
    go_wp2_with fail
    all_goals
      go_ret
      exact ⟨ret_bool (by rw [HE.out, decide_eq_true H.out, Bool.true_and]), (Below.refl _ _).alloc (Nat.le_refl _) _⟩
  · have h' : (gc == c) = false := by simpa using h
    have H := Lib.hid h
    clear h
    go_enter Tryz.func144, Tryz.ntmps144
    go_wp2_with fail
    all_goals
      go_ret
      exact ⟨ret_bool (by rw [HE.out, decide_eq_false H.out, Bool.false_and]), (Below.refl _ _).alloc (Nat.le_refl _) _⟩

set_option maxHeartbeats 800000 in
theorem aindex_any {w : World} {R : Nat → Prop} {A : Option Addr} {n c : Nat} {l : List Giv} {h4 h5 : Nat} {q : Int} {s : ByteArray} (h : Gvs w R A n c l) (hp : Ob w h4 3 #[.int .i64 q]) (hi : Ob w h5 9 #[.string s]) :
    Calls Tryz.prog 143 #[.slice A n c, .func (.func 144) #[] #[.pointer (some ⟨h4, 0, none⟩), .pointer (some ⟨h5, 0, none⟩)]] w fun e w' => e = .returned (.int .i64 (placeI l q s)) ∧ Below w.heap.size w w' := by
  have hle := Rw.le h
  have hcap := Rw.cap h
  have HL := Lib.hid (Rw.len h)
  unfold maxLen at hcap
  have H := Lib.hid h
  have HP := Lib.hid hp
  have HI := Lib.hid hi
  clear h hp hi
  go_enter Tryz.func143, Tryz.ntmps143
  go_wp2
  go_loopw [8] (fun i wr => ∃ k : Nat, k ≤ n ∧ i = .int .i64 k ∧ (∀ (j : Nat) (x : Giv), l[j]? = some x → j < k → isG q s x = false) ∧ Below w.heap.size w wr) (fun i _ => n - (intOf i).toNat)
  case atStart => exact ⟨0, Nat.zero_le _, rfl, fun _ _ _ h => absurd h (Nat.not_lt_zero _), Below.refl _ _⟩
  case round =>
    obtain ⟨k, hk, rfl, hf, hb⟩ := hrel
    have HF := Lib.hid hf
    have HB := Lib.hid hb
    clear hf hb
    by_cases hlt : k < n
    · obtain ⟨b, o, x, A', n', c', rfl, hRb, hbl, hx, hok, ⟨c0, c1, c2⟩, hin⟩ := (H.out.keep (Kept.all HB.out R) (fun _ h _ => h)).at_ hlt
      have HX := Lib.hid hx
      have HC := Lib.hid (isg_any x (A := A') (n := n') (k := c') (HP.out.below HB.out HP.out.lt) (HI.out.below HB.out HI.out.lt))
      clear hx
      cases hz : isG q s x
      · have HZ := Lib.hid hz
        rw [hz] at HC
        clear hz
        go_wp2_with (go_at_call 144; refine HC.out.mono ?_; rintro e w1 ⟨rfl, hb1⟩; have B1 := Lib.hid hb1)
        go_roundw
        case rel => exact ⟨k + 1, by omega, by go_num, fun j y hy hj => by
          by_cases e : j = k
          · subst e; rw [HX.out] at hy; injection hy with hy; subst hy; exact HZ.out
          · exact HF.out j y hy (by omega), below_step HB.out B1.out⟩
        case measure => simp [intOf]; omega
      · have HZ := Lib.hid hz
        rw [hz] at HC
        clear hz
        go_wp2_with (go_at_call 144; refine HC.out.mono ?_; rintro e w1 ⟨rfl, hb1⟩; have B1 := Lib.hid hb1)
        go_ret
        exact ⟨ret_int (place_at HX.out HZ.out HF.out).symm, below_step HB.out B1.out⟩
    · obtain rfl : k = n := by omega
      go_wp2
      go_ret
      exact ⟨ret_int (place_none (fun j x hx => HF.out j x hx (by have := (List.getElem?_eq_some_iff.1 hx).1; have := HL.out; omega))).symm, HB.out⟩

theorem place_any {w : World} {R : Nat → Prop} {A : Option Addr} {n c : Nat} {l : List Giv} (q : Int) (s : ByteArray) (h : Gvs w R A n c l) :
    Calls Tryz.prog 130 #[.slice A n c, .int .i64 q, .string s] w fun e w' => e = .returned (.int .i64 (placeI l q s)) ∧ Below w.heap.size w w' := by
  have e1 : Below w.heap.size w ((w.alloc (.cells #[.int .i64 q] 3)).alloc (.cells #[.string s] 9)) := ((Below.refl _ _).alloc (Nat.le_refl _) _).alloc (by rw [size_al]; omega) _
  have hp : Ob ((w.alloc (.cells #[.int .i64 q] 3)).alloc (.cells #[.string s] 9)) w.heap.size 3 #[.int .i64 q] := (Ob.made w 3 #[.int .i64 q]).keep (Below.heap_alloc (w.alloc (.cells #[.int .i64 q] 3)) _ w.heap.size (by rw [size_al]; omega))
  have hi : Ob ((w.alloc (.cells #[.int .i64 q] 3)).alloc (.cells #[.string s] 9)) (w.heap.size + 1) 9 #[.string s] := by
    have := Ob.made (w.alloc (.cells #[.int .i64 q] 3)) 9 #[.string s]
    rwa [size_al] at this
  have HC := Lib.hid (aindex_any (h.keep (Kept.all e1 R) (fun _ h _ => h)) hp hi)
  have HE := Lib.hid e1
  clear h hp hi e1
  go_enter Tryz.func130, Tryz.ntmps130
  go_wp2_with (go_at_call 143; refine HC.out.mono ?_; rintro e w1 ⟨rfl, hb1⟩)
  go_ret
  exact ⟨rfl, HE.out.trans (hb1.mono HE.out.size)⟩
end Go.Proofs.YtmoglaknmlhpgaaGreat
/- Get: what is there, in new memory. -/
namespace Go.Proofs.YtmoglaknmlhpgaaGreat
set_option linter.unusedVariables false
open Go.RowKit

/-- Requests whose texts aren't long, and whose bags aren't, neither. -/
def ShortG (l : List Giv) : Prop := ∀ g ∈ l, Shorts g.bag ∧ g.bag.length ≤ 100000
/-- What Get answers: a bag and an error. -/
theorem aget_any {w : World} {R : Nat → Prop} {A : Option Addr} {n c : Nat} {l : List Giv} (a : Atr) (h : Gvs w R A n c l) (hs : ShortG l) :
    Calls Tryz.prog 106 #[.slice A n c, .agg #[.int .i64 a.cat, .string a.name, .bool a.must]] w fun e w' => ∃ A' n' c', e = .returned (.tuple #[.slice A' n' c', .int .i64 (getE l a)]) ∧ Below w.heap.size w w' ∧ Vls w' (fun b => w.heap.size ≤ b) A' n' c' (getR l a) := by
  obtain ⟨ac, an, am⟩ := a
  have hle := Rw.le h
  have hcap := Rw.cap h
  have HL := Lib.hid (Rw.len h)
  unfold maxLen at hcap
  have H := Lib.hid h
  have HS := Lib.hid hs
  have HP := Lib.hid (fun W (hW : Below w.heap.size w W) => place_any ac an (h.keep (Kept.all hW R) (fun _ h _ => h)))
  clear h hs
  by_cases hi : idxA l ac an < l.length
  · obtain ⟨g, hg, hgg, hb⟩ := idx_hit hi
    have hp : placeI l ac an = (idxA l ac an : Int) := place_pos hi
    rw [hp] at HP
    have hin : idxA l ac an < n := by have := HL.out; omega
    have HB : Hid (getB l ⟨ac, an, am⟩ = g.bag) := hb
    have HG := Lib.hid hg
    generalize idxA l ac an = k at *
    obtain ⟨hsh, hln⟩ := HS.out g (List.mem_of_getElem? hg)
    have HSH := Lib.hid hsh
    have HLN := Lib.hid hln
    clear hi hp hg hgg hb hsh hln
    have atW := fun W (hW : Below w.heap.size w W) => (H.out.keep (Kept.all hW R) (fun _ h _ => h)).at_ hin
    have AW := Lib.hid atW
    clear atW
    obtain ⟨b, o, g0, A', n', c', rfl, _, hbl, hx, _, ⟨_, _, c2⟩, hin0⟩ := AW.out w (Below.refl _ _)
    have hgx := HG.out
    rw [hx] at hgx
    injection hgx with hgx
    subst hgx
    have HIN := Lib.hid hin0
    have hn' : n' ≤ 100000 := by have := Rw.len hin0; have := HLN.out; omega
    have hlen' : g0.bag.length = n' := Rw.len hin0
    have C2 := Lib.hid c2
    have HBL := Lib.hid hbl
    have HE : Hid (getE l ⟨ac, an, am⟩ = if am = true ∧ n' = 0 then 4 else 0) := by
      show getE l ⟨ac, an, am⟩ = _
      unfold getE
      have e0 : (g0.bag = []) = (n' = 0) := by rw [← hlen', List.length_eq_zero_iff]
      rw [HB.out]
      simp only [e0]
    have HR : Hid (getR l ⟨ac, an, am⟩ = if am = true ∧ n' = 0 then [] else g0.bag) := by
      show getR l ⟨ac, an, am⟩ = _
      unfold getR
      rw [HB.out, HE.out]
      by_cases e : am = true ∧ n' = 0 <;> simp [e]
    have HNN := Lib.hid hlen'
    clear hx c2 hin0 hbl AW hlen'
    generalize getE l ⟨ac, an, am⟩ = ee at *
    generalize getR l ⟨ac, an, am⟩ = rr at *
    rcases Nat.eq_zero_or_pos n' with rfl | hpos
    · cases am
      · have HE2 : Hid (ee = 0) := by show ee = 0; rw [HE.out]; simp
        have HR2 : Hid (rr = g0.bag) := by show rr = _; rw [HR.out]; simp
        clear HE HR
        go_enter Tryz.func106, Tryz.ntmps106
        go_wp2_with (first
          | (go_at_call 130; refine (HP.out _ ((Below.refl _ _).alloc (Nat.le_refl _) _)).mono ?_; rintro e w1 ⟨rfl, hb1⟩
             have OB1 := Lib.hid (Ob.below (Ob.made _ _ _) hb1 (by simp))
             have B1 := Lib.hid (Below.lit hb1)
             have q2 := (World.cell?_of_block (B1.out.block _ HBL.out)).trans C2.out
             have CP := Lib.hid (copied_any (HIN.out.keep (Kept.all B1.out R) (fun _ h _ => h)) HSH.out hn')
             clear hb1)
          | (go_at_call 131; refine CP.out.mono ?_; rintro e w2 ⟨A2, k2, rfl, hb2, hi2⟩
             have c9 := (Ob.below OB1.out hb2 (Ob.lt OB1.out)).cell 2
             have B2 := Lib.hid (below_step B1.out hb2)
             have I2 := Lib.hid (hi2.keep (Kept.refl _ _) (R' := fun b => w.heap.size ≤ b) (fun b h _ => Nat.le_trans B1.out.size h))
             clear hb2 hi2))
        go_ret2
        exact ⟨A2, 0, k2, by rw [HE2.out]; rfl, B2.out, by rw [HR2.out]; exact I2.out⟩
      · have HE2 : Hid (ee = 4) := by show ee = 4; rw [HE.out]; simp
        have HR2 : Hid (rr = []) := by show rr = _; rw [HR.out]; simp
        clear HE HR
        go_enter Tryz.func106, Tryz.ntmps106
        go_wp2_with (first
          | (go_at_call 130; refine (HP.out _ ((Below.refl _ _).alloc (Nat.le_refl _) _)).mono ?_; rintro e w1 ⟨rfl, hb1⟩
             have OB1 := Lib.hid (Ob.below (Ob.made _ _ _) hb1 (by simp))
             have B1 := Lib.hid (Below.lit hb1)
             have q2 := (World.cell?_of_block (B1.out.block _ HBL.out)).trans C2.out
             have CP := Lib.hid (copied_any (HIN.out.keep (Kept.all B1.out R) (fun _ h _ => h)) HSH.out hn')
             clear hb1)
          | (go_at_call 131; refine CP.out.mono ?_; rintro e w2 ⟨A2, k2, rfl, hb2, hi2⟩
             have c9 := (Ob.below OB1.out hb2 (Ob.lt OB1.out)).cell 2
             have B2 := Lib.hid (below_step B1.out hb2)
             have I2 := Lib.hid (hi2.keep (Kept.refl _ _) (R' := fun b => w.heap.size ≤ b) (fun b h _ => Nat.le_trans B1.out.size h))
             clear hb2 hi2))
        go_ret2
        exact ⟨none, 0, 0, by rw [HE2.out]; rfl, B2.out, by rw [HR2.out]; exact Rw.nil_ _ _ _ _⟩
    · have hne : ¬ (n' : Int) = 0 := by omega
      have hne2 : ((n' : Int) == 0) = false := by simpa using hne
      have HE2 : Hid (ee = 0) := by show ee = 0; rw [HE.out, if_neg (by omega)]
      have HR2 : Hid (rr = g0.bag) := by show rr = _; rw [HR.out, if_neg (by omega)]
      clear HE HR
      cases am
      all_goals
        go_enter Tryz.func106, Tryz.ntmps106
        go_wp2_with (first
          | (go_at_call 130; refine (HP.out _ ((Below.refl _ _).alloc (Nat.le_refl _) _)).mono ?_; rintro e w1 ⟨rfl, hb1⟩
             have OB1 := Lib.hid (Ob.below (Ob.made _ _ _) hb1 (by simp))
             have B1 := Lib.hid (Below.lit hb1)
             have q2 := (World.cell?_of_block (B1.out.block _ HBL.out)).trans C2.out
             have CP := Lib.hid (copied_any (HIN.out.keep (Kept.all B1.out R) (fun _ h _ => h)) HSH.out hn')
             clear hb1)
          | (go_at_call 131; refine CP.out.mono ?_; rintro e w2 ⟨A2, k2, rfl, hb2, hi2⟩
             have c9 := (Ob.below OB1.out hb2 (Ob.lt OB1.out)).cell 2
             have B2 := Lib.hid (below_step B1.out hb2)
             have I2 := Lib.hid (hi2.keep (Kept.refl _ _) (R' := fun b => w.heap.size ≤ b) (fun b h _ => Nat.le_trans B1.out.size h))
             clear hb2 hi2))
        go_ret2
        exact ⟨A2, n', k2, by rw [HE2.out]; rfl, B2.out, by rw [HR2.out]; exact I2.out⟩
  · have HB : Hid (getB l ⟨ac, an, am⟩ = []) := bag_none hi
    have hp : placeI l ac an = -1 := place_neg hi
    rw [hp] at HP
    clear hp hi
    have HE : Hid (getE l ⟨ac, an, am⟩ = if am = true then 4 else 0) := by show getE l ⟨ac, an, am⟩ = _; unfold getE; rw [HB.out]; simp
    have HR : Hid (getR l ⟨ac, an, am⟩ = []) := by show getR l ⟨ac, an, am⟩ = _; unfold getR; rw [HB.out]; simp
    generalize getE l ⟨ac, an, am⟩ = ee at *
    generalize getR l ⟨ac, an, am⟩ = rr at *
    cases am
    all_goals
      go_enter Tryz.func106, Tryz.ntmps106
      go_wp2_with (go_at_call 130; refine (HP.out _ ((Below.refl _ _).alloc (Nat.le_refl _) _)).mono ?_; rintro e w1 ⟨rfl, hb1⟩; have c0 := (Ob.below (Ob.made _ _ _) hb1 (by simp)).cell 2)
      go_ret2
      refine ⟨none, 0, 0, by rw [HE.out]; rfl, Below.lit hb1, by rw [HR.out]; exact Rw.nil_ _ _ _ _⟩
end Go.Proofs.YtmoglaknmlhpgaaGreat
/- Package target, walked: truth, same, less, held, Match, All, one, Met. -/
namespace Go.Proofs.YtmoglaknmlhpgaaGreat
set_option linter.unusedVariables false
open Go.RowKit

theorem tgtruth_any (b : Bool) (w : World) :
    Calls Tryz.prog 152 #[.bool b] w fun e w' => e = .returned (.int .i64 (trI b)) ∧ Below w.heap.size w w' := by
  cases b
  all_goals
    go_enter Tryz.func152, Tryz.ntmps152
    go_wp2_with fail
    go_ret
    exact ⟨rfl, Below.refl _ _⟩
theorem tgalloc2 (w : World) (x y : Obj) : Below w.heap.size w ((w.alloc x).alloc y) := ((Below.refl _ _).alloc (Nat.le_refl _) _).alloc (by rw [size_al]; omega) _
set_option maxHeartbeats 1600000 in
theorem tgsame_any (a b : Vl) (w : World) :
    Calls Tryz.prog 135 #[a.val, b.val] w fun e w' => e = .returned (.int .i64 (sameI a b)) ∧ Below w.heap.size w w' := by
  obtain ⟨k, n, s⟩ := a
  obtain ⟨k', n', s'⟩ := b
  show Calls _ _ #[.agg #[.int .i64 k, .int .i64 n, .string s], .agg #[.int .i64 k', .int .i64 n', .string s']] w _
  have HT := Lib.hid tgtruth_any
  have HS : Hid (sameI ⟨k, n, s⟩ ⟨k', n', s'⟩ = if k = k' then trI (veq ⟨k, n, s⟩ ⟨k', n', s'⟩) else 1) := rfl
  have e1 := fun W => val_eq k n k' n' s s' W
  generalize veq ⟨k, n, s⟩ ⟨k', n', s'⟩ = q at *
  generalize sameI ⟨k, n, s⟩ ⟨k', n', s'⟩ = r at *
  by_cases h : k = k'
  · have h1 : (k != k') = false := by rw [bne_eq_false_iff_eq]; exact h
    have HR : Hid (r = trI q) := by show _ = _; rw [HS.out, if_pos h]
    clear h HS
    go_enter Tryz.func135, Tryz.ntmps135
    go_wp2_with (go_at_call 152; refine (HT.out _ _).mono ?_; rintro e w1 ⟨rfl, hb1⟩)
    go_ret
    exact ⟨by rw [HR.out]; rfl, Below.lit (Below.lit hb1)⟩
  · have h1 : (k != k') = true := by rw [bne_iff_ne]; exact h
    have HR : Hid (r = 1) := by show _ = _; rw [HS.out, if_neg h]
    clear h HS
    go_enter Tryz.func135, Tryz.ntmps135
    go_wp2_with fail
    go_ret
    exact ⟨by rw [HR.out]; rfl, tgalloc2 _ _ _⟩
set_option maxHeartbeats 1600000 in
theorem tgless_any (a b : Vl) (ha : a.s.size ≤ maxLen) (hb : b.s.size ≤ maxLen) (w : World) :
    Calls Tryz.prog 136 #[a.val, b.val] w fun e w' => e = .returned (.int .i64 (lessI a b)) ∧ Below w.heap.size w w' := by
  have HL := Lib.hid (less_any a b ha hb)
  clear ha hb
  have HS : Hid (lessI a b = if (lessOf a b).2 = 0 then trI (lessOf a b).1 else 1) := rfl
  generalize lessI a b = r at *
  generalize lessOf a b = lo at *
  obtain ⟨q, x⟩ := lo
  dsimp only at HL HS
  obtain ⟨k, n, s⟩ := a
  obtain ⟨k', n', s'⟩ := b
  show Calls _ _ #[.agg #[.int .i64 k, .int .i64 n, .string s], .agg #[.int .i64 k', .int .i64 n', .string s']] w _
  have HT := Lib.hid tgtruth_any
  by_cases h : x = 0
  · have h1 : (x != 0) = false := by rw [bne_eq_false_iff_eq]; exact h
    have HR : Hid (r = trI q) := by show _ = _; rw [HS.out, if_pos h]
    clear h HS
    go_enter Tryz.func136, Tryz.ntmps136
    go_wp2_with (first
      | (go_at_call 153; refine (HL.out _).mono ?_; rintro e w1 ⟨rfl, hb1⟩; have B1 := Lib.hid (Below.lit (Below.lit hb1)); clear hb1)
      | (go_at_call 152; refine (HT.out _ _).mono ?_; rintro e w2 ⟨rfl, hb1⟩))
    go_ret
    exact ⟨by rw [HR.out]; rfl, below_step B1.out hb1⟩
  · have h1 : (x != 0) = true := by rw [bne_iff_ne]; exact h
    have HR : Hid (r = 1) := by show _ = _; rw [HS.out, if_neg h]
    clear h HS
    go_enter Tryz.func136, Tryz.ntmps136
    go_wp2_with (go_at_call 153; refine (HL.out _).mono ?_; rintro e w1 ⟨rfl, hb1⟩; have B1 := Lib.hid (Below.lit (Below.lit hb1)); clear hb1)
    go_ret
    exact ⟨by rw [HR.out]; rfl, B1.out⟩
set_option maxHeartbeats 3200000 in
theorem tgheld_any (m : Mat) (v : Vl) (hm : m.v.s.size ≤ maxLen) (hv : v.s.size ≤ maxLen) (w : World) :
    Calls Tryz.prog 110 #[m.val, v.val] w fun e w' => e = .returned (.int .i64 (heldI m v)) ∧ Below w.heap.size w w' := by
  have C1 := Lib.hid (tgsame_any v m.v)
  have C2 := Lib.hid (tgless_any v m.v hv hm)
  have C3 := Lib.hid (tgless_any m.v v hm hv)
  clear hm hv
  have HS : Hid (heldI m v = if m.op = 1 then sameI v m.v else if m.op = 2 then lessI v m.v else lessI m.v v) := rfl
  generalize heldI m v = r at *
  obtain ⟨⟨mc, mn, mu⟩, op, ⟨k, n, s⟩⟩ := m
  obtain ⟨k', n', s'⟩ := v
  show Calls _ _ #[.agg #[.int .i64 mc, .string mn, .bool mu, .int .i64 op, .int .i64 k, .int .i64 n, .string s], .agg #[.int .i64 k', .int .i64 n', .string s']] w _
  simp only at C1 C2 C3 HS
  by_cases h : op = 1
  · subst h
    have HR : Hid (r = sameI ⟨k', n', s'⟩ ⟨k, n, s⟩) := by show _ = _; rw [HS.out, if_pos rfl]
    go_enter Tryz.func110, Tryz.ntmps110
    go_wp2_with (go_at_call 135; refine (C1.out _).mono ?_; rintro e w1 ⟨rfl, hb1⟩)
    go_ret
    exact ⟨by rw [HR.out]; rfl, Below.lit (Below.lit hb1)⟩
  · have h1 : (op == 1) = false := by rw [beq_eq_false_iff_ne]; exact h
    by_cases h' : op = 2
    · subst h'
      have HR : Hid (r = lessI ⟨k', n', s'⟩ ⟨k, n, s⟩) := by show _ = _; rw [HS.out, if_neg h, if_pos rfl]
      go_enter Tryz.func110, Tryz.ntmps110
      go_wp2_with (go_at_call 136; refine (C2.out _).mono ?_; rintro e w1 ⟨rfl, hb1⟩)
      go_ret
      exact ⟨by rw [HR.out]; rfl, Below.lit (Below.lit hb1)⟩
    · have h2 : (op == 2) = false := by rw [beq_eq_false_iff_ne]; exact h'
      have HR : Hid (r = lessI ⟨k, n, s⟩ ⟨k', n', s'⟩) := by show _ = _; rw [HS.out, if_neg h, if_neg h']
      clear h h'
      go_enter Tryz.func110, Tryz.ntmps110
      go_wp2_with (go_at_call 136; refine (C3.out _).mono ?_; rintro e w1 ⟨rfl, hb1⟩)
      go_ret
      exact ⟨by rw [HR.out]; rfl, Below.lit (Below.lit hb1)⟩
end Go.Proofs.YtmoglaknmlhpgaaGreat
/- Package target, walked: Match, All, one, Met. -/
namespace Go.Proofs.YtmoglaknmlhpgaaGreat
set_option linter.unusedVariables false
open Go.RowKit

set_option maxHeartbeats 3200000 in
theorem tgmatch_any {w : World} {R : Nat → Prop} {A : Option Addr} {n c : Nat} {l : List Giv} (m : Mat) (hm : m.v.s.size ≤ maxLen) (h : Gvs w R A n c l) (hs : ShortG l) :
    Calls Tryz.prog 83 #[m.val, .slice A n c] w fun e w' => e = .returned (.int .i64 (matchI l m)) ∧ Below w.heap.size w w' := by
  have HG := Lib.hid (fun W (hW : Below w.heap.size w W) => aget_any (w := W) m.a (h.keep (Kept.all hW R) (fun _ h _ => h)) hs)
  have HH := Lib.hid (fun v (hv : v.s.size ≤ maxLen) W => tgheld_any m v hm hv W)
  have HT := Lib.hid (tri_held m)
  have HE : Hid (matchI l m = if getE l m.a = 0 then most (heldI m) (getR l m.a) else 1) := rfl
  generalize matchI l m = r at *
  generalize heldI m = f at *
  obtain ⟨⟨mc, mn, mu⟩, op, ⟨k, nn, s⟩⟩ := m
  simp only at HG HE
  generalize getE l _ = ee at *
  generalize getR l _ = bag at *
  show Calls _ _ #[.agg #[.int .i64 mc, .string mn, .bool mu, .int .i64 op, .int .i64 k, .int .i64 nn, .string s], .slice A n c] w _
  have OM := Lib.hid (Ob.made w 64 #[.int .i64 mc, .string mn, .bool mu, .int .i64 op, .int .i64 k, .int .i64 nn, .string s])
  have BM := Lib.hid ((Below.refl w.heap.size w).alloc (Nat.le_refl _) (.cells #[.int .i64 mc, .string mn, .bool mu, .int .i64 op, .int .i64 k, .int .i64 nn, .string s] 64))
  clear h hs hm
  by_cases h : ee = 0
  rotate_left
  · have h1 : (ee != 0) = true := by rw [bne_iff_ne]; exact h
    have HR : Hid (r = 1) := by show _ = _; rw [HE.out, if_neg h]
    clear h HE
    go_enter Tryz.func83, Tryz.ntmps83
    go_wp2_with (go_at_call 106; refine (HG.out _ BM.out).mono ?_; rintro e w1 ⟨A', n', c', rfl, hb1, hbag⟩)
    go_ret
    exact ⟨by rw [HR.out]; rfl, below_step BM.out hb1⟩
  have h1 : (ee != 0) = false := by rw [bne_eq_false_iff_eq]; exact h
  have HR : Hid (r = most f bag) := by show _ = _; rw [HE.out, if_pos h]
  clear h HE
  go_enter Tryz.func83, Tryz.ntmps83
  go_wp2_with (go_at_call 106; refine (HG.out _ BM.out).mono ?_; rintro e w1 ⟨A', n', c', rfl, hb1, hbag⟩; have B1 := Lib.hid (below_step BM.out hb1); have O1 := Lib.hid (OM.out.below hb1 OM.out.lt); have V1 := Lib.hid (Vls.keep hbag (Kept.refl _ _) (R' := fun _ => True) (fun _ _ _ => trivial)); have hle := Rw.le hbag; have hcap := Rw.cap hbag; have HL := Lib.hid (Rw.len hbag); clear hb1 hbag)
  unfold maxLen at hcap
  go_loopw [7, 21] (fun x i wr => ∃ j : Nat, j ≤ n' ∧ i = .int .i64 j ∧ x = .int .i64 (most f (bag.take j)) ∧ Below w1.heap.size w1 wr) (fun _ i _ => n' - (intOf i).toNat)
  case atStart => exact ⟨0, Nat.zero_le _, rfl, rfl, Below.refl _ _⟩
  case round =>
    obtain ⟨j, hj, rfl, rfl, hb⟩ := hrel
    have HB := Lib.hid hb
    have BW := Lib.hid (below_step B1.out hb)
    have OW := O1.out.below hb O1.out.lt
    have q0 := OW.cell 0
    have q1 := OW.cell 1
    have q2 := OW.cell 2
    have q3 := OW.cell 3
    have q4 := OW.cell 4
    have q5 := OW.cell 5
    have q6 := OW.cell 6
    have OL := Lib.hid OW
    clear hb OW
    by_cases hlt : j < n'
    · obtain ⟨b, o, v, rfl, _, hbl, hx, hok, c0, c1, c2⟩ := (V1.out.keep (Kept.all HB.out _) (R' := fun _ => True) (fun _ _ _ => trivial)).at_ hlt
      have HS := Lib.hid (most_step hx (HT.out v).1)
      have HC := Lib.hid (HH.out v hok.2.2)
      obtain ⟨vk, vn, vs⟩ := v
      simp only at c0 c1 c2
      have HC2 : Hid (∀ W : World, Calls Tryz.prog 110 #[.agg #[.int .i64 mc, .string mn, .bool mu, .int .i64 op, .int .i64 k, .int .i64 nn, .string s], .agg #[.int .i64 vk, .int .i64 vn, .string vs]] W fun e w' => e = .returned (.int .i64 (f ⟨vk, vn, vs⟩)) ∧ Below W.heap.size W w') := HC.out
      clear HC hx hok
      generalize f ⟨vk, vn, vs⟩ = y at *
      generalize most f (bag.take j) = x at *
      generalize hz : most f (bag.take (j + 1)) = z at *
      have HZ := Lib.hid hz
      clear hz
      have OX := OL.out.keep (w' := wr.alloc (.cells #[.int .i64 vk, .int .i64 vn, .string vs] 40)) (Below.heap_alloc _ _ _ OL.out.lt)
      have p0 := OX.cell 0
      have p1 := OX.cell 1
      have p2 := OX.cell 2
      have p3 := OX.cell 3
      have p4 := OX.cell 4
      have p5 := OX.cell 5
      have p6 := OX.cell 6
      clear OX
      go_wp2_with (go_at_call 110; refine (HC2.out _).mono ?_; rintro e w2 ⟨rfl, hb2⟩; have B2 := Lib.hid (below_step HB.out (Below.lit hb2)); clear hb2)
      go_roundw
      case rel => exact ⟨j + 1, by omega, by go_num, by rw [HZ.out, HS.out], B2.out⟩
      case measure => simp [intOf]; omega
    · obtain rfl : j = n' := by omega
      go_wp2
      go_ret
      exact ⟨by rw [HR.out, List.take_of_length_le (by have := HL.out; omega)]; rfl, BW.out⟩
set_option maxHeartbeats 3200000 in
theorem tgall_any {w : World} {R R1 : Nat → Prop} {A A1 : Option Addr} {n c n1 c1 : Nat} {l : List Giv} {ms : List Mat} (h1 : Ms w R1 A1 n1 c1 ms) (h : Gvs w R A n c l) (hs : ShortG l) :
    Calls Tryz.prog 50 #[.slice A1 n1 c1, .slice A n c] w fun e w' => e = .returned (.int .i64 (allI l ms)) ∧ Below w.heap.size w w' := by
  have HM := Lib.hid (fun W (hW : Below w.heap.size w W) (m : Mat) (hm : m.v.s.size ≤ maxLen) => tgmatch_any (w := W) m hm (h.keep (Kept.all hW R) (fun _ h _ => h)) hs)
  have HT := Lib.hid (tri_match l)
  have HE : Hid (allI l ms = least (matchI l) ms) := rfl
  generalize allI l ms = r at *
  generalize matchI l = f at *
  have hle := Rw.le h1
  have hcap := Rw.cap h1
  have HL := Lib.hid (Rw.len h1)
  unfold maxLen at hcap
  have H1 := Lib.hid h1
  clear h h1 hs
  go_enter Tryz.func50, Tryz.ntmps50
  go_wp2
  go_loopw [5, 10] (fun x i wr => ∃ j : Nat, j ≤ n1 ∧ i = .int .i64 j ∧ x = .int .i64 (least f (ms.take j)) ∧ Below w.heap.size w wr) (fun _ i _ => n1 - (intOf i).toNat)
  case atStart => exact ⟨0, Nat.zero_le _, rfl, rfl, Below.refl _ _⟩
  case round =>
    obtain ⟨j, hj, rfl, rfl, hb⟩ := hrel
    have HB := Lib.hid hb
    clear hb
    by_cases hlt : j < n1
    · obtain ⟨b, o, m, rfl, _, hbl, hx, hok, c0, c1, c2, c3, c4, c5, c6⟩ := (H1.out.keep (Kept.all HB.out _) (R' := fun _ => True) (fun _ _ _ => trivial)).at_ hlt
      have HS := Lib.hid (least_step hx (HT.out m).2)
      have HC := Lib.hid (fun W hW => HM.out W hW m hok.2.2.2.2)
      obtain ⟨⟨mc, mn, mu⟩, op, ⟨k, nn, s⟩⟩ := m
      simp only at c0 c1 c2 c3 c4 c5 c6
      have HC2 : Hid (∀ W : World, Below w.heap.size w W → Calls Tryz.prog 83 #[.agg #[.int .i64 mc, .string mn, .bool mu, .int .i64 op, .int .i64 k, .int .i64 nn, .string s], .slice A n c] W fun e w' => e = .returned (.int .i64 (f ⟨⟨mc, mn, mu⟩, op, ⟨k, nn, s⟩⟩)) ∧ Below W.heap.size W w') := HC.out
      clear HC hx hok
      generalize f _ = y at *
      generalize least f (ms.take j) = x at *
      generalize hz : least f (ms.take (j + 1)) = z at *
      have HZ := Lib.hid hz
      clear hz
      go_wp2_with (go_at_call 83; refine (HC2.out _ (HB.out.alloc HB.out.size _)).mono ?_; rintro e w2 ⟨rfl, hb2⟩; have B2 := Lib.hid (below_step HB.out (Below.lit hb2)); clear hb2)
      go_roundw
      case rel => exact ⟨j + 1, by omega, by go_num, by rw [HZ.out, HS.out], B2.out⟩
      case measure => simp [intOf]; omega
    · obtain rfl : j = n1 := by omega
      go_wp2
      go_ret
      exact ⟨by rw [HE.out, List.take_of_length_le (by have := HL.out; omega)]; rfl, HB.out⟩
set_option maxHeartbeats 3200000 in
theorem tgone_any {w : World} {R R1 : Nat → Prop} {A A1 : Option Addr} {n c n1 c1 : Nat} {l : List Giv} {ms : List (List Mat)} (h1 : Als w R1 A1 n1 c1 ms) (h : Gvs w R A n c l) (hs : ShortG l) :
    Calls Tryz.prog 37 #[.slice A1 n1 c1, .slice A n c] w fun e w' => e = .returned (.int .i64 (oneI l ms)) ∧ Below w.heap.size w w' := by
  have HM := Lib.hid (fun W (hW : Below w.heap.size w W) (A2 : Option Addr) (n2 c2 : Nat) (m : List Mat) (hm : Ms W (fun _ => True) A2 n2 c2 m) => tgall_any (w := W) hm (h.keep (Kept.all hW R) (fun _ h _ => h)) hs)
  have HT := Lib.hid (tri_all l)
  have HE : Hid (oneI l ms = most (allI l) ms) := rfl
  generalize oneI l ms = r at *
  generalize allI l = f at *
  have hle := Rw.le h1
  have hcap := Rw.cap h1
  have HL := Lib.hid (Rw.len h1)
  unfold maxLen at hcap
  have H1 := Lib.hid h1
  clear h h1 hs
  go_enter Tryz.func37, Tryz.ntmps37
  go_wp2
  go_loopw [5, 10] (fun x i wr => ∃ j : Nat, j ≤ n1 ∧ i = .int .i64 j ∧ x = .int .i64 (most f (ms.take j)) ∧ Below w.heap.size w wr) (fun _ i _ => n1 - (intOf i).toNat)
  case atStart => exact ⟨0, Nat.zero_le _, rfl, rfl, Below.refl _ _⟩
  case round =>
    obtain ⟨j, hj, rfl, rfl, hb⟩ := hrel
    have HB := Lib.hid hb
    clear hb
    by_cases hlt : j < n1
    · obtain ⟨b, o, m, A2, n2, c2, rfl, _, hbl, hx, c0, hin⟩ := (H1.out.keep (Kept.all HB.out _) (R' := fun _ => True) (fun _ _ _ => trivial)).at_ hlt
      have HS := Lib.hid (most_step hx (HT.out m).1)
      have HC := Lib.hid (HM.out wr HB.out A2 n2 c2 m hin)
      clear hx hin
      generalize f m = y at *
      generalize most f (ms.take j) = x at *
      generalize hz : most f (ms.take (j + 1)) = z at *
      have HZ := Lib.hid hz
      clear hz
      go_wp2_with (go_at_call 50; refine HC.out.mono ?_; rintro e w2 ⟨rfl, hb2⟩; have B2 := Lib.hid (below_step HB.out hb2); clear hb2)
      go_roundw
      case rel => exact ⟨j + 1, by omega, by go_num, by rw [HZ.out, HS.out], B2.out⟩
      case measure => simp [intOf]; omega
    · obtain rfl : j = n1 := by omega
      go_wp2
      go_ret
      exact ⟨by rw [HE.out, List.take_of_length_le (by have := HL.out; omega)]; rfl, HB.out⟩
set_option maxHeartbeats 3200000 in
theorem tgmet_any {w : World} {R R1 : Nat → Prop} {A A1 : Option Addr} {n c n1 c1 : Nat} {l : List Giv} {ms : Tgt} (h1 : Tg w R1 A1 n1 c1 ms) (h : Gvs w R A n c l) (hs : ShortG l) :
    Calls Tryz.prog 24 #[.slice A1 n1 c1, .slice A n c] w fun e w' => e = .returned (.int .i64 (metI l ms)) ∧ Below w.heap.size w w' := by
  have HM := Lib.hid (fun W (hW : Below w.heap.size w W) (A2 : Option Addr) (n2 c2 : Nat) (m : List (List Mat)) (hm : Als W (fun _ => True) A2 n2 c2 m) => tgone_any (w := W) hm (h.keep (Kept.all hW R) (fun _ h _ => h)) hs)
  have HT := Lib.hid (tri_one l)
  have HE : Hid (metI l ms = least (oneI l) ms) := rfl
  generalize metI l ms = r at *
  generalize oneI l = f at *
  have hle := Rw.le h1
  have hcap := Rw.cap h1
  have HL := Lib.hid (Rw.len h1)
  unfold maxLen at hcap
  have H1 := Lib.hid h1
  clear h h1 hs
  go_enter Tryz.func24, Tryz.ntmps24
  go_wp2
  go_loopw [5, 10] (fun x i wr => ∃ j : Nat, j ≤ n1 ∧ i = .int .i64 j ∧ x = .int .i64 (least f (ms.take j)) ∧ Below w.heap.size w wr) (fun _ i _ => n1 - (intOf i).toNat)
  case atStart => exact ⟨0, Nat.zero_le _, rfl, rfl, Below.refl _ _⟩
  case round =>
    obtain ⟨j, hj, rfl, rfl, hb⟩ := hrel
    have HB := Lib.hid hb
    clear hb
    by_cases hlt : j < n1
    · obtain ⟨b, o, m, A2, n2, c2, rfl, _, hbl, hx, c0, hin⟩ := (H1.out.keep (Kept.all HB.out _) (R' := fun _ => True) (fun _ _ _ => trivial)).at_ hlt
      have HS := Lib.hid (least_step hx (HT.out m).2)
      have HC := Lib.hid (HM.out wr HB.out A2 n2 c2 m hin)
      clear hx hin
      generalize f m = y at *
      generalize least f (ms.take j) = x at *
      generalize hz : least f (ms.take (j + 1)) = z at *
      have HZ := Lib.hid hz
      clear hz
      go_wp2_with (go_at_call 37; refine HC.out.mono ?_; rintro e w2 ⟨rfl, hb2⟩; have B2 := Lib.hid (below_step HB.out hb2); clear hb2)
      go_roundw
      case rel => exact ⟨j + 1, by omega, by go_num, by rw [HZ.out, HS.out], B2.out⟩
      case measure => simp [intOf]; omega
    · obtain rfl : j = n1 := by omega
      go_wp2
      go_ret
      exact ⟨by rw [HE.out, List.take_of_length_le (by have := HL.out; omega)]; rfl, HB.out⟩
end Go.Proofs.YtmoglaknmlhpgaaGreat
/- What a node made, in memory; the stack, which is the call's own and is cut and grows. -/
namespace Go.Proofs.YtmoglaknmlhpgaaGreat
set_option linter.unusedVariables false
open Go.RowKit

/-- The cells of what a node made. -/
def PartAt (w : World) (R : Nat → Prop) (vs : List Value) (p : Prt) : Prop := ∃ A n c, vs = [.slice A n c, .int .i64 p.v.k, .int .i64 p.v.n, .string p.v.s, .int .i64 p.e] ∧ (p.v.ok ∧ InI p.e) ∧ Vls w R A n c p.bag
def Prts (w : World) (R : Nat → Prop) := Rw 5 (PartAt w R) w R
section
variable {w w' : World} {R R' : Nat → Prop} {A : Option Addr} {n c : Nat}
theorem PartAt.keep {vs : List Value} {p : Prt} (h : PartAt w R vs p) (hk : Kept R w w') (hR : ∀ b, R b → b < w.heap.size → R' b) : PartAt w' R' vs p := by
  obtain ⟨A, n, c, e, h0, h1⟩ := h
  exact ⟨A, n, c, e, h0, h1.keep hk hR⟩
theorem keeps_part : Keeps PartAt := fun _ _ _ _ _ _ h hk hR => h.keep hk hR
theorem Prts.keep {l : List Prt} (h : Prts w R A n c l) (hk : Kept R w w') (hR : ∀ b, R b → b < w.heap.size → R' b) : Prts w' R' A n c l := Rw.keep h hk hR fun _ _ _ h => h.keep hk hR
theorem PartAt.one {w : World} {R : Nat → Prop} (vs : List Value) (p : Prt) (h : PartAt w R vs p) : ∀ v ∈ vs, v.oneCell' = true := by
  obtain ⟨A, n, c, rfl, _⟩ := h
  intro v hv
  simp at hv
  rcases hv with rfl | rfl | rfl | rfl | rfl <;> rfl
theorem Prts.at_ {l : List Prt} (h : Prts w R A n c l) {j : Nat} (hj : j < n) : ∃ b o p A' n' c', A = some ⟨b, o, none⟩ ∧ R b ∧ b < w.heap.size ∧ l[j]? = some p ∧ (p.v.ok ∧ InI p.e) ∧
    (w.cell? ⟨b, o + j * 5, none⟩ = some (.slice A' n' c') ∧ w.cell? ⟨b, o + j * 5 + 1, none⟩ = some (.int .i64 p.v.k) ∧ w.cell? ⟨b, o + j * 5 + 2, none⟩ = some (.int .i64 p.v.n) ∧ w.cell? ⟨b, o + j * 5 + 3, none⟩ = some (.string p.v.s) ∧ w.cell? ⟨b, o + j * 5 + 4, none⟩ = some (.int .i64 p.e)) ∧ Vls w R A' n' c' p.bag := by
  obtain ⟨b, o, g, vs, e, hb, hlt, hm, hl, hv, A', n', c', rfl, hok, hin⟩ := Rw.at_ h hj
  exact ⟨b, o, g, A', n', c', e, hb, hlt, hm, hok, ⟨hv 0 _ rfl, hv 1 _ rfl, hv 2 _ rfl, hv 3 _ rfl, hv 4 _ rfl⟩, hin⟩
end
/-- A row from one of its places on. -/
theorem Rw.drop {α : Type} {k : Nat} {P : List Value → α → Prop} {w : World} {R : Nat → Prop} {A : Option Addr} {n c : Nat} {l : List α} (h : Rw k P w R A n c l) {m : Nat} (hm : m ≤ n) : Rw k P w R (if c = m then A else A.map (·.add (m * k))) (n - m) (c - m) (l.drop m) := by
  obtain ⟨h1, h2, h3, h4⟩ := h
  refine ⟨by rw [List.length_drop]; omega, by omega, ⟨by have := h3.1; omega, by have := h3.2; omega⟩, ?_⟩
  rcases h4 with h4 | ⟨b, o, e, hb, hlt, hc⟩
  · left; omega
  · by_cases hn : n = m
    · left; omega
    · right
      subst e
      rw [if_neg (by omega)]
      refine ⟨b, o + m * k, ?_, hb, hlt, fun j x hx => ?_⟩
      · by_cases hk0 : m * k = 0 <;> simp [Addr.add, hk0]
      · rw [List.getElem?_drop] at hx
        obtain ⟨vs, a1, a2, a3⟩ := hc (m + j) x hx
        refine ⟨vs, a1, fun i v hi => ?_, a3⟩
        rw [Nat.add_assoc o, ← Nat.add_mul]
        exact a2 i v hi
theorem flatten_take {k : Nat} : ∀ {raw : List (List Value)} {j : Nat}, (∀ y ∈ raw, y.length = k) → (raw.take j).flatten = raw.flatten.take (j * k)
  | [], j, _ => by simp
  | y :: raw, 0, _ => by simp
  | y :: raw, j + 1, h => by
    have hy := h y (by simp)
    rw [List.take_succ_cons, List.flatten_cons, List.flatten_cons, flatten_take fun z hz => h z (by simp [hz]), show (j + 1) * k = y.length + j * k by rw [hy, Nat.add_mul]; omega, List.take_length_add_append]
theorem own_block (A : Option Addr) (n n' c c' : Nat) : (Value.slice A n c).ownBlock = (Value.slice A n' c').ownBlock := by cases A <;> rfl
/-- A row of the call's own, cut. -/
theorem Gr.take {α : Type} {k : Nat} {P : World → (Nat → Prop) → List Value → α → Prop} {w : World} {base : Nat} {E : TypeId} {A : Option Addr} {n c : Nat} {l : List α} (hP : Keeps P) (h : Gr k P w base E A n c l) {j : Nat} (hj : j ≤ n) : Gr k P w base E A j c (l.take j) := by
  obtain ⟨⟨raw, ⟨h0, h1⟩, h2, h3, h4, h5⟩, hb⟩ := h
  have hl : ∀ y ∈ raw.take j, y.length = k := fun y hy => h4 y (List.mem_of_mem_take hy)
  have hr : (raw.take j).length = j := by rw [List.length_take]; omega
  refine ⟨⟨raw.take j, ⟨by rw [flatten_len hl, hr], ?_⟩, hr, by rw [List.length_take]; omega, hl, fun i vs x a b => ?_⟩, hb⟩
  · rcases h1 with ⟨hv, hn⟩ | ⟨g, cap, cur, a, b, r1, r2, r3, r4, r5⟩
    · obtain rfl : j = 0 := by omega
      injection hv with e1 e2 e3
      subst e1 e3
      exact .inl ⟨rfl, rfl⟩
    · injection a with e1 e2 e3
      subst e1 e3
      refine .inr ⟨g, c, cur, rfl, b, r1, by omega, r3, r4, ?_⟩
      rw [flatten_take h4, ← r5, List.take_take]
      congr 1
      exact (Nat.min_eq_left (Nat.mul_le_mul_right k hj)).symm
  · have hij : i < j := by have := (List.getElem?_eq_some_iff.1 a).1; omega
    rw [List.getElem?_take, if_pos hij] at a b
    exact hP _ _ _ _ vs x (h5 i vs x a b) (Kept.refl _ _) (fun b hb _ => ⟨hb.1, by rw [own_block A j n c c]; exact hb.2⟩)
theorem partinfo : (Tryz.prog.info? 148).map (fun i => (i.zero, i.size, i.bytes)) = some (some (.agg #[.slice none 0 0, .int .i64 0, .int .i64 0, .string ⟨#[]⟩, .int .i64 0]), 5, 64) := by kernel_rfl
/-- One more behind the stack. -/
theorem push_part {w : World} {base n c : Nat} {A : Option Addr} {l : List Prt} {A1 : Option Addr} {n1 c1 : Nat} {p : Prt} (h : Gr 5 PartAt w base 148 A n c l) (hok : p.v.ok ∧ InI p.e) (hx : Vls w (Nb base (.slice A n c)) A1 n1 c1 p.bag) (hn : n < 1000000) :
    ∃ A' c' w', (Builtin.append_ #[145, 145] 145 #[.slice A n c, .slice (some ⟨w.heap.size, 0, none⟩) 1 1]).run Tryz.prog (w.alloc (.cells #[.slice A1 n1 c1, .int .i64 p.v.k, .int .i64 p.v.n, .string p.v.s, .int .i64 p.e] 148)) = .ok (.slice A' (n + 1) c') w' ∧ Gr 5 PartAt w' base 148 A' (n + 1) c' (l ++ [p]) ∧ Below base w w' := by
  obtain ⟨i, hi, hz, hs, hb⟩ := info_of partinfo
  exact Gr.push (vs := [.slice A1 n1 c1, .int .i64 p.v.k, .int .i64 p.v.n, .string p.v.s, .int .i64 p.e]) (x := p) Tryz.underlying145 hi hz hs hb rfl (by omega) (by omega) keeps_part h ⟨A1, n1, c1, rfl, hok, hx⟩ rfl (fun _ _ _ _ => PartAt.one _ _) hn
end Go.Proofs.YtmoglaknmlhpgaaGreat
/- Add, Sub, Mul: the project's and the reference's. -/
namespace Go.Proofs.YtmoglaknmlhpgaaGreat
set_option linter.unusedVariables false
open Go.RowKit

theorem ret_fits {a x : Int} {p : Int × Int} (h : p = (a, x)) : Ending.returned (.tuple #[.int .i64 a, .int .i64 x]) = .returned (.tuple #[.int .i64 p.1, .int .i64 p.2]) := by rw [h]

theorem add_any (a b : Int) (ha : In64 a) (hb : In64 b) (w : World) :
    Calls Tryz.prog 163 #[.int .i64 a, .int .i64 b] w fun e w' => e = .returned (.tuple #[.int .i64 (fits (a + b)).1, .int .i64 (fits (a + b)).2]) ∧ w = w' := by
  obtain ⟨c, hc⟩ : ∃ c, IntKind.i64.wrap (a + b) = c := ⟨_, rfl⟩
  have HC := Lib.hid hc
  go_enter Tryz.func163, Tryz.ntmps163
  go_wp2_with fail
  all_goals
    rename_i h
    have H := Lib.hid h
    clear h
    go_ret2
  · exact ⟨ret_fits (sum_no ha hb HC.out (bne_iff_yes H.out)), rfl⟩
  · exact ⟨ret_fits (sum_yes ha hb HC.out (bne_iff_no H.out)), rfl⟩
theorem sub_any (a b : Int) (ha : In64 a) (hb : In64 b) (w : World) :
    Calls Tryz.prog 164 #[.int .i64 a, .int .i64 b] w fun e w' => e = .returned (.tuple #[.int .i64 (fits (a - b)).1, .int .i64 (fits (a - b)).2]) ∧ w = w' := by
  obtain ⟨c, hc⟩ : ∃ c, IntKind.i64.wrap (a - b) = c := ⟨_, rfl⟩
  have HC := Lib.hid hc
  go_enter Tryz.func164, Tryz.ntmps164
  go_wp2_with fail
  all_goals
    rename_i h
    have H := Lib.hid h
    clear h
    go_ret2
  · exact ⟨ret_fits (rest_no ha hb HC.out (bne_iff_yes H.out)), rfl⟩
  · exact ⟨ret_fits (rest_yes ha hb HC.out (bne_iff_no H.out)), rfl⟩
theorem mul_any (a b : Int) (ha : In64 a) (hb : In64 b) (w : World) :
    Calls Tryz.prog 165 #[.int .i64 a, .int .i64 b] w fun e w' => e = .returned (.tuple #[.int .i64 (fits (a * b)).1, .int .i64 (fits (a * b)).2]) ∧ w = w' := by
  by_cases h0 : a = 0
  · subst h0
    go_enter Tryz.func165, Tryz.ntmps165
    go_wp2_with fail
    go_ret2
    exact ⟨ret_fits (by rw [Int.zero_mul]; rfl), rfl⟩
  · by_cases h1 : a = -1
    · subst h1
      have C := Lib.hid (sub_any 0 b (by decide) hb)
      go_enter Tryz.func165, Tryz.ntmps165
      go_wp2_with fail
      refine (C.out _).mono ?_
      rintro e w' ⟨rfl, rfl⟩
      go_wp2_with fail
      go_ret2
      exact ⟨ret_fits (a := (fits (-b)).1) (x := (fits (-b)).2) (by rw [← neg_one, Int.zero_sub]), rfl⟩
    · have H0 := Lib.hid h0
      have H1 := Lib.hid h1
      have b0 : (a == 0) = false := by rw [beq_eq_false_iff_ne]; exact h0
      have b1 : (a == -1) = false := by rw [beq_eq_false_iff_ne]; exact h1
      obtain ⟨c, hc⟩ : ∃ c, IntKind.i64.wrap (a * b) = c := ⟨_, rfl⟩
      have HC := Lib.hid hc
      go_enter Tryz.func165, Tryz.ntmps165
      go_wp2_with fail
      all_goals
        rename_i h
        have H := Lib.hid h
        clear h
        go_ret2
      · exact ⟨ret_fits (prod_no ha hb H0.out H1.out HC.out (ne_yes H.out)), rfl⟩
      · exact ⟨ret_fits (prod_yes ha H0.out H1.out HC.out (ne_no H.out)), rfl⟩

end Go.Proofs.YtmoglaknmlhpgaaGreat
/- Package fun's and the reference's functions of values. -/
namespace Go.Proofs.YtmoglaknmlhpgaaGreat
set_option linter.unusedVariables false
open Go.RowKit

theorem box_ret {fn : Func} {p : Tmp} {tmps : Array Value} {w : World} {g : Nat} {k n : Int} {s : ByteArray} (h : fn.results = #[.cell p 40]) (hp : tmps.getD p undef = .pointer (some ⟨g, 0, none⟩)) (hg : Bx w g k n s) :
    (results fn tmps).run Tryz.prog w = .ok (.agg #[.int .i64 k, .int .i64 n, .string s]) w :=
  results_cell_row h tmps w g _ _ (0, 0) _ hp hg Tryz.underlying40 rfl (by kernel_rfl)
theorem box_ret2 {fn : Func} {p u : Tmp} {tmps : Array Value} {w : World} {g : Nat} {k n : Int} {s : ByteArray} {v : Value} (h : fn.results = #[.cell p 40, .tmp u]) (hp : tmps.getD p undef = .pointer (some ⟨g, 0, none⟩)) (hu : tmps.getD u undef = v) (hg : Bx w g k n s) :
    (results fn tmps).run Tryz.prog w = .ok (.tuple #[.agg #[.int .i64 k, .int .i64 n, .string s], v]) w := by
  rw [results_cell_tmp h, hp, hu]
  have hl := run_loadVar_row (P := Tryz.prog) w g 40 _ _ (0, 0) _ hg Tryz.underlying40 rfl (by kernel_rfl)
  simp [asAddr, hl, Result.andThen]

theorem below1 (w : World) (x : Obj) : Below w.heap.size w (w.alloc x) := (Below.refl _ _).alloc (Nat.le_refl _) _
theorem below2 (w : World) (x y : Obj) : Below w.heap.size w ((w.alloc x).alloc y) := (below1 w x).alloc (by rw [size_al]; omega) _
theorem ftruth_any (b : Bool) (w : World) : Calls Tryz.prog 159 #[.bool b] w fun e w' => e = .returned (.agg #[.int .i64 1, .int .i64 (truthN b), .string ⟨#[]⟩]) ∧ Below w.heap.size w w' := by
  cases b
  all_goals
    go_enter Tryz.func159, Tryz.ntmps159
    go_wp2_with fail
    try simp only [Exit.inBlock, Exit.then]
    refine bodyPost_ret (box_ret rfl rfl ((Bx.made _ _ _ _).alloc _)) rfl ?_
    exact ⟨rfl, below2 _ _ _⟩
theorem known_any (op : Int) (w : World) : Calls Tryz.prog 146 #[.int .i64 op] w fun e w' => e = .returned (.bool (decide (6 ≤ op ∧ op ≤ 13))) ∧ w = w' := by
  by_cases h1 : 6 ≤ op <;> by_cases h2 : op ≤ 13
  all_goals
    go_enter Tryz.func146, Tryz.ntmps146
    go_wp2
    go_ret
    exact ⟨ret_bool (by simp [h1, h2]), rfl⟩
theorem ftakes_any (op : Int) (w : World) : Calls Tryz.prog 147 #[.int .i64 op] w fun e w' => e = .returned (.int .i64 (needs op : Int)) ∧ w = w' := by
  by_cases h : op = 11
  · subst h
    go_enter Tryz.func147, Tryz.ntmps147
    go_wp2
    go_ret
    exact ⟨rfl, rfl⟩
  · have hb : (op == 11) = false := by rw [beq_eq_false_iff_ne]; exact h
    have H : Hid (needs op = 2) := if_neg h
    go_enter Tryz.func147, Tryz.ntmps147
    go_wp2
    go_ret
    exact ⟨ret_int (by rw [H.out]; rfl), rfl⟩
theorem below3 {w w' : World} {x y z : Obj} (h : Below (((w.alloc x).alloc y).alloc z).heap.size (((w.alloc x).alloc y).alloc z) w') : Below w.heap.size w w' := Below.lit (Below.lit (Below.lit h))
theorem box3 (w : World) (x y : Obj) (k n : Int) (s : ByteArray) : Bx (((w.alloc x).alloc y).alloc (.cells #[.int .i64 k, .int .i64 n, .string s] 40)) (w.heap.size + 1 + 1) k n s := by
  have := Bx.made ((w.alloc x).alloc y) k n s
  rwa [size_al, size_al] at this
theorem ret_v {k n e : Int} {s : ByteArray} {p : Vl × Int} (h : p = (⟨k, n, s⟩, e)) : Ending.returned (.tuple #[.agg #[.int .i64 k, .int .i64 n, .string s], .int .i64 e]) = .returned (.tuple #[p.1.val, .int .i64 p.2]) := by rw [h]; rfl
theorem lt2 {n : Nat} : n ≤ n + 1 + 1 := by omega

set_option maxHeartbeats 1600000 in
theorem same_any (a b : Vl) (w : World) : Calls Tryz.prog 148 #[a.val, b.val] w fun e w' => e = .returned (.tuple #[(sameV a b).1.val, .int .i64 (sameV a b).2]) ∧ Below w.heap.size w w' := by
  obtain ⟨k, n, s⟩ := a
  obtain ⟨k', n', s'⟩ := b
  show Calls _ _ #[.agg #[.int .i64 k, .int .i64 n, .string s], .agg #[.int .i64 k', .int .i64 n', .string s']] w _
  by_cases h : k = k'
  · subst h
    have hve := val_eq k n k n' s s'
    have hb := ftruth_any (veq ⟨k, n, s⟩ ⟨k, n', s'⟩)
    have hs : sameV ⟨k, n, s⟩ ⟨k, n', s'⟩ = (truthV (veq ⟨k, n, s⟩ ⟨k, n', s'⟩), 0) := if_pos rfl
    generalize veq ⟨k, n, s⟩ ⟨k, n', s'⟩ = bb at *
    have HB := Lib.hid hb
    have HS := Lib.hid hs
    clear hb hs
    go_enter Tryz.func148, Tryz.ntmps148
    go_wp2_with fail
    refine (HB.out _).mono ?_
    rintro e w1 ⟨rfl, hb1⟩
    have R1 := Lib.hid ((box3 w _ _ 0 0 ⟨#[]⟩).then_ hb1)
    have D1 := Lib.hid (below3 hb1)
    have c := R1.out.c3
    have f := R1.out.fz
    clear hb1
    go_wp2_with fail
    try simp only [Exit.inBlock, Exit.then]
    refine bodyPost_ret (box_ret2 rfl rfl rfl (R1.out.put _ _ _)) rfl ?_
    exact ⟨ret_v HS.out, below_put D1.out lt2 _ _ _⟩
  · have hk : (k != k') = true := by rw [bne_iff_ne]; exact h
    have HK := Lib.hid h
    clear h
    go_enter Tryz.func148, Tryz.ntmps148
    go_wp2_with fail
    try simp only [Exit.inBlock, Exit.then]
    refine bodyPost_ret (box_ret2 rfl rfl rfl (box3 _ _ _ _ _ _)) rfl ?_
    exact ⟨ret_v (if_neg HK.out), below3 (Below.refl _ _)⟩

theorem fless_is (a b : Vl) (ha : a.s.size ≤ maxLen) (hb : b.s.size ≤ maxLen) (x : Bool) (e : Int) (h : lessOf a b = (x, e)) (w : World) :
    Calls Tryz.prog 153 #[.agg #[.int .i64 a.k, .int .i64 a.n, .string a.s], .agg #[.int .i64 b.k, .int .i64 b.n, .string b.s]] w fun z w' => z = .returned (.tuple #[.bool x, .int .i64 e]) ∧ Below w.heap.size w w' := by
  have := less_any a b ha hb w
  rwa [h] at this

set_option maxHeartbeats 1600000 in
theorem fless_any (a b : Vl) (ha : a.s.size ≤ maxLen) (hb : b.s.size ≤ maxLen) (w : World) : Calls Tryz.prog 149 #[a.val, b.val] w fun e w' => e = .returned (.tuple #[(lessV a b).1.val, .int .i64 (lessV a b).2]) ∧ Below w.heap.size w w' := by
  obtain ⟨x, e, hx⟩ : ∃ x e, lessOf a b = (x, e) := ⟨_, _, rfl⟩
  have hc := fless_is a b ha hb x e hx
  have hl : lessV a b = if e = 0 then (truthV x, 0) else (noneV, e) := by unfold lessV; rw [hx]
  generalize lessV a b = R at *
  obtain ⟨k, n, s⟩ := a
  obtain ⟨k', n', s'⟩ := b
  show Calls _ _ #[.agg #[.int .i64 k, .int .i64 n, .string s], .agg #[.int .i64 k', .int .i64 n', .string s']] w _
  have HC := Lib.hid hc
  clear hc hx
  by_cases h : e = 0
  · subst h
    rw [if_pos rfl] at hl
    have HL := Lib.hid hl
    have HB := Lib.hid (ftruth_any x)
    clear hl
    go_enter Tryz.func149, Tryz.ntmps149
    go_wp2_with fail
    refine (HC.out _).mono ?_
    rintro e w1 ⟨rfl, hb1⟩
    have R1 := Lib.hid ((box3 w _ _ 0 0 ⟨#[]⟩).then_ hb1)
    have D1 := Lib.hid (below3 hb1)
    clear hb1
    go_wp2_with fail
    refine (HB.out _).mono ?_
    rintro e w2 ⟨rfl, hb2⟩
    have R2 := Lib.hid (R1.out.then_ hb2)
    have D2 := Lib.hid (below_step D1.out hb2)
    have c := R2.out.c3
    have f := R2.out.fz
    clear hb2 R1 D1
    go_wp2_with fail
    try simp only [Exit.inBlock, Exit.then]
    refine bodyPost_ret (box_ret2 rfl rfl rfl (R2.out.put _ _ _)) rfl ?_
    exact ⟨ret_v HL.out, below_put D2.out lt2 _ _ _⟩
  · rw [if_neg h] at hl
    have HL := Lib.hid hl
    have he : (e != 0) = true := by rw [bne_iff_ne]; exact h
    clear hl h
    go_enter Tryz.func149, Tryz.ntmps149
    go_wp2_with fail
    refine (HC.out _).mono ?_
    rintro e' w1 ⟨rfl, hb1⟩
    have R1 := Lib.hid ((box3 w _ _ 0 0 ⟨#[]⟩).then_ hb1)
    have D1 := Lib.hid (below3 hb1)
    have c := R1.out.c3
    have f := R1.out.fz
    clear hb1
    go_wp2_with fail
    try simp only [Exit.inBlock, Exit.then]
    refine bodyPost_ret (box_ret2 rfl rfl rfl (R1.out.put _ _ _)) rfl ?_
    exact ⟨ret_v HL.out, below_put D1.out lt2 _ _ _⟩

set_option maxHeartbeats 1600000 in
theorem allright_any {w : World} {B n c : Nat} {A : Option Addr} {l : List Vl} (h : Vs w B A n c l) (hB : B ≤ w.heap.size) :
    Calls Tryz.prog 145 #[.slice A n c] w fun e w' => e = .returned (.bool (allR l)) ∧ Below w.heap.size w w' := by
  have hlen := h.1
  have hcap := h.2.2.1
  have hle := h.2.1
  unfold maxLen at hcap
  have HV := Lib.hid h
  have HL := Lib.hid hlen
  clear h hlen
  go_enter Tryz.func145, Tryz.ntmps145
  go_wp2_with fail
  go_loopw [7] (fun i wr => ∃ k : Nat, k ≤ n ∧ i = .int .i64 k ∧ RightTo l k ∧ Below w.heap.size w wr) (fun i _ => n - (intOf i).toNat)
  case atStart => exact ⟨0, Nat.zero_le _, rfl, fun j x _ hj => by omega, Below.refl _ _⟩
  case round =>
    obtain ⟨k, hk, rfl, ht, hb⟩ := hrel
    have HT := Lib.hid ht
    have HB := Lib.hid hb
    by_cases hlt : k < n
    · obtain ⟨b, o, x, rfl, hbB, hx, hok, x0, x1, x2⟩ := (HV.out.below (hb.mono hB)).at_ hlt
      obtain ⟨kx, nx, sx⟩ := x
      have HX := Lib.hid hx
      have qr := right_any kx nx sx hok.2.2
      have D1 := Lib.hid (hb.alloc hb.size (.cells #[.int .i64 kx, .int .i64 nx, .string sx] 40))
      clear ht hb hx hok
      by_cases hr : RightV kx nx sx.data.toList
      · have HR : Hid (Vl.right ⟨kx, nx, sx⟩) := hr
        rw [decide_eq_true hr] at qr
        have QR := Lib.hid qr
        clear qr hr
        go_wp2_with fail
        refine (QR.out _).mono ?_
        rintro e w2 ⟨rfl, hb2⟩
        have D2 := Lib.hid (below_step D1.out hb2)
        clear hb2
        go_wp2_with fail
        go_roundw
        case rel => exact ⟨k + 1, by omega, by go_num, HT.out.step HX.out HR.out, D2.out⟩
        case measure => simp [intOf]; omega
      · have HR : Hid (¬ Vl.right ⟨kx, nx, sx⟩) := hr
        rw [decide_eq_false hr] at qr
        have QR := Lib.hid qr
        clear qr hr
        go_wp2_with fail
        refine (QR.out _).mono ?_
        rintro e w2 ⟨rfl, hb2⟩
        have D2 := Lib.hid (below_step D1.out hb2)
        clear hb2
        go_wp2_with fail
        go_ret
        exact ⟨ret_bool (allR_bad HX.out HR.out).symm, D2.out⟩
    · obtain rfl : k = n := by omega
      clear ht hb
      go_wp2_with fail
      go_ret
      exact ⟨ret_bool (HT.out.all HL.out).symm, HB.out⟩
end Go.Proofs.YtmoglaknmlhpgaaGreat
/- Package expr's small functions: takes, truth, single, literal. -/
namespace Go.Proofs.YtmoglaknmlhpgaaGreat
set_option linter.unusedVariables false
open Go.RowKit

theorem etakes_any (op : Int) (w : World) : Calls Tryz.prog 80 #[.int .i64 op] w fun e w' => e = .returned (.int .i64 (takesN op : Int)) ∧ w = w' := by
  by_cases h1 : op = 1
  · subst h1
    go_enter Tryz.func80, Tryz.ntmps80
    go_wp2
    go_ret
    exact ⟨rfl, rfl⟩
  by_cases h2 : op = 2
  · subst h2
    go_enter Tryz.func80, Tryz.ntmps80
    go_wp2
    go_ret
    exact ⟨rfl, rfl⟩
  by_cases h3 : op = 3
  · subst h3
    go_enter Tryz.func80, Tryz.ntmps80
    go_wp2
    go_ret
    exact ⟨rfl, rfl⟩
  by_cases h4 : op = 4
  · subst h4
    go_enter Tryz.func80, Tryz.ntmps80
    go_wp2
    go_ret
    exact ⟨rfl, rfl⟩
  by_cases h11 : op = 11
  · subst h11
    go_enter Tryz.func80, Tryz.ntmps80
    go_wp2
    go_ret
    exact ⟨rfl, rfl⟩
  have b1 : (op == 1) = false := by rw [beq_eq_false_iff_ne]; exact h1
  have b2 : (op == 2) = false := by rw [beq_eq_false_iff_ne]; exact h2
  have b3 : (op == 3) = false := by rw [beq_eq_false_iff_ne]; exact h3
  have b4 : (op == 4) = false := by rw [beq_eq_false_iff_ne]; exact h4
  have b11 : (op == 11) = false := by rw [beq_eq_false_iff_ne]; exact h11
  have H : Hid (takesN op = 2) := by show takesN op = 2; unfold takesN; rw [if_neg (by omega), if_neg (by omega)]
  clear h1 h2 h3 h4 h11
  go_enter Tryz.func80, Tryz.ntmps80
  go_wp2
  go_ret
  exact ⟨ret_int (by rw [H.out]; rfl), rfl⟩
theorem etruth_any (b : Bool) (w : World) : Calls Tryz.prog 48 #[.bool b] w fun e w' => e = .returned (.agg #[.int .i64 1, .int .i64 (truthN b), .string ⟨#[]⟩]) ∧ Below w.heap.size w w' := by
  cases b
  all_goals
    go_enter Tryz.func48, Tryz.ntmps48
    go_wp2_with fail
    try simp only [Exit.inBlock, Exit.then]
    refine bodyPost_ret (box_ret rfl rfl ((Bx.made _ _ _ _).alloc _)) rfl ?_
    exact ⟨rfl, below2 _ _ _⟩

/-- A value and a number, as they come back. -/
theorem eret_pair {v : Vl} {e : Int} {p : Vl × Int} (h : p = (v, e)) : Ending.returned (.tuple #[.agg #[.int .i64 v.k, .int .i64 v.n, .string v.s], .int .i64 e]) = .returned (.tuple #[p.1.val, .int .i64 p.2]) := by rw [h]; rfl
set_option maxHeartbeats 1600000 in
theorem esingle_any {w : World} {R : Nat → Prop} {A : Option Addr} {n c : Nat} {l : List Vl} (h : Vls w R A n c l) :
    Calls Tryz.prog 132 #[.slice A n c] w fun e w' => e = .returned (.tuple #[(singleV l).1.val, .int .i64 (singleV l).2]) ∧ Below w.heap.size w w' := by
  have hle := Rw.le h
  have hcap := Rw.cap h
  have hlen := Rw.len h
  unfold maxLen at hcap
  by_cases h1 : n = 1
  · subst h1
    obtain ⟨v, rfl⟩ := List.length_eq_one_iff.1 hlen
    have h' := h.keep (w' := w.alloc (.cells #[.int .i64 0, .int .i64 0, .string ⟨#[]⟩] 40)) (Kept.all (below1 w _) R) (fun _ h _ => h)
    obtain ⟨b, o, x, rfl, hRb, hbl, hx, hok, x0, x1, x2⟩ := h'.at_ (j := 0) (by omega)
    simp at hx
    subst hx
    simp only [Nat.zero_mul, Nat.add_zero] at x0 x1 x2
    have HQ := Lib.hid (show singleV [v] = (v, 0) from rfl)
    have hR := (Bx.made w 0 0 ⟨#[]⟩)
    have c0 := hR.c3
    have f0 := hR.fz
    clear h hlen h' hRb hok
    go_enter Tryz.func132, Tryz.ntmps132
    go_wp2_with fail
    try simp only [Exit.inBlock, Exit.then]
    refine bodyPost_ret (box_ret2 rfl rfl rfl (Bx.made _ _ _ _)) rfl ?_
    exact ⟨eret_pair HQ.out, below1 _ _⟩
  · have HQ : Hid (singleV l = (noneV, 4)) := by
      show singleV l = _
      match l, hlen with
      | [], _ => rfl
      | [v], e => exact absurd e.symm h1
      | _ :: _ :: _, _ => rfl
    have hne : ((n : Int) != 1) = true := by rw [bne_iff_ne]; omega
    clear h hlen
    go_enter Tryz.func132, Tryz.ntmps132
    go_wp2_with fail
    try simp only [Exit.inBlock, Exit.then]
    refine bodyPost_ret (box_ret2 rfl rfl rfl (Bx.made _ _ _ _)) rfl ?_
    exact ⟨eret_pair (v := noneV) HQ.out, below1 _ _⟩

/-- What a node made, in a block of its own, as it comes back. -/
theorem part_ret {fn : Func} {p : Tmp} {tmps : Array Value} {w : World} {g : Nat} {A : Option Addr} {n c : Nat} {k m e : Int} {s : ByteArray} (h : fn.results = #[.cell p 148]) (hp : tmps.getD p undef = .pointer (some ⟨g, 0, none⟩)) (hg : Ob w g 148 #[.slice A n c, .int .i64 k, .int .i64 m, .string s, .int .i64 e]) :
    (results fn tmps).run Tryz.prog w = .ok (.agg #[.slice A n c, .int .i64 k, .int .i64 m, .string s, .int .i64 e]) w :=
  results_cell_row h tmps w g _ _ (0, 0) _ hp hg Tryz.underlying148 rfl (by kernel_rfl)
theorem ob_put5 {w : World} {g : Nat} {t : TypeId} {x0 x1 x2 x3 x4 : Value} (h : Ob w g t #[x0, x1, x2, x3, x4]) (a b c d e : Value) : Ob (((((w.setCell ⟨g, 0, none⟩ a).setCell ⟨g, 1, none⟩ b).setCell ⟨g, 2, none⟩ c).setCell ⟨g, 3, none⟩ d).setCell ⟨g, 4, none⟩ e) g t #[a, b, c, d, e] := by
  have := ((((h.put 0 a).put 1 b).put 2 c).put 3 d).put 4 e
  simpa using this
theorem below_put5 {w0 w : World} {g B : Nat} (h : Below B w0 w) (hg : B ≤ g) (a b c d e : Value) : Below B w0 (((((w.setCell ⟨g, 0, none⟩ a).setCell ⟨g, 1, none⟩ b).setCell ⟨g, 2, none⟩ c).setCell ⟨g, 3, none⟩ d).setCell ⟨g, 4, none⟩ e) :=
  ((((h.setCell (p := ⟨g, 0, none⟩) hg a).setCell (p := ⟨g, 1, none⟩) hg b).setCell (p := ⟨g, 2, none⟩) hg c).setCell (p := ⟨g, 3, none⟩) hg d).setCell (p := ⟨g, 4, none⟩) hg e
set_option maxRecDepth 100000 in
set_option maxHeartbeats 1600000 in
theorem eliteral_any (v : Vl) (hs : v.s.size ≤ 1000000) (w : World) :
    Calls Tryz.prog 105 #[.agg #[.int .i64 v.k, .int .i64 v.n, .string v.s]] w fun e w' => e = .returned (.agg #[.slice none 0 0, .int .i64 v.k, .int .i64 v.n, .string v.s, .int .i64 0]) ∧ Below w.heap.size w w' := by
  obtain ⟨k, n, s⟩ := v
  simp only at hs ⊢
  have HCL := Lib.hid (fun W => clone_any s W hs)
  have HSZ := Lib.hid (size_al w (.cells #[.int .i64 k, .int .i64 n, .string s] 40))
  go_enter Tryz.func105, Tryz.ntmps105
  go_wp2_with (go_at_call 82; refine (HCL.out _).mono ?_; rintro e w1 ⟨rfl, hb1⟩
               have R1 := Lib.hid (((Bx.made w k n s).alloc (.cells #[.slice none 0 0, .int .i64 0, .int .i64 0, .string ⟨#[]⟩, .int .i64 0] 148)).then_ hb1)
               have O1 := Lib.hid ((Ob.made (w.alloc (.cells #[.int .i64 k, .int .i64 n, .string s] 40)) 148 #[.slice none 0 0, .int .i64 0, .int .i64 0, .string ⟨#[]⟩, .int .i64 0]).below hb1 (by simp))
               have D1 := Lib.hid (Below.lit (Below.lit hb1))
               have c0 := R1.out.c3
               have f0 := R1.out.fz
               rw [HSZ.out] at O1
               have o0 := O1.out.cell
               have g0 := O1.out.frozen
               clear hb1)
  try simp only [Exit.inBlock, Exit.then]
  have O2 := O1.out.keep (w' := w1.setCell ⟨w.heap.size, 2, none⟩ (.string s)) (Below.heap_setCell w1 _ _ _ (by show w.heap.size + 1 ≠ w.heap.size; omega))
  refine bodyPost_ret (part_ret rfl rfl (ob_put5 O2 _ _ _ _ _)) rfl ?_
  exact ⟨rfl, below_put5 (D1.out.setCell (p := ⟨w.heap.size, 2, none⟩) (Nat.le_refl _) _) (by omega) _ _ _ _ _⟩
end Go.Proofs.YtmoglaknmlhpgaaGreat
/- What conditions come to, plainly: expressions behind each other, truths, what isn't asked for. -/
namespace Go.Proofs.YtmoglaknmlhpgaaGreat
set_option linter.unusedVariables false

theorem expr_un {a : List Nod} {f : Int} (ha : exprE a = 0) (na : a ≠ []) (hf : f ≠ 1 ∧ f ≠ 2) (hp : popX f [false] = some [false]) (hl : a.length + 1 ≤ 32) : exprE (a ++ [opN f]) = 0 := by
  obtain ⟨_, ra⟩ := exprE_ok ha na
  have r2 : runX (a ++ [opN f]) [] = some [false] := by
    rw [runX_app, ra]
    simp only [runX, stepX, holds_opN hf.1 hf.2, if_true]
    show (match popX f [false] with | some st' => some st' | none => none) = some [false]
    rw [hp]
  unfold exprE
  rw [r2, if_neg (by simp; omega)]
  simp
theorem expr_bin {a b : List Nod} {f : Int} (ha : exprE a = 0) (hb : exprE b = 0) (na : a ≠ []) (nb : b ≠ []) (hf : f ≠ 1 ∧ f ≠ 2) (hp : popX f [false, false] = some [false]) (hl : a.length + b.length + 1 ≤ 32) : exprE (a ++ b ++ [opN f]) = 0 := by
  obtain ⟨_, ra⟩ := exprE_ok ha na
  obtain ⟨_, rb⟩ := exprE_ok hb nb
  have r1 : runX (a ++ b) [] = some [false, false] := by
    rw [runX_app, ra]
    exact runX_frame b [] [false] [false] rb
  have r2 : runX (a ++ b ++ [opN f]) [] = some [false] := by
    rw [runX_app, r1]
    simp only [runX, stepX, holds_opN hf.1 hf.2, if_true]
    show (match popX f [false, false] with | some st' => some st' | none => none) = some [false]
    rw [hp]
  unfold exprE
  rw [r2, if_neg (by simp; omega)]
  simp
theorem val_of {ask : List Giv} {l : List Nod} {p : Prt} (h : exprE l = 0) (hn : l ≠ []) (hr : runP ask l [] = [p]) : valP ask l = (p.v, p.e) := by
  unfold valP
  rw [if_neg (by rintro (h0 | h0); exact hn h0; exact h0 h), hr]
  rfl
theorem val_bin {ask : List Giv} {a b : List Nod} {p q : Prt} {f : Int} (hp : ∀ t, runP ask a t = t ++ [p]) (hq : ∀ t, runP ask b t = t ++ [q]) (ht : takesN f = 2) : runP ask (a ++ b ++ [opN f]) [] = [madeP ask (opN f) [p, q]] := by
  rw [runP_app, runP_app, hp, hq]
  show stepP ask _ (opN f) = _
  unfold stepP
  rw [show (opN f).op = f from rfl, ht]
  rfl
theorem val_un {ask : List Giv} {a : List Nod} {p : Prt} {f : Int} (hp : ∀ t, runP ask a t = t ++ [p]) (ht : takesN f = 1) : runP ask (a ++ [opN f]) [] = [madeP ask (opN f) [p]] := by
  rw [runP_app, hp]
  show stepP ask _ (opN f) = _
  unfold stepP
  rw [show (opN f).op = f from rfl, ht]
  rfl

/-- Cond's answer to a value. -/
def condV (v : Vl) : Int := if v = truthV true then 2 else if v = truthV false then 0 else 1
theorem truth_ne : truthV true ≠ truthV false := by decide
theorem none_t : noneV ≠ truthV true := by decide
theorem none_f : noneV ≠ truthV false := by decide
theorem condV_none : condV noneV = 1 := by unfold condV; rw [if_neg none_t, if_neg none_f]
theorem condV_t : condV (truthV true) = 2 := if_pos rfl
theorem condV_f : condV (truthV false) = 0 := by unfold condV; rw [if_neg truth_ne.symm, if_pos rfl]
theorem condP_val {ask : List Giv} {l : List Nod} (hn : l ≠ []) : condP ask l = condV (valP ask l).1 := by unfold condP; rw [if_neg hn]; rfl
theorem condV_cases (v : Vl) : v = truthV true ∧ condV v = 2 ∨ v = truthV false ∧ condV v = 0 ∨ (v ≠ truthV true ∧ v ≠ truthV false) ∧ condV v = 1 := by
  by_cases h1 : v = truthV true
  · subst h1; exact .inl ⟨rfl, condV_t⟩
  · by_cases h2 : v = truthV false
    · subst h2; exact .inr (.inl ⟨rfl, condV_f⟩)
    · exact .inr (.inr ⟨⟨h1, h2⟩, by unfold condV; rw [if_neg h1, if_neg h2]⟩)
theorem truth_right (b : Bool) : (truthV b).right := by cases b <;> decide
theorem truth_of {v : Vl} (h : v.right) (hk : v.k = 1) : v = truthV true ∨ v = truthV false := by
  obtain ⟨k, n, s⟩ := v
  simp only at hk
  subst hk
  unfold Vl.right RightV at h
  rcases h with ⟨_, hl, hn | hn⟩ | ⟨h, _⟩ | ⟨h, _⟩ | ⟨h, _⟩ | ⟨h, _⟩
  · exact .inr (Vl.ext' rfl hn hl)
  · exact .inl (Vl.ext' rfl hn hl)
  all_goals cases h
theorem made_and {ask : List Giv} {p q : Prt} (hp : FineP p) (hq : FineP q) : condV (madeP ask (opN 12) [p, q]).v = min (condV p.v) (condV q.v) := by
  have hd : decB 12 [p, q] = (decide (p.v = truthV false) || decide (q.v = truthV false)) := by simp [decB]
  have hm : madeP ask (opN 12) [p, q] = if decB 12 [p, q] = true then ⟨[], truthV false, 0⟩ else if errL [p, q] ≠ 0 then ⟨[], noneV, errL [p, q]⟩ else ⟨[], (reckP 12 [p, q]).1, (reckP 12 [p, q]).2⟩ := rfl
  rw [hm, hd]
  rcases condV_cases p.v with ⟨e1, c1⟩ | ⟨e1, c1⟩ | ⟨⟨e1, f1⟩, c1⟩ <;> rcases condV_cases q.v with ⟨e2, c2⟩ | ⟨e2, c2⟩ | ⟨⟨e2, f2⟩, c2⟩
  case inr.inl.inl | inr.inl.inr.inl | inr.inl.inr.inr | inl.inr.inl | inr.inr.inr.inl =>
    rw [if_pos (by simp [e1, e2]), c1, c2]
    exact condV_f
  all_goals
    rw [if_neg (by simp [*, truth_ne])]
    rw [c1, c2]
  · have pe : p.e = 0 := by
      by_cases h : p.e = 0
      · exact h
      · exact absurd ((hp h).symm.trans e1) none_t
    have qe : q.e = 0 := by
      by_cases h : q.e = 0
      · exact h
      · exact absurd ((hq h).symm.trans e2) none_t
    rw [if_neg (by simp [errL, pe, qe])]
    show condV (callV 12 [p.v, q.v]).1 = _
    rw [e1, e2]
    decide
  all_goals
    split
    · exact condV_none
    · show condV (callV 12 [p.v, q.v]).1 = _
      have : (callV 12 [p.v, q.v]).1 = noneV := by
        unfold callV
        split
        · rename_i hh
          show (bothV 12 p.v q.v).1 = _
          unfold bothV
          rw [if_neg ?_]
          rintro ⟨k1, k2⟩
          have r1 := truth_of (allR_iff.1 hh.1 p.v (by simp)) k1
          have r2 := truth_of (allR_iff.1 hh.1 q.v (by simp)) k2
          rcases r1 with r1 | r1 <;> rcases r2 with r2 | r2 <;> first | contradiction | (exact absurd (r1.symm.trans e1) truth_ne) | skip
        · rfl
      rw [this]
      exact condV_none
theorem made_or {ask : List Giv} {p q : Prt} (hp : FineP p) (hq : FineP q) : condV (madeP ask (opN 13) [p, q]).v = max (condV p.v) (condV q.v) := by
  have hd : decB 13 [p, q] = (decide (p.v = truthV true) || decide (q.v = truthV true)) := by simp [decB]
  have hm : madeP ask (opN 13) [p, q] = if decB 13 [p, q] = true then ⟨[], truthV true, 0⟩ else if errL [p, q] ≠ 0 then ⟨[], noneV, errL [p, q]⟩ else ⟨[], (reckP 13 [p, q]).1, (reckP 13 [p, q]).2⟩ := rfl
  rw [hm, hd]
  rcases condV_cases p.v with ⟨e1, c1⟩ | ⟨e1, c1⟩ | ⟨⟨e1, f1⟩, c1⟩ <;> rcases condV_cases q.v with ⟨e2, c2⟩ | ⟨e2, c2⟩ | ⟨⟨e2, f2⟩, c2⟩
  case inl.inl | inl.inr.inl | inl.inr.inr | inr.inl.inl | inr.inr.inl =>
    rw [if_pos (by simp [e1, e2]), c1, c2]
    exact condV_t
  all_goals
    rw [if_neg (by simp [*, truth_ne.symm])]
    rw [c1, c2]
  · have pe : p.e = 0 := by
      by_cases h : p.e = 0
      · exact h
      · exact absurd ((hp h).symm.trans e1) none_f
    have qe : q.e = 0 := by
      by_cases h : q.e = 0
      · exact h
      · exact absurd ((hq h).symm.trans e2) none_f
    rw [if_neg (by simp [errL, pe, qe])]
    show condV (callV 13 [p.v, q.v]).1 = _
    rw [e1, e2]
    decide
  all_goals
    split
    · exact condV_none
    · show condV (callV 13 [p.v, q.v]).1 = _
      have : (callV 13 [p.v, q.v]).1 = noneV := by
        unfold callV
        split
        · rename_i hh
          show (bothV 13 p.v q.v).1 = _
          unfold bothV
          rw [if_neg ?_]
          rintro ⟨k1, k2⟩
          have r1 := truth_of (allR_iff.1 hh.1 p.v (by simp)) k1
          have r2 := truth_of (allR_iff.1 hh.1 q.v (by simp)) k2
          rcases r1 with r1 | r1 <;> rcases r2 with r2 | r2 <;> first | contradiction | skip
        · rfl
      rw [this]
      exact condV_none
theorem made_not {ask : List Giv} {p : Prt} (hp : FineP p) : condV (madeP ask (opN 11) [p]).v = 2 - condV p.v := by
  have hm : madeP ask (opN 11) [p] = if errL [p] ≠ 0 then ⟨[], noneV, errL [p]⟩ else ⟨[], (reckP 11 [p]).1, (reckP 11 [p]).2⟩ := rfl
  rw [hm]
  rcases condV_cases p.v with ⟨e1, c1⟩ | ⟨e1, c1⟩ | ⟨⟨e1, f1⟩, c1⟩ <;> rw [c1]
  · have pe : p.e = 0 := by
      by_cases h : p.e = 0
      · exact h
      · exact absurd ((hp h).symm.trans e1) none_t
    rw [if_neg (by simp [errL, pe])]
    show condV (callV 11 [p.v]).1 = _
    rw [e1]
    decide
  · have pe : p.e = 0 := by
      by_cases h : p.e = 0
      · exact h
      · exact absurd ((hp h).symm.trans e1) none_f
    rw [if_neg (by simp [errL, pe])]
    show condV (callV 11 [p.v]).1 = _
    rw [e1]
    decide
  · split
    · exact condV_none
    · show condV (callV 11 [p.v]).1 = _
      have : (callV 11 [p.v]).1 = noneV := by
        unfold callV
        split
        · rename_i hh
          show (notV p.v).1 = _
          unfold notV
          rw [if_neg ?_]
          intro k1
          rcases truth_of (allR_iff.1 hh.1 p.v (by simp)) k1 with r1 | r1 <;> contradiction
        · rfl
      rw [this]
      exact condV_none
/-- and, or, not of two right expressions. -/
theorem cond_and {ask : List Giv} {a b : List Nod} (ha : exprE a = 0) (hb : exprE b = 0) (na : a ≠ []) (nb : b ≠ []) (hl : a.length + b.length + 1 ≤ 32) : condP ask (a ++ b ++ [opN 12]) = min (condP ask a) (condP ask b) := by
  obtain ⟨p, p1, p2, p3⟩ := run_fine (ask := ask) ha na
  obtain ⟨q, q1, q2, q3⟩ := run_fine (ask := ask) hb nb
  rw [condP_val (by simp), condP_val na, condP_val nb, p2, q2, val_of (expr_bin ha hb na nb (by decide) (by decide) hl) (by simp) (val_bin p1 q1 rfl)]
  exact made_and p3 q3
theorem cond_or {ask : List Giv} {a b : List Nod} (ha : exprE a = 0) (hb : exprE b = 0) (na : a ≠ []) (nb : b ≠ []) (hl : a.length + b.length + 1 ≤ 32) : condP ask (a ++ b ++ [opN 13]) = max (condP ask a) (condP ask b) := by
  obtain ⟨p, p1, p2, p3⟩ := run_fine (ask := ask) ha na
  obtain ⟨q, q1, q2, q3⟩ := run_fine (ask := ask) hb nb
  rw [condP_val (by simp), condP_val na, condP_val nb, p2, q2, val_of (expr_bin ha hb na nb (by decide) (by decide) hl) (by simp) (val_bin p1 q1 rfl)]
  exact made_or p3 q3
theorem cond_not {ask : List Giv} {a : List Nod} (ha : exprE a = 0) (na : a ≠ []) (hl : a.length + 1 ≤ 32) : condP ask (a ++ [opN 11]) = 2 - condP ask a := by
  obtain ⟨p, p1, p2, p3⟩ := run_fine (ask := ask) ha na
  rw [condP_val (by simp), condP_val na, p2, val_of (expr_un ha na (by decide) (by decide) hl) (by simp) (val_un p1 rfl)]
  exact made_not p3
/-- What isn't asked for doesn't matter. -/
theorem run_same {ask ask' : List Giv} : ∀ {l : List Nod} {st : List Prt}, (∀ n ∈ l, n.op = 2 → getR ask n.a = getR ask' n.a ∧ getE ask n.a = getE ask' n.a) → runP ask l st = runP ask' l st
  | [], _, _ => rfl
  | n :: l, st, h => by
    have e : stepP ask st n = stepP ask' st n := by
      unfold stepP madeP
      by_cases h2 : n.op = 2
      · obtain ⟨a, b⟩ := h n (by simp) h2
        rw [a, b]
      · simp only [h2, if_false]
    rw [runP_cons, runP_cons, e]
    exact run_same fun m hm => h m (by simp [hm])
theorem val_same {ask ask' : List Giv} {l : List Nod} (h : ∀ n ∈ l, n.op = 2 → getR ask n.a = getR ask' n.a ∧ getE ask n.a = getE ask' n.a) : valP ask l = valP ask' l := by
  unfold valP
  rw [run_same h]
end Go.Proofs.YtmoglaknmlhpgaaGreat
/- decided: does one of both decide? -/
namespace Go.Proofs.YtmoglaknmlhpgaaGreat
set_option linter.unusedVariables false
open Go.RowKit

theorem ret_vb {k n : Int} {s : ByteArray} {b b' : Bool} (h : b = b') : Ending.returned (.tuple #[.agg #[.int .i64 k, .int .i64 n, .string s], .bool b]) = .returned (.tuple #[.agg #[.int .i64 k, .int .i64 n, .string s], .bool b']) := by rw [h]
set_option maxHeartbeats 1600000 in
theorem edecided_no {op : Int} (h1 : op ≠ 12) (h2 : op ≠ 13) (A : Option Addr) (n c : Nat) (w : World) :
    Calls Tryz.prog 107 #[.int .i64 op, .slice A n c] w fun e w' => e = .returned (.tuple #[.agg #[.int .i64 0, .int .i64 0, .string ⟨#[]⟩], .bool false]) ∧ Below w.heap.size w w' := by
  have b1 : (op != 12) = true := by rw [bne_iff_ne]; exact h1
  have b2 : (op != 13) = true := by rw [bne_iff_ne]; exact h2
  clear h1 h2
  go_enter Tryz.func107, Tryz.ntmps107
  go_wp2_with fail
  try simp only [Exit.inBlock, Exit.then]
  refine bodyPost_ret (box_ret2 rfl rfl rfl (Bx.made _ _ _ _)) rfl ?_
  exact ⟨rfl, below1 _ _⟩
/-- The value that decides. -/
def decV (op : Int) : Vl := truthV (decide (op = 13))
set_option maxRecDepth 100000 in
set_option maxHeartbeats 3200000 in
theorem edecided_two {op : Int} (hop : op = 12 ∨ op = 13) {w : World} {R : Nat → Prop} {A : Option Addr} {c : Nat} {p q : Prt} (h : Prts w R A 2 c [p, q]) :
    Calls Tryz.prog 107 #[.int .i64 op, .slice A 2 c] w fun e w' => e = .returned (.tuple #[.agg #[.int .i64 (if decB op [p, q] = true then 1 else 0), .int .i64 (if decB op [p, q] = true then truthN (decide (op = 13)) else 0), .string ⟨#[]⟩], .bool (decB op [p, q])]) ∧ Below w.heap.size w w' := by
  have hle := Rw.le h
  have hcap := Rw.cap h
  unfold maxLen at hcap
  have HD : Hid (decB op [p, q] = (decide (p.v = decV op) || decide (q.v = decV op))) := by show _ = _; rcases hop with rfl | rfl <;> simp [decB, decV]
  have HT := Lib.hid (etruth_any (decide (op = 13)))
  obtain ⟨b, o, p0, A0, n0, c0, rfl, hRb, hbl, hx, hok, ⟨x0, x1, x2, x3, x4⟩, hin⟩ := h.at_ (j := 0) (by omega)
  obtain ⟨b', o', p1, A1, n1, c1, hA, _, _, hy, hok1, ⟨y0, y1, y2, y3, y4⟩, hin1⟩ := h.at_ (j := 1) (by omega)
  injection hA with hA
  injection hA with hA1 hA2
  subst hA1 hA2
  simp at hx hy
  subst hx hy
  simp only [Nat.zero_mul, Nat.add_zero] at x1 x2 x3
  simp only [Nat.one_mul] at y1 y2 y3
  have KX := Lib.hid (fun W (hW : Below w.heap.size w W) => (⟨(World.cell?_of_block (hW.block b hbl)).trans x1, (World.cell?_of_block (hW.block b hbl)).trans x2, (World.cell?_of_block (hW.block b hbl)).trans x3⟩ : _ ∧ _ ∧ _))
  have KY := Lib.hid (fun W (hW : Below w.heap.size w W) => (⟨(World.cell?_of_block (hW.block b hbl)).trans y1, (World.cell?_of_block (hW.block b hbl)).trans y2, (World.cell?_of_block (hW.block b hbl)).trans y3⟩ : _ ∧ _ ∧ _))
  have two : ∀ (tb : Bool) (tn : Int), (Hid (∀ W : World, Calls Tryz.prog 48 #[.bool tb] W fun e w' => e = .returned (.agg #[.int .i64 1, .int .i64 tn, .string ⟨#[]⟩]) ∧ Below W.heap.size W w')) → decV op = ⟨1, tn, ⟨#[]⟩⟩ → truthN (decide (op = 13)) = tn → ((op == 13) = tb) →
      Calls Tryz.prog 107 #[.int .i64 op, .slice (some ⟨b, o, none⟩) 2 c] w fun e w' => e = .returned (.tuple #[.agg #[.int .i64 (if decB op [p, q] = true then 1 else 0), .int .i64 (if decB op [p, q] = true then truthN (decide (op = 13)) else 0), .string ⟨#[]⟩], .bool (decB op [p, q])]) ∧ Below w.heap.size w w' := by
    intro tb tn HTB hdv htn htb
    rw [hdv] at HD
    rw [htn]
    have hopb : (op != 12 && op != 13) = false := by rcases hop with rfl | rfl <;> rfl
    obtain ⟨pb, ⟨pk, pn, ps⟩, pe⟩ := p
    obtain ⟨qb, ⟨qk, qn, qs⟩, qe⟩ := q
    simp only at KX KY HD
    have e1 := fun W => val_eq pk pn 1 tn ps ⟨#[]⟩ W
    have e2 := fun W => val_eq qk qn 1 tn qs ⟨#[]⟩ W
    generalize decB op _ = dd at *
    have HD' : Hid (dd = (veq ⟨pk, pn, ps⟩ ⟨1, tn, ⟨#[]⟩⟩ || veq ⟨qk, qn, qs⟩ ⟨1, tn, ⟨#[]⟩⟩)) := HD
    generalize veq ⟨pk, pn, ps⟩ ⟨1, tn, ⟨#[]⟩⟩ = v1 at *
    generalize veq ⟨qk, qn, qs⟩ ⟨1, tn, ⟨#[]⟩⟩ = v2 at *
    clear HD hin hin1 x0 x4 y0 y4 x1 x2 x3 y1 y2 y3 h hok hok1 hRb hdv htn HT hop
    obtain ⟨rk, rn, hrk, hrn⟩ : ∃ rk rn, (if dd = true then (1 : Int) else 0) = rk ∧ (if dd = true then tn else 0) = rn := ⟨_, _, rfl, rfl⟩
    rw [hrk, hrn]
    have HRK := Lib.hid hrk
    have HRN := Lib.hid hrn
    clear hrk hrn
    have fin : ∀ v1b v2b : Bool, v1 = v1b → v2 = v2b → Calls Tryz.prog 107 #[.int .i64 op, .slice (some ⟨b, o, none⟩) 2 c] w fun e w' => e = .returned (.tuple #[.agg #[.int .i64 rk, .int .i64 rn, .string ⟨#[]⟩], .bool dd]) ∧ Below w.heap.size w w' := by
      intro v1b v2b ev1 ev2
      subst ev1 ev2
      by_cases h12 : (op != 12) = true
      · have h13 : (op != 13) = false := by rw [h12] at hopb; simpa using hopb
        go_enter Tryz.func107, Tryz.ntmps107
        go_wp2_with (go_at_call 48; refine (HTB.out _).mono ?_; rintro e w1 ⟨rfl, hb1⟩; have B1 := Lib.hid hb1; have R1 := Lib.hid ((Bx.made w 0 0 ⟨#[]⟩).then_ hb1); clear hb1)
        have D2 : Below w.heap.size w (w1.alloc (.cells #[.int .i64 1, .int .i64 tn, .string ⟨#[]⟩] 40)) := (Below.lit B1.out).alloc (Below.lit B1.out).size _
        have KXW := KX.out _ D2
        have KYW := KY.out _ D2
        have z := (Bx.made w1 1 tn ⟨#[]⟩).c3
        have R2 := Lib.hid (R1.out.alloc (.cells #[.int .i64 1, .int .i64 tn, .string ⟨#[]⟩] 40))
        have D2' := Lib.hid D2
        have Z := Lib.hid (Bx.made w1 1 tn ⟨#[]⟩)
        clear D2 R1 KX KY
        generalize hW2 : w1.alloc (.cells #[.int .i64 1, .int .i64 tn, .string ⟨#[]⟩] 40) = W2 at *
        cases v1
        · simp only [Bool.false_or] at HD'
          have hdd := HD'.out
          subst hdd
          cases dd
          · go_quiet (fail)
            have f2 := (R2.out.drewN nq).fz
            have k2 := (R2.out.drewN nq).c3
            go_wp2_with fail
            try simp only [Exit.inBlock, Exit.then]
            refine bodyPost_ret (box_ret2 rfl rfl rfl ((R2.out.drewN nq).put _ _ _)) rfl ?_
            refine ⟨?_, below_put (below_drewN D2'.out nq) (Nat.le_refl _) _ _ _⟩
            rw [← HRK.out, ← HRN.out]
            rfl
          · go_quiet (fail)
            have f2 := (R2.out.drewN nq).fz
            have k2 := (R2.out.drewN nq).c3
            have z2 := (Z.out.drewN nq).c3
            go_wp2_with fail
            try simp only [Exit.inBlock, Exit.then]
            refine bodyPost_ret (box_ret2 rfl rfl rfl ((R2.out.drewN nq).put _ _ _)) rfl ?_
            refine ⟨?_, below_put (below_drewN D2'.out nq) (Nat.le_refl _) _ _ _⟩
            rw [← HRK.out, ← HRN.out]
            rfl
        · simp only [Bool.true_or] at HD'
          have hdd := HD'.out
          subst hdd
          go_quiet (fail)
          have f2 := (R2.out.drewN nq).fz
          have k2 := (R2.out.drewN nq).c3
          have z2 := (Z.out.drewN nq).c3
          go_wp2_with fail
          try simp only [Exit.inBlock, Exit.then]
          refine bodyPost_ret (box_ret2 rfl rfl rfl ((R2.out.drewN nq).put _ _ _)) rfl ?_
          refine ⟨?_, below_put (below_drewN D2'.out nq) (Nat.le_refl _) _ _ _⟩
          rw [← HRK.out, ← HRN.out]
          rfl
      · have h12 : (op != 12) = false := by simpa using h12
        go_enter Tryz.func107, Tryz.ntmps107
        go_wp2_with (go_at_call 48; refine (HTB.out _).mono ?_; rintro e w1 ⟨rfl, hb1⟩; have B1 := Lib.hid hb1; have R1 := Lib.hid ((Bx.made w 0 0 ⟨#[]⟩).then_ hb1); clear hb1)
        have D2 : Below w.heap.size w (w1.alloc (.cells #[.int .i64 1, .int .i64 tn, .string ⟨#[]⟩] 40)) := (Below.lit B1.out).alloc (Below.lit B1.out).size _
        have KXW := KX.out _ D2
        have KYW := KY.out _ D2
        have z := (Bx.made w1 1 tn ⟨#[]⟩).c3
        have R2 := Lib.hid (R1.out.alloc (.cells #[.int .i64 1, .int .i64 tn, .string ⟨#[]⟩] 40))
        have D2' := Lib.hid D2
        have Z := Lib.hid (Bx.made w1 1 tn ⟨#[]⟩)
        clear D2 R1 KX KY
        generalize hW2 : w1.alloc (.cells #[.int .i64 1, .int .i64 tn, .string ⟨#[]⟩] 40) = W2 at *
        cases v1
        · simp only [Bool.false_or] at HD'
          have hdd := HD'.out
          subst hdd
          cases dd
          · go_quiet (fail)
            have f2 := (R2.out.drewN nq).fz
            have k2 := (R2.out.drewN nq).c3
            go_wp2_with fail
            try simp only [Exit.inBlock, Exit.then]
            refine bodyPost_ret (box_ret2 rfl rfl rfl ((R2.out.drewN nq).put _ _ _)) rfl ?_
            refine ⟨?_, below_put (below_drewN D2'.out nq) (Nat.le_refl _) _ _ _⟩
            rw [← HRK.out, ← HRN.out]
            rfl
          · go_quiet (fail)
            have f2 := (R2.out.drewN nq).fz
            have k2 := (R2.out.drewN nq).c3
            have z2 := (Z.out.drewN nq).c3
            go_wp2_with fail
            try simp only [Exit.inBlock, Exit.then]
            refine bodyPost_ret (box_ret2 rfl rfl rfl ((R2.out.drewN nq).put _ _ _)) rfl ?_
            refine ⟨?_, below_put (below_drewN D2'.out nq) (Nat.le_refl _) _ _ _⟩
            rw [← HRK.out, ← HRN.out]
            rfl
        · simp only [Bool.true_or] at HD'
          have hdd := HD'.out
          subst hdd
          go_quiet (fail)
          have f2 := (R2.out.drewN nq).fz
          have k2 := (R2.out.drewN nq).c3
          have z2 := (Z.out.drewN nq).c3
          go_wp2_with fail
          try simp only [Exit.inBlock, Exit.then]
          refine bodyPost_ret (box_ret2 rfl rfl rfl ((R2.out.drewN nq).put _ _ _)) rfl ?_
          refine ⟨?_, below_put (below_drewN D2'.out nq) (Nat.le_refl _) _ _ _⟩
          rw [← HRK.out, ← HRN.out]
          rfl
    exact fin v1 v2 rfl rfl
  rcases hop with rfl | rfl
  · exact two false 0 HT rfl rfl rfl
  · exact two true 1 HT rfl rfl rfl
end Go.Proofs.YtmoglaknmlhpgaaGreat
/- Package fun: judge. -/
namespace Go.Proofs.YtmoglaknmlhpgaaGreat
set_option linter.unusedVariables false
open Go.RowKit

theorem eq_dec {a b : Int} : (a == b) = decide (a = b) := by rw [Bool.eq_iff_iff]; simp
set_option maxHeartbeats 3200000 in
theorem judge_any {w : World} {B n c : Nat} {A : Option Addr} {l : List Vl} (h : Vs w B A n c l) (hB : B ≤ w.heap.size) (hn : n ≤ 1000000) (hR : ∀ v ∈ l, v.right) (op : Int) :
    Calls Tryz.prog 151 #[.int .i64 op, .slice A n c] w fun e w' => e = .returned (.tuple #[(judgeL op l).1.val, .int .i64 (judgeL op l).2]) ∧ Below w.heap.size w w' := by
  have hlen := h.1
  have hcap := h.2.2.1
  have hle := h.2.1
  unfold maxLen at hcap
  have HV := Lib.hid h
  have HL := Lib.hid hlen
  have HR := Lib.hid hR
  clear h hlen hR
  go_enter Tryz.func151, Tryz.ntmps151
  go_wp2_with fail
  go_loopw [6, 11] (fun o i wr => ∃ (k : Nat) (m : Int), k ≤ n ∧ i = .int .i64 k ∧ o = .int .i64 m ∧ KindTo l k m ∧ Bx wr w.heap.size 0 0 ⟨#[]⟩ ∧ Below w.heap.size w wr) (fun _ i _ => n - (intOf i).toNat)
  case atStart => exact ⟨0, 0, Nat.zero_le _, rfl, rfl, ⟨rfl, rfl, Int.le_refl _, Int.le_refl _⟩, Bx.made _ _ _ _, below1 _ _⟩
  case round =>
    obtain ⟨k, m, hk, rfl, rfl, ht, hbx, hb⟩ := hrel
    have HT := Lib.hid ht
    have HB := Lib.hid hb
    have HX := Lib.hid hbx
    have m0 := ht.2.2.1
    have m1 := ht.2.2.2
    by_cases hlt : k < n
    · obtain ⟨b, o, x, rfl, hbB, hx, hok, x0, x1, x2⟩ := (HV.out.below (hb.mono hB)).at_ hlt
      obtain ⟨kx, nx, sx⟩ := x
      have HI := Lib.hid hx
      have D1 := Lib.hid (hb.alloc hb.size (.cells #[.int .i64 kx, .int .i64 nx, .string sx] 40))
      have R1 := Lib.hid (hbx.alloc (.cells #[.int .i64 kx, .int .i64 nx, .string sx] 40))
      have hr := HR.out _ (List.mem_of_getElem? hx)
      have HRX := Lib.hid hr
      have c0 := R1.out.c3
      have f0 := R1.out.fz
      by_cases h1 : kx = 1
      · subst h1
        have hn := truth_n hr rfl
        have hw : IntKind.i64.wrap (m + nx) = m + nx := IntWalk.i64_in _ (by have : nx = 0 ∨ nx = 1 := hn; omega)
        clear ht hb hx hok hbx hr hn
        go_wp2_with fail
        go_roundw
        case rel => exact ⟨k + 1, m + nx, by omega, by go_num, rfl, HT.out.step HI.out HRX.out rfl, R1.out, D1.out⟩
        case measure => simp [intOf]; omega
      · have hne : (kx != 1) = true := by rw [bne_iff_ne]; exact h1
        have H1 := Lib.hid h1
        clear ht hb hx hok hbx hr h1
        go_wp2_with fail
        try simp only [Exit.inBlock, Exit.then]
        refine bodyPost_ret (box_ret2 rfl rfl rfl (R1.out.put _ _ _)) rfl ?_
        exact ⟨ret_v (judge_bad (kinds_bad HI.out H1.out)), below_put D1.out (Nat.le_refl _) _ _ _⟩
    · obtain rfl : k = n := by omega
      have hj := judge_ok (op := op) HT.out HL.out
      clear ht hb hbx
      by_cases h11 : op = 11
      · subst h11
        rw [if_pos rfl] at hj
        have HJ := Lib.hid hj
        clear hj
        have c0 := HX.out.c3
        go_wp2_with fail
        refine (ftruth_any _ _).mono ?_
        rintro e w1 ⟨rfl, hb1⟩
        have R1 := Lib.hid (HX.out.then_ hb1)
        have D1 := Lib.hid (below_step HB.out hb1)
        have c := R1.out.c3
        have f := R1.out.fz
        clear hb1 c0
        go_wp2_with fail
        try simp only [Exit.inBlock, Exit.then]
        refine bodyPost_ret (box_ret2 rfl rfl rfl (R1.out.put _ _ _)) rfl ?_
        exact ⟨ret_v (HJ.out.trans (by first | rfl | rw [eq_dec] | rfl)), below_put D1.out (Nat.le_refl _) _ _ _⟩
      · have h11' : (op == 11) = false := by rw [beq_eq_false_iff_ne]; exact h11
        rw [if_neg h11] at hj
        by_cases h12 : op = 12
        · subst h12
          rw [if_pos rfl] at hj
          have HJ := Lib.hid hj
          clear hj h11
          have c0 := HX.out.c3
          go_wp2_with fail
          refine (ftruth_any _ _).mono ?_
          rintro e w1 ⟨rfl, hb1⟩
          have R1 := Lib.hid (HX.out.then_ hb1)
          have D1 := Lib.hid (below_step HB.out hb1)
          have c := R1.out.c3
          have f := R1.out.fz
          clear hb1 c0
          go_wp2_with fail
          try simp only [Exit.inBlock, Exit.then]
          refine bodyPost_ret (box_ret2 rfl rfl rfl (R1.out.put _ _ _)) rfl ?_
          exact ⟨ret_v (HJ.out.trans (by first | rfl | rw [eq_dec] | rfl)), below_put D1.out (Nat.le_refl _) _ _ _⟩
        · have h12' : (op == 12) = false := by rw [beq_eq_false_iff_ne]; exact h12
          rw [if_neg h12] at hj
          have HJ := Lib.hid hj
          clear hj h11 h12
          have c0 := HX.out.c3
          go_wp2_with fail
          refine (ftruth_any _ _).mono ?_
          rintro e w1 ⟨rfl, hb1⟩
          have R1 := Lib.hid (HX.out.then_ hb1)
          have D1 := Lib.hid (below_step HB.out hb1)
          have c := R1.out.c3
          have f := R1.out.fz
          clear hb1 c0
          go_wp2_with fail
          try simp only [Exit.inBlock, Exit.then]
          refine bodyPost_ret (box_ret2 rfl rfl rfl (R1.out.put _ _ _)) rfl ?_
          exact ⟨ret_v (HJ.out.trans (by first | rfl | rw [eq_dec] | rfl)), below_put D1.out (Nat.le_refl _) _ _ _⟩
end Go.Proofs.YtmoglaknmlhpgaaGreat
/- Package fun: number, reckon, Call. -/
namespace Go.Proofs.YtmoglaknmlhpgaaGreat
set_option linter.unusedVariables false
open Go.RowKit Go.Sort

theorem num_is {f a b x e : Int} {w : World} {id : FuncId} {p : Int × Int} (hp : p = (x, e)) (h : Calls Tryz.prog id #[.int .i64 a, .int .i64 b] w fun z w' => z = .returned (.tuple #[.int .i64 p.1, .int .i64 p.2]) ∧ w = w') :
    Calls Tryz.prog id #[.int .i64 a, .int .i64 b] w fun z w' => z = .returned (.tuple #[.int .i64 x, .int .i64 e]) ∧ w = w' := by rwa [hp] at h
theorem pair_is {id : FuncId} {args : Array Value} {w : World} {P : Vl × Int} {k n e : Int} {s : ByteArray} (hp : P = (⟨k, n, s⟩, e)) (h : Calls Tryz.prog id args w fun z w' => z = .returned (.tuple #[P.1.val, .int .i64 P.2]) ∧ Below w.heap.size w w') :
    Calls Tryz.prog id args w fun z w' => z = .returned (.tuple #[.agg #[.int .i64 k, .int .i64 n, .string s], .int .i64 e]) ∧ Below w.heap.size w w' := by
  rw [hp] at h
  exact h
theorem pair_of (P : Vl × Int) : ∃ k n s e, P = (⟨k, n, s⟩, e) := ⟨_, _, _, _, rfl⟩
theorem fnumber_any (op a b x e : Int) (ho : op = 8 ∨ op = 9 ∨ op = 10) (ha : In64 a) (hb : In64 b) (hx : fits (opF op a b) = (x, e)) (w : World) :
    Calls Tryz.prog 160 #[.int .i64 op, .int .i64 a, .int .i64 b] w fun z w' => z = .returned (.tuple #[.int .i64 x, .int .i64 e]) ∧ w = w' := by
  rcases ho with rfl | rfl | rfl
  · have C := Lib.hid (fun w => num_is (f := 0) hx (add_any a b ha hb w))
    clear ha hb hx
    go_enter Tryz.func160, Tryz.ntmps160
    go_wp2_with fail
    refine (C.out _).mono ?_
    rintro z w' ⟨rfl, rfl⟩
    go_wp2_with fail
    go_ret2
    exact ⟨rfl, rfl⟩
  · have C := Lib.hid (fun w => num_is (f := 0) hx (sub_any a b ha hb w))
    clear ha hb hx
    go_enter Tryz.func160, Tryz.ntmps160
    go_wp2_with fail
    refine (C.out _).mono ?_
    rintro z w' ⟨rfl, rfl⟩
    go_wp2_with fail
    go_ret2
    exact ⟨rfl, rfl⟩
  · have C := Lib.hid (fun w => num_is (f := 0) hx (mul_any a b ha hb w))
    clear ha hb hx
    go_enter Tryz.func160, Tryz.ntmps160
    go_wp2_with fail
    refine (C.out _).mono ?_
    rintro z w' ⟨rfl, rfl⟩
    go_wp2_with fail
    go_ret2
    exact ⟨rfl, rfl⟩

set_option maxHeartbeats 1600000 in
theorem reckon_any (op : Int) (a b : Vl) (ho : op = 8 ∨ op = 9 ∨ op = 10) (ha : In64 a.n) (hb : In64 b.n) (w : World) :
    Calls Tryz.prog 150 #[.int .i64 op, a.val, b.val] w fun z w' => z = .returned (.tuple #[(reckV op a b).1.val, .int .i64 (reckV op a b).2]) ∧ Below w.heap.size w w' := by
  obtain ⟨x, e, hx⟩ : ∃ x e, fits (opF op a.n b.n) = (x, e) := ⟨_, _, rfl⟩
  have C := Lib.hid (fnumber_any op a.n b.n x e ho ha hb hx)
  have HR : Hid (a.k = 2 → b.k = 2 → reckV op a b = if e = 0 then (numV x, 0) else (noneV, e)) := fun h1 h2 => by
    unfold reckV; rw [if_pos ⟨h1, h2⟩, hx]; rfl
  have HN : Hid (¬ (a.k = 2 ∧ b.k = 2) → reckV op a b = (noneV, 2)) := fun h => if_neg h
  clear ha hb hx ho
  generalize reckV op a b = R at *
  obtain ⟨k, n, s⟩ := a
  obtain ⟨k', n', s'⟩ := b
  show Calls _ _ #[_, .agg #[.int .i64 k, .int .i64 n, .string s], .agg #[.int .i64 k', .int .i64 n', .string s']] w _
  by_cases h1 : k = 2
  · by_cases h2 : k' = 2
    · subst h1 h2
      have hr := HR.out rfl rfl
      by_cases he : e = 0
      · subst he
        rw [if_pos rfl] at hr
        have HQ := Lib.hid hr
        clear hr HR HN
        go_enter Tryz.func150, Tryz.ntmps150
        go_wp2_with fail
        refine (C.out _).mono ?_
        rintro z w' ⟨rfl, rfl⟩
        go_wp2_with fail
        try simp only [Exit.inBlock, Exit.then]
        refine bodyPost_ret (box_ret2 rfl rfl rfl (box3 _ _ _ _ _ _)) rfl ?_
        exact ⟨ret_v HQ.out, below3 (Below.refl _ _)⟩
      · have he' : (e != 0) = true := by rw [bne_iff_ne]; exact he
        rw [if_neg he] at hr
        have HQ := Lib.hid hr
        clear hr HR HN he
        go_enter Tryz.func150, Tryz.ntmps150
        go_wp2_with fail
        refine (C.out _).mono ?_
        rintro z w' ⟨rfl, rfl⟩
        go_wp2_with fail
        try simp only [Exit.inBlock, Exit.then]
        refine bodyPost_ret (box_ret2 rfl rfl rfl (box3 _ _ _ _ _ _)) rfl ?_
        exact ⟨ret_v HQ.out, below3 (Below.refl _ _)⟩
    · have hk : (k' != 2) = true := by rw [bne_iff_ne]; exact h2
      subst h1
      have HQ := Lib.hid (HN.out fun h => h2 h.2)
      clear HR HN h2
      go_enter Tryz.func150, Tryz.ntmps150
      go_wp2_with fail
      try simp only [Exit.inBlock, Exit.then]
      refine bodyPost_ret (box_ret2 rfl rfl rfl (box3 _ _ _ _ _ _)) rfl ?_
      exact ⟨ret_v HQ.out, below3 (Below.refl _ _)⟩
  · have hk : (k != 2) = true := by rw [bne_iff_ne]; exact h1
    have HQ := Lib.hid (HN.out fun h => h1 h.1)
    clear HR HN h1
    go_enter Tryz.func150, Tryz.ntmps150
    go_wp2_with fail
    try simp only [Exit.inBlock, Exit.then]
    refine bodyPost_ret (box_ret2 rfl rfl rfl (box3 _ _ _ _ _ _)) rfl ?_
    exact ⟨ret_v HQ.out, below3 (Below.refl _ _)⟩

theorem known_is {op : Int} {b : Bool} (h : decide (6 ≤ op ∧ op ≤ 13) = b) (w : World) : Calls Tryz.prog 146 #[.int .i64 op] w fun e w' => e = .returned (.bool b) ∧ w = w' := by
  have := known_any op w
  rwa [h] at this
theorem takes_is {op : Int} {m : Int} (h : (needs op : Int) = m) (w : World) : Calls Tryz.prog 147 #[.int .i64 op] w fun e w' => e = .returned (.int .i64 m) ∧ w = w' := by
  have := ftakes_any op w
  rwa [h] at this
theorem allright_is {w : World} {B n c : Nat} {A : Option Addr} {l : List Vl} {b : Bool} (hb : allR l = b) (h : Vs w B A n c l) (hB : B ≤ w.heap.size) :
    Calls Tryz.prog 145 #[.slice A n c] w fun e w' => e = .returned (.bool b) ∧ Below w.heap.size w w' := by
  have := allright_any h hB
  rwa [hb] at this
/-- The list behind a block that is new. -/
theorem Vs.new {w : World} {B n c : Nat} {A : Option Addr} {l : List Vl} (h : Vs w B A n c l) (hB : B ≤ w.heap.size) (x : Obj) : Vs (w.alloc x) B A n c l := h.keep fun k hk => Below.heap_alloc w x k (by omega)

set_option maxHeartbeats 3200000 in
set_option maxRecDepth 100000 in
theorem call_bad1 {w : World} {B n c : Nat} {A : Option Addr} {l : List Vl} (h : Vs w B A n c l) (hB : B ≤ w.heap.size) (hn : n ≤ 1000000) (op : Int) (ha : allR l = false) :
    Calls Tryz.prog 134 #[.int .i64 op, .slice A n c] w fun e w' => e = .returned (.tuple #[(callV op l).1.val, .int .i64 (callV op l).2]) ∧ Below w.heap.size w w' := by
  have hlen := h.1
  have hcap := h.2.2.1
  have hle := h.2.1
  unfold maxLen at hcap
  have HV := Lib.hid (h.new hB (.cells #[.int .i64 0, .int .i64 0, .string ⟨#[]⟩] 40))
  have HBS : Hid (B ≤ (w.alloc (.cells #[.int .i64 0, .int .i64 0, .string ⟨#[]⟩] 40)).heap.size) := by show _ ≤ _; rw [size_al]; omega
  have HL := Lib.hid hlen
  have HA := Lib.hid ha
  have HQ := Lib.hid (call_bad (op := op) ha)
  clear ha h hlen hB
  go_enter Tryz.func134, Tryz.ntmps134
  go_wp2_with fail
  refine (allright_is HA.out HV.out HBS.out).mono ?_
  rintro e w1 ⟨rfl, hb1⟩
  have R1 := Lib.hid ((Bx.made w 0 0 ⟨#[]⟩).then_ hb1)
  have D1 := Lib.hid (Below.lit hb1)
  have V1 := Lib.hid ((HV.out.more HBS.out).then_ hb1)
  have c0 := R1.out.c3
  have f0 := R1.out.fz
  clear hb1
  go_wp2_with fail
  try simp only [Exit.inBlock, Exit.then]
  refine bodyPost_ret (box_ret2 rfl rfl rfl (R1.out.put _ _ _)) rfl ?_
  exact ⟨ret_v HQ.out, below_put D1.out (Nat.le_refl _) _ _ _⟩

set_option maxHeartbeats 3200000 in
set_option maxRecDepth 100000 in
theorem call_bad2 {w : World} {B n c : Nat} {A : Option Addr} {l : List Vl} (h : Vs w B A n c l) (hB : B ≤ w.heap.size) (hn : n ≤ 1000000) (op : Int) (ha : allR l = true) (hk : ¬ (6 ≤ op ∧ op ≤ 13)) :
    Calls Tryz.prog 134 #[.int .i64 op, .slice A n c] w fun e w' => e = .returned (.tuple #[(callV op l).1.val, .int .i64 (callV op l).2]) ∧ Below w.heap.size w w' := by
  have hlen := h.1
  have hcap := h.2.2.1
  have hle := h.2.1
  unfold maxLen at hcap
  have HV := Lib.hid (h.new hB (.cells #[.int .i64 0, .int .i64 0, .string ⟨#[]⟩] 40))
  have HBS : Hid (B ≤ (w.alloc (.cells #[.int .i64 0, .int .i64 0, .string ⟨#[]⟩] 40)).heap.size) := by show _ ≤ _; rw [size_al]; omega
  have HL := Lib.hid hlen
  have HA := Lib.hid ha
  have HQ := Lib.hid (call_op (l := l) hk)
  have HK := Lib.hid (decide_eq_false hk)
  clear ha h hlen hB hk
  go_enter Tryz.func134, Tryz.ntmps134
  go_wp2_with fail
  refine (allright_is HA.out HV.out HBS.out).mono ?_
  rintro e w1 ⟨rfl, hb1⟩
  have R1 := Lib.hid ((Bx.made w 0 0 ⟨#[]⟩).then_ hb1)
  have D1 := Lib.hid (Below.lit hb1)
  have V1 := Lib.hid ((HV.out.more HBS.out).then_ hb1)
  have c0 := R1.out.c3
  have f0 := R1.out.fz
  clear hb1
  go_wp2_with fail
  refine (known_is HK.out _).mono ?_
  rintro e w' ⟨rfl, rfl⟩
  go_wp2_with fail
  try simp only [Exit.inBlock, Exit.then]
  refine bodyPost_ret (box_ret2 rfl rfl rfl (R1.out.put _ _ _)) rfl ?_
  exact ⟨ret_v HQ.out, below_put D1.out (Nat.le_refl _) _ _ _⟩

set_option maxHeartbeats 3200000 in
set_option maxRecDepth 100000 in
theorem call_bad3 {w : World} {B n c : Nat} {A : Option Addr} {l : List Vl} (h : Vs w B A n c l) (hB : B ≤ w.heap.size) (hn : n ≤ 1000000) (op : Int) (ha : allR l = true) (hk : 6 ≤ op ∧ op ≤ 13) (hl : l.length ≠ needs op) :
    Calls Tryz.prog 134 #[.int .i64 op, .slice A n c] w fun e w' => e = .returned (.tuple #[(callV op l).1.val, .int .i64 (callV op l).2]) ∧ Below w.heap.size w w' := by
  have hlen := h.1
  have hcap := h.2.2.1
  have hle := h.2.1
  unfold maxLen at hcap
  have HV := Lib.hid (h.new hB (.cells #[.int .i64 0, .int .i64 0, .string ⟨#[]⟩] 40))
  have HBS : Hid (B ≤ (w.alloc (.cells #[.int .i64 0, .int .i64 0, .string ⟨#[]⟩] 40)).heap.size) := by show _ ≤ _; rw [size_al]; omega
  have HL := Lib.hid hlen
  have HA := Lib.hid ha
  have HQ := Lib.hid (call_len hl)
  have HK := Lib.hid (decide_eq_true hk)
  obtain ⟨m, hm⟩ : ∃ m : Int, (needs op : Int) = m := ⟨_, rfl⟩
  have HT := Lib.hid hm
  have hne : ((n : Int) != m) = true := by rw [bne_iff_ne]; omega
  clear ha h hlen hB hk hl hm
  go_enter Tryz.func134, Tryz.ntmps134
  go_wp2_with fail
  refine (allright_is HA.out HV.out HBS.out).mono ?_
  rintro e w1 ⟨rfl, hb1⟩
  have R1 := Lib.hid ((Bx.made w 0 0 ⟨#[]⟩).then_ hb1)
  have D1 := Lib.hid (Below.lit hb1)
  have V1 := Lib.hid ((HV.out.more HBS.out).then_ hb1)
  have c0 := R1.out.c3
  have f0 := R1.out.fz
  clear hb1
  go_wp2_with fail
  refine (known_is HK.out _).mono ?_
  rintro e w' ⟨rfl, rfl⟩
  go_wp2_with fail
  refine (takes_is HT.out _).mono ?_
  rintro e w' ⟨rfl, rfl⟩
  go_wp2_with fail
  try simp only [Exit.inBlock, Exit.then]
  refine bodyPost_ret (box_ret2 rfl rfl rfl (R1.out.put _ _ _)) rfl ?_
  exact ⟨ret_v HQ.out, below_put D1.out (Nat.le_refl _) _ _ _⟩

theorem two_of {l : List Vl} (h : l.length = 2) : ∃ a b, l = [a, b] := by
  match l, h with
  | [a, b], _ => exact ⟨a, b, rfl⟩
theorem one_of {l : List Vl} (h : l.length = 1) : ∃ a, l = [a] := by
  match l, h with
  | [a], _ => exact ⟨a, rfl⟩

set_option maxHeartbeats 3200000 in
set_option maxRecDepth 100000 in
theorem call_6 {w : World} {B c : Nat} {A : Option Addr} {a b : Vl} (h : Vs w B A 2 c [a, b]) (hB : B ≤ w.heap.size) (ha : allR [a, b] = true) :
    Calls Tryz.prog 134 #[.int .i64 6, .slice A 2 c] w fun e w' => e = .returned (.tuple #[(callV 6 [a, b]).1.val, .int .i64 (callV 6 [a, b]).2]) ∧ Below w.heap.size w w' := by
  have hlen := h.1
  have hcap := h.2.2.1
  have hle := h.2.1
  unfold maxLen at hcap
  have HV := Lib.hid (h.new hB (.cells #[.int .i64 0, .int .i64 0, .string ⟨#[]⟩] 40))
  have HBS : Hid (B ≤ (w.alloc (.cells #[.int .i64 0, .int .i64 0, .string ⟨#[]⟩] 40)).heap.size) := by show _ ≤ _; rw [size_al]; omega
  have HL := Lib.hid hlen
  have HA := Lib.hid ha
  have hq : callV 6 [a, b] = sameV a b := (call_ok ha (by decide) rfl).trans rfl
  obtain ⟨rk, rn, rs, re, hp⟩ := pair_of (sameV a b)
  have HQ := Lib.hid (hq.trans hp)
  have HP := Lib.hid hp
  have OA := Lib.hid (h.2.2.2.2 a (by simp))
  have OB := Lib.hid (h.2.2.2.2 b (by simp))
  have RA := Lib.hid (allR_iff.1 ha a (by simp))
  have RB := Lib.hid (allR_iff.1 ha b (by simp))
  have HK : Hid (decide (6 ≤ (6 : Int) ∧ (6 : Int) ≤ 13) = true) := by show _ = _; decide
  have HT : Hid ((needs 6 : Int) = 2) := rfl
  clear ha h hlen hB hq hp
  generalize callV 6 [a, b] = RR at *
  go_enter Tryz.func134, Tryz.ntmps134
  go_wp2_with fail
  refine (allright_is HA.out HV.out HBS.out).mono ?_
  rintro e w1 ⟨rfl, hb1⟩
  have R1 := Lib.hid ((Bx.made w 0 0 ⟨#[]⟩).then_ hb1)
  have D1 := Lib.hid (Below.lit hb1)
  have V1 := Lib.hid ((HV.out.more HBS.out).then_ hb1)
  have c0 := R1.out.c3
  have f0 := R1.out.fz
  clear hb1
  go_wp2_with fail
  refine (known_is HK.out _).mono ?_
  rintro e w' ⟨rfl, rfl⟩
  go_wp2_with fail
  refine (takes_is HT.out _).mono ?_
  rintro e w' ⟨rfl, rfl⟩
  obtain ⟨b0, o0, x, hA, hbB, hx, hok, x0, x1, x2⟩ := V1.out.at_ (k := 0) (by omega)
  subst hA
  obtain ⟨b1, o1, y, hA', _, hy, _, y0, y1, y2⟩ := V1.out.at_ (k := 1) (by omega)
  injection hA' with hA'
  injection hA' with e1 e2
  subst e1 e2
  obtain rfl : a = x := Option.some.inj hx
  obtain rfl : b = y := Option.some.inj hy
  simp only [Nat.zero_mul, Nat.one_mul, Nat.add_zero] at x0 x1 x2 y0 y1 y2
  clear hx hy hok
  have QC := Lib.hid (fun d os => Calls.regrown_of (w := w1) (d := d) (os := os) (pair_is HP.out (same_any a b (grow (redrawn w1 d) os))))
  obtain ⟨k, n, s⟩ := a
  obtain ⟨k', n', s'⟩ := b
  go_wp2_with fail
  have z0 := fun d os => cell_regrown x0 d os
  have z1 := fun d os => cell_regrown x1 d os
  have z2 := fun d os => cell_regrown x2 d os
  have z3 := fun d os => cell_regrown y0 d os
  have z4 := fun d os => cell_regrown y1 d os
  have z5 := fun d os => cell_regrown y2 d os
  refine wp_region_below_tail 9 (by kernel_rfl) (by kernel_rfl) ?_
  simp only [List.take_succ_cons, List.take_zero, List.drop_succ_cons, List.drop_zero]
  repeat (go_big_quiet_step ((go_at_call 148; exact QC.out _ _)))
  refine wpQuiet_nil ?_
  intro _ hw'
  obtain ⟨⟨dq, osq⟩, hw''⟩ := hw'
  subst hw''
  have hbel := below_regrown w1 dq osq
  have R3 := Lib.hid (R1.out.then_ hbel)
  have D3 := Lib.hid (below_step D1.out hbel)
  clear hbel c0 f0 R1 D1 z0 z1 z2 z3 z4 z5 QC
  have c0 := R3.out.c3
  have f0 := R3.out.fz
  go_wp2_with fail
  try simp only [Exit.inBlock, Exit.then]
  refine bodyPost_ret (box_ret2 rfl rfl rfl (R3.out.put _ _ _)) rfl ?_
  exact ⟨ret_v HQ.out, below_put D3.out (Nat.le_refl _) _ _ _⟩

set_option maxHeartbeats 3200000 in
set_option maxRecDepth 100000 in
theorem call_7 {w : World} {B c : Nat} {A : Option Addr} {a b : Vl} (h : Vs w B A 2 c [a, b]) (hB : B ≤ w.heap.size) (ha : allR [a, b] = true) :
    Calls Tryz.prog 134 #[.int .i64 7, .slice A 2 c] w fun e w' => e = .returned (.tuple #[(callV 7 [a, b]).1.val, .int .i64 (callV 7 [a, b]).2]) ∧ Below w.heap.size w w' := by
  have hlen := h.1
  have hcap := h.2.2.1
  have hle := h.2.1
  unfold maxLen at hcap
  have HV := Lib.hid (h.new hB (.cells #[.int .i64 0, .int .i64 0, .string ⟨#[]⟩] 40))
  have HBS : Hid (B ≤ (w.alloc (.cells #[.int .i64 0, .int .i64 0, .string ⟨#[]⟩] 40)).heap.size) := by show _ ≤ _; rw [size_al]; omega
  have HL := Lib.hid hlen
  have HA := Lib.hid ha
  have hq : callV 7 [a, b] = lessV a b := (call_ok ha (by decide) rfl).trans rfl
  obtain ⟨rk, rn, rs, re, hp⟩ := pair_of (lessV a b)
  have HQ := Lib.hid (hq.trans hp)
  have HP := Lib.hid hp
  have OA := Lib.hid (h.2.2.2.2 a (by simp))
  have OB := Lib.hid (h.2.2.2.2 b (by simp))
  have RA := Lib.hid (allR_iff.1 ha a (by simp))
  have RB := Lib.hid (allR_iff.1 ha b (by simp))
  have HK : Hid (decide (6 ≤ (7 : Int) ∧ (7 : Int) ≤ 13) = true) := by show _ = _; decide
  have HT : Hid ((needs 7 : Int) = 2) := rfl
  clear ha h hlen hB hq hp
  generalize callV 7 [a, b] = RR at *
  go_enter Tryz.func134, Tryz.ntmps134
  go_wp2_with fail
  refine (allright_is HA.out HV.out HBS.out).mono ?_
  rintro e w1 ⟨rfl, hb1⟩
  have R1 := Lib.hid ((Bx.made w 0 0 ⟨#[]⟩).then_ hb1)
  have D1 := Lib.hid (Below.lit hb1)
  have V1 := Lib.hid ((HV.out.more HBS.out).then_ hb1)
  have c0 := R1.out.c3
  have f0 := R1.out.fz
  clear hb1
  go_wp2_with fail
  refine (known_is HK.out _).mono ?_
  rintro e w' ⟨rfl, rfl⟩
  go_wp2_with fail
  refine (takes_is HT.out _).mono ?_
  rintro e w' ⟨rfl, rfl⟩
  obtain ⟨b0, o0, x, hA, hbB, hx, hok, x0, x1, x2⟩ := V1.out.at_ (k := 0) (by omega)
  subst hA
  obtain ⟨b1, o1, y, hA', _, hy, _, y0, y1, y2⟩ := V1.out.at_ (k := 1) (by omega)
  injection hA' with hA'
  injection hA' with e1 e2
  subst e1 e2
  obtain rfl : a = x := Option.some.inj hx
  obtain rfl : b = y := Option.some.inj hy
  simp only [Nat.zero_mul, Nat.one_mul, Nat.add_zero] at x0 x1 x2 y0 y1 y2
  clear hx hy hok
  have QC := Lib.hid (fun d os => Calls.regrown_of (w := w1) (d := d) (os := os) (pair_is HP.out (fless_any a b OA.out.2.2 OB.out.2.2 (grow (redrawn w1 d) os))))
  obtain ⟨k, n, s⟩ := a
  obtain ⟨k', n', s'⟩ := b
  go_wp2_with fail
  have z0 := fun d os => cell_regrown x0 d os
  have z1 := fun d os => cell_regrown x1 d os
  have z2 := fun d os => cell_regrown x2 d os
  have z3 := fun d os => cell_regrown y0 d os
  have z4 := fun d os => cell_regrown y1 d os
  have z5 := fun d os => cell_regrown y2 d os
  refine wp_region_below_tail 9 (by kernel_rfl) (by kernel_rfl) ?_
  simp only [List.take_succ_cons, List.take_zero, List.drop_succ_cons, List.drop_zero]
  repeat (go_big_quiet_step ((go_at_call 149; exact QC.out _ _)))
  refine wpQuiet_nil ?_
  intro _ hw'
  obtain ⟨⟨dq, osq⟩, hw''⟩ := hw'
  subst hw''
  have hbel := below_regrown w1 dq osq
  have R3 := Lib.hid (R1.out.then_ hbel)
  have D3 := Lib.hid (below_step D1.out hbel)
  clear hbel c0 f0 R1 D1 z0 z1 z2 z3 z4 z5 QC
  have c0 := R3.out.c3
  have f0 := R3.out.fz
  go_wp2_with fail
  try simp only [Exit.inBlock, Exit.then]
  refine bodyPost_ret (box_ret2 rfl rfl rfl (R3.out.put _ _ _)) rfl ?_
  exact ⟨ret_v HQ.out, below_put D3.out (Nat.le_refl _) _ _ _⟩

set_option maxHeartbeats 3200000 in
set_option maxRecDepth 100000 in
theorem call_8 {w : World} {B c : Nat} {A : Option Addr} {a b : Vl} (h : Vs w B A 2 c [a, b]) (hB : B ≤ w.heap.size) (ha : allR [a, b] = true) :
    Calls Tryz.prog 134 #[.int .i64 8, .slice A 2 c] w fun e w' => e = .returned (.tuple #[(callV 8 [a, b]).1.val, .int .i64 (callV 8 [a, b]).2]) ∧ Below w.heap.size w w' := by
  have hlen := h.1
  have hcap := h.2.2.1
  have hle := h.2.1
  unfold maxLen at hcap
  have HV := Lib.hid (h.new hB (.cells #[.int .i64 0, .int .i64 0, .string ⟨#[]⟩] 40))
  have HBS : Hid (B ≤ (w.alloc (.cells #[.int .i64 0, .int .i64 0, .string ⟨#[]⟩] 40)).heap.size) := by show _ ≤ _; rw [size_al]; omega
  have HL := Lib.hid hlen
  have HA := Lib.hid ha
  have hq : callV 8 [a, b] = reckV 8 a b := (call_ok ha (by decide) rfl).trans rfl
  obtain ⟨rk, rn, rs, re, hp⟩ := pair_of (reckV 8 a b)
  have HQ := Lib.hid (hq.trans hp)
  have HP := Lib.hid hp
  have OA := Lib.hid (h.2.2.2.2 a (by simp))
  have OB := Lib.hid (h.2.2.2.2 b (by simp))
  have RA := Lib.hid (allR_iff.1 ha a (by simp))
  have RB := Lib.hid (allR_iff.1 ha b (by simp))
  have HK : Hid (decide (6 ≤ (8 : Int) ∧ (8 : Int) ≤ 13) = true) := by show _ = _; decide
  have HT : Hid ((needs 8 : Int) = 2) := rfl
  clear ha h hlen hB hq hp
  generalize callV 8 [a, b] = RR at *
  go_enter Tryz.func134, Tryz.ntmps134
  go_wp2_with fail
  refine (allright_is HA.out HV.out HBS.out).mono ?_
  rintro e w1 ⟨rfl, hb1⟩
  have R1 := Lib.hid ((Bx.made w 0 0 ⟨#[]⟩).then_ hb1)
  have D1 := Lib.hid (Below.lit hb1)
  have V1 := Lib.hid ((HV.out.more HBS.out).then_ hb1)
  have c0 := R1.out.c3
  have f0 := R1.out.fz
  clear hb1
  go_wp2_with fail
  refine (known_is HK.out _).mono ?_
  rintro e w' ⟨rfl, rfl⟩
  go_wp2_with fail
  refine (takes_is HT.out _).mono ?_
  rintro e w' ⟨rfl, rfl⟩
  obtain ⟨b0, o0, x, hA, hbB, hx, hok, x0, x1, x2⟩ := V1.out.at_ (k := 0) (by omega)
  subst hA
  obtain ⟨b1, o1, y, hA', _, hy, _, y0, y1, y2⟩ := V1.out.at_ (k := 1) (by omega)
  injection hA' with hA'
  injection hA' with e1 e2
  subst e1 e2
  obtain rfl : a = x := Option.some.inj hx
  obtain rfl : b = y := Option.some.inj hy
  simp only [Nat.zero_mul, Nat.one_mul, Nat.add_zero] at x0 x1 x2 y0 y1 y2
  clear hx hy hok
  have QC := Lib.hid (fun d os => Calls.regrown_of (w := w1) (d := d) (os := os) (pair_is HP.out (reckon_any 8 a b (.inl rfl) OA.out.2.1 OB.out.2.1 (grow (redrawn w1 d) os))))
  obtain ⟨k, n, s⟩ := a
  obtain ⟨k', n', s'⟩ := b
  go_wp2_with fail
  have z0 := fun d os => cell_regrown x0 d os
  have z1 := fun d os => cell_regrown x1 d os
  have z2 := fun d os => cell_regrown x2 d os
  have z3 := fun d os => cell_regrown y0 d os
  have z4 := fun d os => cell_regrown y1 d os
  have z5 := fun d os => cell_regrown y2 d os
  refine wp_region_below_tail 10 (by kernel_rfl) (by kernel_rfl) ?_
  simp only [List.take_succ_cons, List.take_zero, List.drop_succ_cons, List.drop_zero]
  repeat (go_big_quiet_step ((go_at_call 150; exact QC.out _ _)))
  refine wpQuiet_nil ?_
  intro _ hw'
  obtain ⟨⟨dq, osq⟩, hw''⟩ := hw'
  subst hw''
  have hbel := below_regrown w1 dq osq
  have R3 := Lib.hid (R1.out.then_ hbel)
  have D3 := Lib.hid (below_step D1.out hbel)
  clear hbel c0 f0 R1 D1 z0 z1 z2 z3 z4 z5 QC
  have c0 := R3.out.c3
  have f0 := R3.out.fz
  go_wp2_with fail
  try simp only [Exit.inBlock, Exit.then]
  refine bodyPost_ret (box_ret2 rfl rfl rfl (R3.out.put _ _ _)) rfl ?_
  exact ⟨ret_v HQ.out, below_put D3.out (Nat.le_refl _) _ _ _⟩

set_option maxHeartbeats 3200000 in
set_option maxRecDepth 100000 in
theorem call_9 {w : World} {B c : Nat} {A : Option Addr} {a b : Vl} (h : Vs w B A 2 c [a, b]) (hB : B ≤ w.heap.size) (ha : allR [a, b] = true) :
    Calls Tryz.prog 134 #[.int .i64 9, .slice A 2 c] w fun e w' => e = .returned (.tuple #[(callV 9 [a, b]).1.val, .int .i64 (callV 9 [a, b]).2]) ∧ Below w.heap.size w w' := by
  have hlen := h.1
  have hcap := h.2.2.1
  have hle := h.2.1
  unfold maxLen at hcap
  have HV := Lib.hid (h.new hB (.cells #[.int .i64 0, .int .i64 0, .string ⟨#[]⟩] 40))
  have HBS : Hid (B ≤ (w.alloc (.cells #[.int .i64 0, .int .i64 0, .string ⟨#[]⟩] 40)).heap.size) := by show _ ≤ _; rw [size_al]; omega
  have HL := Lib.hid hlen
  have HA := Lib.hid ha
  have hq : callV 9 [a, b] = reckV 9 a b := (call_ok ha (by decide) rfl).trans rfl
  obtain ⟨rk, rn, rs, re, hp⟩ := pair_of (reckV 9 a b)
  have HQ := Lib.hid (hq.trans hp)
  have HP := Lib.hid hp
  have OA := Lib.hid (h.2.2.2.2 a (by simp))
  have OB := Lib.hid (h.2.2.2.2 b (by simp))
  have RA := Lib.hid (allR_iff.1 ha a (by simp))
  have RB := Lib.hid (allR_iff.1 ha b (by simp))
  have HK : Hid (decide (6 ≤ (9 : Int) ∧ (9 : Int) ≤ 13) = true) := by show _ = _; decide
  have HT : Hid ((needs 9 : Int) = 2) := rfl
  clear ha h hlen hB hq hp
  generalize callV 9 [a, b] = RR at *
  go_enter Tryz.func134, Tryz.ntmps134
  go_wp2_with fail
  refine (allright_is HA.out HV.out HBS.out).mono ?_
  rintro e w1 ⟨rfl, hb1⟩
  have R1 := Lib.hid ((Bx.made w 0 0 ⟨#[]⟩).then_ hb1)
  have D1 := Lib.hid (Below.lit hb1)
  have V1 := Lib.hid ((HV.out.more HBS.out).then_ hb1)
  have c0 := R1.out.c3
  have f0 := R1.out.fz
  clear hb1
  go_wp2_with fail
  refine (known_is HK.out _).mono ?_
  rintro e w' ⟨rfl, rfl⟩
  go_wp2_with fail
  refine (takes_is HT.out _).mono ?_
  rintro e w' ⟨rfl, rfl⟩
  obtain ⟨b0, o0, x, hA, hbB, hx, hok, x0, x1, x2⟩ := V1.out.at_ (k := 0) (by omega)
  subst hA
  obtain ⟨b1, o1, y, hA', _, hy, _, y0, y1, y2⟩ := V1.out.at_ (k := 1) (by omega)
  injection hA' with hA'
  injection hA' with e1 e2
  subst e1 e2
  obtain rfl : a = x := Option.some.inj hx
  obtain rfl : b = y := Option.some.inj hy
  simp only [Nat.zero_mul, Nat.one_mul, Nat.add_zero] at x0 x1 x2 y0 y1 y2
  clear hx hy hok
  have QC := Lib.hid (fun d os => Calls.regrown_of (w := w1) (d := d) (os := os) (pair_is HP.out (reckon_any 9 a b (.inr (.inl rfl)) OA.out.2.1 OB.out.2.1 (grow (redrawn w1 d) os))))
  obtain ⟨k, n, s⟩ := a
  obtain ⟨k', n', s'⟩ := b
  go_wp2_with fail
  have z0 := fun d os => cell_regrown x0 d os
  have z1 := fun d os => cell_regrown x1 d os
  have z2 := fun d os => cell_regrown x2 d os
  have z3 := fun d os => cell_regrown y0 d os
  have z4 := fun d os => cell_regrown y1 d os
  have z5 := fun d os => cell_regrown y2 d os
  refine wp_region_below_tail 10 (by kernel_rfl) (by kernel_rfl) ?_
  simp only [List.take_succ_cons, List.take_zero, List.drop_succ_cons, List.drop_zero]
  repeat (go_big_quiet_step ((go_at_call 150; exact QC.out _ _)))
  refine wpQuiet_nil ?_
  intro _ hw'
  obtain ⟨⟨dq, osq⟩, hw''⟩ := hw'
  subst hw''
  have hbel := below_regrown w1 dq osq
  have R3 := Lib.hid (R1.out.then_ hbel)
  have D3 := Lib.hid (below_step D1.out hbel)
  clear hbel c0 f0 R1 D1 z0 z1 z2 z3 z4 z5 QC
  have c0 := R3.out.c3
  have f0 := R3.out.fz
  go_wp2_with fail
  try simp only [Exit.inBlock, Exit.then]
  refine bodyPost_ret (box_ret2 rfl rfl rfl (R3.out.put _ _ _)) rfl ?_
  exact ⟨ret_v HQ.out, below_put D3.out (Nat.le_refl _) _ _ _⟩

set_option maxHeartbeats 3200000 in
set_option maxRecDepth 100000 in
theorem call_10 {w : World} {B c : Nat} {A : Option Addr} {a b : Vl} (h : Vs w B A 2 c [a, b]) (hB : B ≤ w.heap.size) (ha : allR [a, b] = true) :
    Calls Tryz.prog 134 #[.int .i64 10, .slice A 2 c] w fun e w' => e = .returned (.tuple #[(callV 10 [a, b]).1.val, .int .i64 (callV 10 [a, b]).2]) ∧ Below w.heap.size w w' := by
  have hlen := h.1
  have hcap := h.2.2.1
  have hle := h.2.1
  unfold maxLen at hcap
  have HV := Lib.hid (h.new hB (.cells #[.int .i64 0, .int .i64 0, .string ⟨#[]⟩] 40))
  have HBS : Hid (B ≤ (w.alloc (.cells #[.int .i64 0, .int .i64 0, .string ⟨#[]⟩] 40)).heap.size) := by show _ ≤ _; rw [size_al]; omega
  have HL := Lib.hid hlen
  have HA := Lib.hid ha
  have hq : callV 10 [a, b] = reckV 10 a b := (call_ok ha (by decide) rfl).trans rfl
  obtain ⟨rk, rn, rs, re, hp⟩ := pair_of (reckV 10 a b)
  have HQ := Lib.hid (hq.trans hp)
  have HP := Lib.hid hp
  have OA := Lib.hid (h.2.2.2.2 a (by simp))
  have OB := Lib.hid (h.2.2.2.2 b (by simp))
  have RA := Lib.hid (allR_iff.1 ha a (by simp))
  have RB := Lib.hid (allR_iff.1 ha b (by simp))
  have HK : Hid (decide (6 ≤ (10 : Int) ∧ (10 : Int) ≤ 13) = true) := by show _ = _; decide
  have HT : Hid ((needs 10 : Int) = 2) := rfl
  clear ha h hlen hB hq hp
  generalize callV 10 [a, b] = RR at *
  go_enter Tryz.func134, Tryz.ntmps134
  go_wp2_with fail
  refine (allright_is HA.out HV.out HBS.out).mono ?_
  rintro e w1 ⟨rfl, hb1⟩
  have R1 := Lib.hid ((Bx.made w 0 0 ⟨#[]⟩).then_ hb1)
  have D1 := Lib.hid (Below.lit hb1)
  have V1 := Lib.hid ((HV.out.more HBS.out).then_ hb1)
  have c0 := R1.out.c3
  have f0 := R1.out.fz
  clear hb1
  go_wp2_with fail
  refine (known_is HK.out _).mono ?_
  rintro e w' ⟨rfl, rfl⟩
  go_wp2_with fail
  refine (takes_is HT.out _).mono ?_
  rintro e w' ⟨rfl, rfl⟩
  obtain ⟨b0, o0, x, hA, hbB, hx, hok, x0, x1, x2⟩ := V1.out.at_ (k := 0) (by omega)
  subst hA
  obtain ⟨b1, o1, y, hA', _, hy, _, y0, y1, y2⟩ := V1.out.at_ (k := 1) (by omega)
  injection hA' with hA'
  injection hA' with e1 e2
  subst e1 e2
  obtain rfl : a = x := Option.some.inj hx
  obtain rfl : b = y := Option.some.inj hy
  simp only [Nat.zero_mul, Nat.one_mul, Nat.add_zero] at x0 x1 x2 y0 y1 y2
  clear hx hy hok
  have QC := Lib.hid (fun d os => Calls.regrown_of (w := w1) (d := d) (os := os) (pair_is HP.out (reckon_any 10 a b (.inr (.inr rfl)) OA.out.2.1 OB.out.2.1 (grow (redrawn w1 d) os))))
  obtain ⟨k, n, s⟩ := a
  obtain ⟨k', n', s'⟩ := b
  go_wp2_with fail
  have z0 := fun d os => cell_regrown x0 d os
  have z1 := fun d os => cell_regrown x1 d os
  have z2 := fun d os => cell_regrown x2 d os
  have z3 := fun d os => cell_regrown y0 d os
  have z4 := fun d os => cell_regrown y1 d os
  have z5 := fun d os => cell_regrown y2 d os
  refine wp_region_below_tail 10 (by kernel_rfl) (by kernel_rfl) ?_
  simp only [List.take_succ_cons, List.take_zero, List.drop_succ_cons, List.drop_zero]
  repeat (go_big_quiet_step ((go_at_call 150; exact QC.out _ _)))
  refine wpQuiet_nil ?_
  intro _ hw'
  obtain ⟨⟨dq, osq⟩, hw''⟩ := hw'
  subst hw''
  have hbel := below_regrown w1 dq osq
  have R3 := Lib.hid (R1.out.then_ hbel)
  have D3 := Lib.hid (below_step D1.out hbel)
  clear hbel c0 f0 R1 D1 z0 z1 z2 z3 z4 z5 QC
  have c0 := R3.out.c3
  have f0 := R3.out.fz
  go_wp2_with fail
  try simp only [Exit.inBlock, Exit.then]
  refine bodyPost_ret (box_ret2 rfl rfl rfl (R3.out.put _ _ _)) rfl ?_
  exact ⟨ret_v HQ.out, below_put D3.out (Nat.le_refl _) _ _ _⟩

set_option maxHeartbeats 3200000 in
set_option maxRecDepth 100000 in
theorem call_12 {w : World} {B c : Nat} {A : Option Addr} {a b : Vl} (h : Vs w B A 2 c [a, b]) (hB : B ≤ w.heap.size) (ha : allR [a, b] = true) :
    Calls Tryz.prog 134 #[.int .i64 12, .slice A 2 c] w fun e w' => e = .returned (.tuple #[(callV 12 [a, b]).1.val, .int .i64 (callV 12 [a, b]).2]) ∧ Below w.heap.size w w' := by
  have hlen := h.1
  have hcap := h.2.2.1
  have hle := h.2.1
  unfold maxLen at hcap
  have HV := Lib.hid (h.new hB (.cells #[.int .i64 0, .int .i64 0, .string ⟨#[]⟩] 40))
  have HBS : Hid (B ≤ (w.alloc (.cells #[.int .i64 0, .int .i64 0, .string ⟨#[]⟩] 40)).heap.size) := by show _ ≤ _; rw [size_al]; omega
  have HL := Lib.hid hlen
  have HA := Lib.hid ha
  have hq : callV 12 [a, b] = bothV 12 a b := (call_ok ha (by decide) rfl).trans rfl
  obtain ⟨rk, rn, rs, re, hp⟩ := pair_of (bothV 12 a b)
  have HQ := Lib.hid (hq.trans hp)
  have HP := Lib.hid hp
  have OA := Lib.hid (h.2.2.2.2 a (by simp))
  have OB := Lib.hid (h.2.2.2.2 b (by simp))
  have RA := Lib.hid (allR_iff.1 ha a (by simp))
  have RB := Lib.hid (allR_iff.1 ha b (by simp))
  have HK : Hid (decide (6 ≤ (12 : Int) ∧ (12 : Int) ≤ 13) = true) := by show _ = _; decide
  have HT : Hid ((needs 12 : Int) = 2) := rfl
  clear ha h hlen hB hq hp
  generalize callV 12 [a, b] = RR at *
  go_enter Tryz.func134, Tryz.ntmps134
  go_wp2_with fail
  refine (allright_is HA.out HV.out HBS.out).mono ?_
  rintro e w1 ⟨rfl, hb1⟩
  have R1 := Lib.hid ((Bx.made w 0 0 ⟨#[]⟩).then_ hb1)
  have D1 := Lib.hid (Below.lit hb1)
  have V1 := Lib.hid ((HV.out.more HBS.out).then_ hb1)
  have c0 := R1.out.c3
  have f0 := R1.out.fz
  clear hb1
  go_wp2_with fail
  refine (known_is HK.out _).mono ?_
  rintro e w' ⟨rfl, rfl⟩
  go_wp2_with fail
  refine (takes_is HT.out _).mono ?_
  rintro e w' ⟨rfl, rfl⟩
  have C := Lib.hid (pair_is ((judge_two (.inl rfl) RA.out RB.out).trans HP.out) (judge_any V1.out (Nat.le_refl _) (by omega) (allR_iff.1 HA.out) 12))
  go_wp2_with fail
  refine C.out.mono ?_
  rintro e w3 ⟨rfl, hb3⟩
  have R3 := Lib.hid (R1.out.then_ hb3)
  have D3 := Lib.hid (below_step D1.out hb3)
  clear hb3 c0 f0 R1 D1
  have c0 := R3.out.c3
  have f0 := R3.out.fz
  go_wp2_with fail
  try simp only [Exit.inBlock, Exit.then]
  refine bodyPost_ret (box_ret2 rfl rfl rfl (R3.out.put _ _ _)) rfl ?_
  exact ⟨ret_v HQ.out, below_put D3.out (Nat.le_refl _) _ _ _⟩

set_option maxHeartbeats 3200000 in
set_option maxRecDepth 100000 in
theorem call_13 {w : World} {B c : Nat} {A : Option Addr} {a b : Vl} (h : Vs w B A 2 c [a, b]) (hB : B ≤ w.heap.size) (ha : allR [a, b] = true) :
    Calls Tryz.prog 134 #[.int .i64 13, .slice A 2 c] w fun e w' => e = .returned (.tuple #[(callV 13 [a, b]).1.val, .int .i64 (callV 13 [a, b]).2]) ∧ Below w.heap.size w w' := by
  have hlen := h.1
  have hcap := h.2.2.1
  have hle := h.2.1
  unfold maxLen at hcap
  have HV := Lib.hid (h.new hB (.cells #[.int .i64 0, .int .i64 0, .string ⟨#[]⟩] 40))
  have HBS : Hid (B ≤ (w.alloc (.cells #[.int .i64 0, .int .i64 0, .string ⟨#[]⟩] 40)).heap.size) := by show _ ≤ _; rw [size_al]; omega
  have HL := Lib.hid hlen
  have HA := Lib.hid ha
  have hq : callV 13 [a, b] = bothV 13 a b := (call_ok ha (by decide) rfl).trans rfl
  obtain ⟨rk, rn, rs, re, hp⟩ := pair_of (bothV 13 a b)
  have HQ := Lib.hid (hq.trans hp)
  have HP := Lib.hid hp
  have OA := Lib.hid (h.2.2.2.2 a (by simp))
  have OB := Lib.hid (h.2.2.2.2 b (by simp))
  have RA := Lib.hid (allR_iff.1 ha a (by simp))
  have RB := Lib.hid (allR_iff.1 ha b (by simp))
  have HK : Hid (decide (6 ≤ (13 : Int) ∧ (13 : Int) ≤ 13) = true) := by show _ = _; decide
  have HT : Hid ((needs 13 : Int) = 2) := rfl
  clear ha h hlen hB hq hp
  generalize callV 13 [a, b] = RR at *
  go_enter Tryz.func134, Tryz.ntmps134
  go_wp2_with fail
  refine (allright_is HA.out HV.out HBS.out).mono ?_
  rintro e w1 ⟨rfl, hb1⟩
  have R1 := Lib.hid ((Bx.made w 0 0 ⟨#[]⟩).then_ hb1)
  have D1 := Lib.hid (Below.lit hb1)
  have V1 := Lib.hid ((HV.out.more HBS.out).then_ hb1)
  have c0 := R1.out.c3
  have f0 := R1.out.fz
  clear hb1
  go_wp2_with fail
  refine (known_is HK.out _).mono ?_
  rintro e w' ⟨rfl, rfl⟩
  go_wp2_with fail
  refine (takes_is HT.out _).mono ?_
  rintro e w' ⟨rfl, rfl⟩
  have C := Lib.hid (pair_is ((judge_two (.inr rfl) RA.out RB.out).trans HP.out) (judge_any V1.out (Nat.le_refl _) (by omega) (allR_iff.1 HA.out) 13))
  go_wp2_with fail
  refine C.out.mono ?_
  rintro e w3 ⟨rfl, hb3⟩
  have R3 := Lib.hid (R1.out.then_ hb3)
  have D3 := Lib.hid (below_step D1.out hb3)
  clear hb3 c0 f0 R1 D1
  have c0 := R3.out.c3
  have f0 := R3.out.fz
  go_wp2_with fail
  try simp only [Exit.inBlock, Exit.then]
  refine bodyPost_ret (box_ret2 rfl rfl rfl (R3.out.put _ _ _)) rfl ?_
  exact ⟨ret_v HQ.out, below_put D3.out (Nat.le_refl _) _ _ _⟩

set_option maxHeartbeats 3200000 in
set_option maxRecDepth 100000 in
theorem call_11 {w : World} {B c : Nat} {A : Option Addr} {a : Vl} (h : Vs w B A 1 c [a]) (hB : B ≤ w.heap.size) (ha : allR [a] = true) :
    Calls Tryz.prog 134 #[.int .i64 11, .slice A 1 c] w fun e w' => e = .returned (.tuple #[(callV 11 [a]).1.val, .int .i64 (callV 11 [a]).2]) ∧ Below w.heap.size w w' := by
  have hlen := h.1
  have hcap := h.2.2.1
  have hle := h.2.1
  unfold maxLen at hcap
  have HV := Lib.hid (h.new hB (.cells #[.int .i64 0, .int .i64 0, .string ⟨#[]⟩] 40))
  have HBS : Hid (B ≤ (w.alloc (.cells #[.int .i64 0, .int .i64 0, .string ⟨#[]⟩] 40)).heap.size) := by show _ ≤ _; rw [size_al]; omega
  have HL := Lib.hid hlen
  have HA := Lib.hid ha
  have hq : callV 11 [a] = notV a := (call_ok ha (by decide) rfl).trans rfl
  obtain ⟨rk, rn, rs, re, hp⟩ := pair_of (notV a)
  have HQ := Lib.hid (hq.trans hp)
  have HP := Lib.hid hp
  have OA := Lib.hid (h.2.2.2.2 a (by simp))
  have RA := Lib.hid (allR_iff.1 ha a (by simp))
  have HK : Hid (decide (6 ≤ (11 : Int) ∧ (11 : Int) ≤ 13) = true) := by show _ = _; decide
  have HT : Hid ((needs 11 : Int) = 1) := rfl
  clear ha h hlen hB hq hp
  generalize callV 11 [a] = RR at *
  go_enter Tryz.func134, Tryz.ntmps134
  go_wp2_with fail
  refine (allright_is HA.out HV.out HBS.out).mono ?_
  rintro e w1 ⟨rfl, hb1⟩
  have R1 := Lib.hid ((Bx.made w 0 0 ⟨#[]⟩).then_ hb1)
  have D1 := Lib.hid (Below.lit hb1)
  have V1 := Lib.hid ((HV.out.more HBS.out).then_ hb1)
  have c0 := R1.out.c3
  have f0 := R1.out.fz
  clear hb1
  go_wp2_with fail
  refine (known_is HK.out _).mono ?_
  rintro e w' ⟨rfl, rfl⟩
  go_wp2_with fail
  refine (takes_is HT.out _).mono ?_
  rintro e w' ⟨rfl, rfl⟩
  have C := Lib.hid (pair_is ((judge_one RA.out).trans HP.out) (judge_any V1.out (Nat.le_refl _) (by omega) (allR_iff.1 HA.out) 11))
  go_wp2_with fail
  refine C.out.mono ?_
  rintro e w3 ⟨rfl, hb3⟩
  have R3 := Lib.hid (R1.out.then_ hb3)
  have D3 := Lib.hid (below_step D1.out hb3)
  clear hb3 c0 f0 R1 D1
  have c0 := R3.out.c3
  have f0 := R3.out.fz
  go_wp2_with fail
  try simp only [Exit.inBlock, Exit.then]
  refine bodyPost_ret (box_ret2 rfl rfl rfl (R3.out.put _ _ _)) rfl ?_
  exact ⟨ret_v HQ.out, below_put D3.out (Nat.le_refl _) _ _ _⟩

theorem call_any {w : World} {B n c : Nat} {A : Option Addr} {l : List Vl} (h : Vs w B A n c l) (hB : B ≤ w.heap.size) (hn : n ≤ 1000000) (op : Int) :
    Calls Tryz.prog 134 #[.int .i64 op, .slice A n c] w fun e w' => e = .returned (.tuple #[(callV op l).1.val, .int .i64 (callV op l).2]) ∧ Below w.heap.size w w' := by
  cases ha : allR l with
  | false => exact call_bad1 h hB hn op ha
  | true =>
    by_cases hk : 6 ≤ op ∧ op ≤ 13
    · by_cases hl : l.length = needs op
      · have hlen := h.1
        by_cases h11 : op = 11
        · subst h11
          obtain ⟨a, rfl⟩ := one_of hl
          subst hlen
          exact call_11 h hB ha
        · have hl2 : l.length = 2 := hl.trans (if_neg h11)
          obtain ⟨a, b, rfl⟩ := two_of hl2
          subst hlen
          obtain rfl | rfl | rfl | rfl | rfl | rfl | rfl : op = 6 ∨ op = 7 ∨ op = 8 ∨ op = 9 ∨ op = 10 ∨ op = 12 ∨ op = 13 := by omega
          · exact call_6 h hB ha
          · exact call_7 h hB ha
          · exact call_8 h hB ha
          · exact call_9 h hB ha
          · exact call_10 h hB ha
          · exact call_12 h hB ha
          · exact call_13 h hB ha
      · exact call_bad3 h hB hn op ha hk hl
    · exact call_bad2 h hB hn op ha hk
end Go.Proofs.YtmoglaknmlhpgaaGreat
/- Has: the project's and the reference's. -/
namespace Go.Proofs.YtmoglaknmlhpgaaGreat
set_option linter.unusedVariables false
open Go.RowKit Go.Sort

set_option maxHeartbeats 1600000 in
theorem vhas_any {w : World} {B n c : Nat} {A : Option Addr} {l : List Vl} (h : Vs w B A n c l) (hB : B ≤ w.heap.size) (k0 n0 : Int) (s0 : ByteArray) :
    Calls Tryz.prog 133 #[.slice A n c, .agg #[.int .i64 k0, .int .i64 n0, .string s0]] w fun e w' => e = .returned (.bool (hasB l ⟨k0, n0, s0⟩)) ∧ Below w.heap.size w w' := by
  have hlen := h.1
  have hcap := h.2.2.1
  have hle := h.2.1
  unfold maxLen at hcap
  have hb0 := Bx.made w k0 n0 s0
  have hvs : Vs (w.alloc (.cells #[.int .i64 k0, .int .i64 n0, .string s0] 40)) B A n c l := h.keep fun k hk => Below.heap_alloc w _ k (by omega)
  have hd : Below w.heap.size w (w.alloc (.cells #[.int .i64 k0, .int .i64 n0, .string s0] 40)) := (Below.refl _ _).alloc (Nat.le_refl _) _
  have hsz := size_al w (.cells #[.int .i64 k0, .int .i64 n0, .string s0] 40)
  have H0 := Lib.hid hb0
  have HV := Lib.hid hvs
  have HD := Lib.hid hd
  have HL := Lib.hid hlen
  clear h hb0 hvs hd hlen
  generalize hw1 : w.alloc (.cells #[.int .i64 k0, .int .i64 n0, .string s0] 40) = w1 at *
  have HW := Lib.hid hw1
  clear hw1
  go_enter Tryz.func133, Tryz.ntmps133
  go_wp2_with fail
  rw [HW.out]
  go_loopw [9] (fun i wr => ∃ k : Nat, k ≤ n ∧ i = .int .i64 k ∧ HasTo l ⟨k0, n0, s0⟩ k ∧ Below w1.heap.size w1 wr) (fun i _ => n - (intOf i).toNat)
  case atStart => exact ⟨0, Nat.zero_le _, rfl, fun j x _ hj => by omega, Below.refl _ _⟩
  case round =>
    obtain ⟨k, hk, rfl, ht, hb⟩ := hrel
    have HT := Lib.hid ht
    have HB := Lib.hid hb
    by_cases hlt : k < n
    · obtain ⟨b, o, x, rfl, hbB, hx, hok, x0, x1, x2⟩ := (HV.out.below (hb.mono (by omega))).at_ hlt
      obtain ⟨kx, nx, sx⟩ := x
      have y := (H0.out.then_ hb).c3
      have HX := Lib.hid hx
      have hlt2 : w.heap.size < wr.heap.size := by have := hb.size; omega
      have hve := val_eq kx nx k0 n0 sx s0
      clear ht hb hx hok
      cases he : veq ⟨kx, nx, sx⟩ ⟨k0, n0, s0⟩
      · rw [he] at hve
        have HE := Lib.hid he
        clear he
        go_wp2_with fail
        go_roundw
        case rel => exact ⟨k + 1, by omega, by go_num, HT.out.step HX.out HE.out, HB.out.alloc HB.out.size _⟩
        case measure => simp [intOf]; omega
      · rw [he] at hve
        have HE := Lib.hid he
        clear he
        go_wp2_with fail
        go_ret
        exact ⟨ret_bool (has_true HX.out HE.out).symm, (HD.out.trans (HB.out.mono (by omega))).alloc (by omega) _⟩
    · obtain rfl : k = n := by omega
      clear ht hb
      go_wp2_with fail
      go_ret
      exact ⟨ret_bool (HT.out.all HL.out).symm, HD.out.trans (HB.out.mono (by omega))⟩

end Go.Proofs.YtmoglaknmlhpgaaGreat
/- reckoned: what a function makes of parts none of which is an error. -/
namespace Go.Proofs.YtmoglaknmlhpgaaGreat
set_option linter.unusedVariables false
open Go.RowKit Go.Sort

theorem Prts.up {w w' : World} {R : Nat → Prop} {A : Option Addr} {n c : Nat} {l : List Prt} (h : Prts w R A n c l) (hb : Below w.heap.size w w') : Prts w' R A n c l := h.keep (Kept.all hb R) (fun _ h _ => h)
theorem Vls.up {w w' : World} {R : Nat → Prop} {A : Option Addr} {n c : Nat} {l : List Vl} (h : Vls w R A n c l) (hb : Below w.heap.size w w') : Vls w' R A n c l := h.keep (Kept.all hb R) (fun _ h _ => h)
theorem epair_eq {p : Vl × Int} {v : Vl} {e : Int} (h : p = (v, e)) : p.1 = v ∧ p.2 = e := by rw [h]; exact ⟨rfl, rfl⟩
set_option maxRecDepth 100000 in
set_option maxHeartbeats 3200000 in
theorem ereck_3 {w : World} {R : Nat → Prop} {A : Option Addr} {n c : Nat} {of : List Prt} (h : Prts w R A n c of) (hn : 1 ≤ n) :
    Calls Tryz.prog 108 #[.int .i64 3, .slice A n c] w fun e w' => e = .returned (.tuple #[(reckP 3 of).1.val, .int .i64 (reckP 3 of).2]) ∧ Below w.heap.size w w' := by
  have hle := Rw.le h
  have hcap := Rw.cap h
  unfold maxLen at hcap
  have h' := h.up (below1 w (.cells #[.int .i64 0, .int .i64 0, .string ⟨#[]⟩] 40))
  obtain ⟨b, o, p, A', n', c', rfl, hRb, hbl, hx, hok, ⟨x0, _, _, _, _⟩, hin⟩ := h'.at_ (j := 0) (by omega)
  have hq : reckP 3 of = singleV p.bag := by
    match of, hx with
    | q :: _, hx => simp at hx; subst hx; rfl
  rw [hq]
  have HS := Lib.hid (esingle_any hin)
  obtain ⟨⟨⟨rk, rn, rs⟩, re⟩, hp⟩ : ∃ q, q = singleV p.bag := ⟨_, rfl⟩
  rw [← hp] at HS
  rw [← hp]
  simp only [Nat.zero_mul, Nat.add_zero] at x0
  clear hok hin hx hq h h' hRb hbl hp
  go_enter Tryz.func108, Tryz.ntmps108
  go_wp2_with (go_at_call 132; refine HS.out.mono ?_; rintro e w1 ⟨rfl, hb1⟩
               have R1 := Lib.hid ((Bx.made w 0 0 ⟨#[]⟩).then_ hb1)
               have D1 := Lib.hid (Below.lit hb1)
               have c0 := R1.out.c3
               have f0 := R1.out.fz
               simp only [Vl.val]
               clear hb1)
  try simp only [Exit.inBlock, Exit.then]
  refine bodyPost_ret (box_ret2 rfl rfl rfl (R1.out.put _ _ _)) rfl ?_
  exact ⟨rfl, below_put D1.out (Nat.le_refl _) _ _ _⟩
set_option maxRecDepth 100000 in
set_option maxHeartbeats 3200000 in
theorem ereck_4 {w : World} {R : Nat → Prop} {A : Option Addr} {n c : Nat} {of : List Prt} (h : Prts w R A n c of) (hn : 1 ≤ n) :
    Calls Tryz.prog 108 #[.int .i64 4, .slice A n c] w fun e w' => e = .returned (.tuple #[(reckP 4 of).1.val, .int .i64 (reckP 4 of).2]) ∧ Below w.heap.size w w' := by
  have hle := Rw.le h
  have hcap := Rw.cap h
  unfold maxLen at hcap
  have h' := h.up (below1 w (.cells #[.int .i64 0, .int .i64 0, .string ⟨#[]⟩] 40))
  obtain ⟨b, o, p, A', n', c', rfl, hRb, hbl, hx, hok, ⟨x0, _, _, _, _⟩, hin⟩ := h'.at_ (j := 0) (by omega)
  have hlen : p.bag.length = n' := Rw.len hin
  have HQ : Hid (reckP 4 of = (⟨2, (n' : Int), ⟨#[]⟩⟩, 0)) := by
    show _ = _
    match of, hx with
    | q :: _, hx =>
      simp at hx
      subst hx
      rw [← hlen]
      rfl
  simp only [Nat.zero_mul, Nat.add_zero] at x0
  have c0 := (Bx.made w 0 0 ⟨#[]⟩).c3
  have f0 := (Bx.made w 0 0 ⟨#[]⟩).fz
  clear hok hin hx h h' hRb hbl hlen
  go_enter Tryz.func108, Tryz.ntmps108
  go_wp2_with fail
  try simp only [Exit.inBlock, Exit.then]
  refine bodyPost_ret (box_ret2 rfl rfl rfl (Bx.made _ _ _ _)) rfl ?_
  exact ⟨eret_pair HQ.out, below1 _ _⟩
set_option maxRecDepth 100000 in
set_option maxHeartbeats 3200000 in
theorem ereck_5 {w : World} {R : Nat → Prop} {A : Option Addr} {n c : Nat} {of : List Prt} (h : Prts w R A n c of) (hn : 2 ≤ n) :
    Calls Tryz.prog 108 #[.int .i64 5, .slice A n c] w fun e w' => e = .returned (.tuple #[(reckP 5 of).1.val, .int .i64 (reckP 5 of).2]) ∧ Below w.heap.size w w' := by
  have hle := Rw.le h
  have hcap := Rw.cap h
  unfold maxLen at hcap
  have h' := h.up (below1 w (.cells #[.int .i64 0, .int .i64 0, .string ⟨#[]⟩] 40))
  obtain ⟨b, o, p, A', n', c', rfl, hRb, hbl, hx, hok, ⟨x0, _, _, _, _⟩, hin⟩ := h'.at_ (j := 0) (by omega)
  obtain ⟨b', o', q, A'', n'', c'', hA, _, _, hy, _, ⟨_, y1, y2, y3, _⟩, _⟩ := h'.at_ (j := 1) (by omega)
  injection hA with hA
  injection hA with hA1 hA2
  subst hA1 hA2
  obtain ⟨qb, ⟨qk, qn, qs⟩, qe⟩ := q
  simp only [Nat.zero_mul, Nat.one_mul, Nat.add_zero] at x0 y1 y2 y3
  have HQ : Hid (reckP 5 of = (⟨1, truthN (hasB p.bag ⟨qk, qn, qs⟩), ⟨#[]⟩⟩, 0)) := by
    show _ = _
    match of, hx, hy with
    | _ :: _ :: _, hx, hy =>
      simp at hx hy
      subst hx hy
      rfl
  obtain ⟨bx, hbx⟩ : ∃ bx, bx = hasB p.bag ⟨qk, qn, qs⟩ := ⟨_, rfl⟩
  rw [← hbx] at HQ
  have HR0 := Lib.hid (Bx.made w 0 0 ⟨#[]⟩)
  have HD0 := Lib.hid (below1 w (.cells #[.int .i64 0, .int .i64 0, .string ⟨#[]⟩] 40))
  have HIN := Lib.hid hin
  generalize reckP 5 of = RR at *
  clear hok hin hx hy h h' hRb
  go_enter Tryz.func108, Tryz.ntmps108
  go_wp2_with fail
  generalize w.alloc (.cells #[.int .i64 0, .int .i64 0, .string ⟨#[]⟩] 40) = W1 at *
  have QH := Lib.hid (fun d os => Calls.regrown_of (w := W1) (d := d) (os := os) (by have := vhas_any (HIN.out.up (below_regrown W1 d os)).vs (Nat.le_refl _) qk qn qs; rwa [← hbx] at this))
  have QT := Lib.hid (fun d os => Calls.regrown_of (w := W1) (d := d) (os := os) (etruth_any bx (grow (redrawn W1 d) os)))
  have z0 := fun d os => cell_regrown x0 d os
  have z3 := fun d os => cell_regrown y1 d os
  have z4 := fun d os => cell_regrown y2 d os
  have z5 := fun d os => cell_regrown y3 d os
  clear hbx
  have hz2 : (1 : Int) < (n : Int) := by omega
  have hz1 : (0 : Int) < (n : Int) := by omega
  clear x0 y1 y2 y3
  refine wp_region_below_tail 10 (by kernel_rfl) (by kernel_rfl) ?_
  simp only [List.take_succ_cons, List.take_zero, List.drop_succ_cons, List.drop_zero]
  repeat (go_big_quiet_step (first | (go_at_call 133; exact QH.out _ _) | (go_at_call 48; exact QT.out _ _)))
  refine wpQuiet_nil ?_
  intro _ hw'
  obtain ⟨⟨dq, osq⟩, hw''⟩ := hw'
  subst hw''
  have hbel := below_regrown W1 dq osq
  have R3 := Lib.hid (HR0.out.then_ hbel)
  have D3 := Lib.hid (below_step HD0.out hbel)
  clear hbel z0 z3 z4 z5 QH QT
  have c0 := R3.out.c3
  have f0 := R3.out.fz
  go_wp2_with fail
  try simp only [Exit.inBlock, Exit.then]
  refine bodyPost_ret (box_ret2 rfl rfl rfl (R3.out.put _ _ _)) rfl ?_
  exact ⟨eret_pair HQ.out, below_put D3.out (Nat.le_refl _) _ _ _⟩
theorem call_is {w : World} {R : Nat → Prop} {A : Option Addr} {n c : Nat} {l : List Vl} {op : Int} (h : Vls w R A n c l) (hn : n ≤ 1000000) : Calls Tryz.prog 134 #[.int .i64 op, .slice A n c] w fun e w' => e = .returned (.tuple #[(callV op l).1.val, .int .i64 (callV op l).2]) ∧ Below w.heap.size w w' := call_any h.vs (Nat.le_refl _) hn op
set_option maxRecDepth 100000 in
set_option maxHeartbeats 3200000 in
theorem ereck_any {op : Int} (h3 : op ≠ 3) (h4 : op ≠ 4) (h5 : op ≠ 5) {w : World} {R : Nat → Prop} {A : Option Addr} {n c : Nat} {of : List Prt} (h : Prts w R A n c of) (hn : n ≤ 1000) :
    Calls Tryz.prog 108 #[.int .i64 op, .slice A n c] w fun e w' => e = .returned (.tuple #[(reckP op of).1.val, .int .i64 (reckP op of).2]) ∧ Below w.heap.size w w' := by
  have hle := Rw.le h
  have hcap := Rw.cap h
  have HL := Lib.hid (Rw.len h)
  unfold maxLen at hcap
  have b3 : (op == 3) = false := by rw [beq_eq_false_iff_ne]; exact h3
  have b4 : (op == 4) = false := by rw [beq_eq_false_iff_ne]; exact h4
  have b5 : (op == 5) = false := by rw [beq_eq_false_iff_ne]; exact h5
  have HQ : Hid (reckP op of = callV op (of.map Prt.v)) := by show _ = _; unfold reckP; rw [if_neg h3, if_neg h4, if_neg h5]
  have H := Lib.hid (h.up (below1 w (.cells #[.int .i64 0, .int .i64 0, .string ⟨#[]⟩] 40)))
  have HR0 := Lib.hid (Bx.made w 0 0 ⟨#[]⟩)
  have HD0 := Lib.hid (below1 w (.cells #[.int .i64 0, .int .i64 0, .string ⟨#[]⟩] 40))
  generalize reckP op of = RR at *
  clear h3 h4 h5 h
  go_enter Tryz.func108, Tryz.ntmps108
  go_wp2_with fail
  generalize w.alloc (.cells #[.int .i64 0, .int .i64 0, .string ⟨#[]⟩] 40) = W1 at *
  go_loopw [6, 41] (fun out i wr => ∃ (k : Nat) (A' : Option Addr) (c' : Nat), k ≤ n ∧ i = .int .i64 k ∧ out = .slice A' k c' ∧ (wr.ownsRow W1.heap.size 40 3 (.slice A' k c') k (cells3 ((of.map Prt.v).take k)) ∧ (∀ v ∈ (of.map Prt.v).take k, v.ok)) ∧ Below W1.heap.size W1 wr) (fun out i _ => n - (intOf i).toNat)
  case atStart => exact ⟨0, none, 0, Nat.zero_le _, rfl, rfl, ⟨World.ownsRow_nil W1 W1.heap.size 40 3, by simp⟩, Below.refl _ _⟩
  case round =>
    obtain ⟨k, A', c', hk, rfl, rfl, ⟨ho, hoks⟩, hb⟩ := hrel
    have HO := Lib.hid ho
    have HB := Lib.hid hb
    have HOKS := Lib.hid hoks
    clear ho hb hoks
    by_cases hlt : k < n
    · obtain ⟨b, o, p, Ap, np, cp, rfl, hRb, hbl, hx, hok, ⟨x0, x1, x2, x3, x4⟩, hin⟩ := (H.out.up HB.out).at_ hlt
      obtain ⟨pb, ⟨pk, pn, ps⟩, pe⟩ := p
      simp only at x0 x1 x2 x3 x4 hok
      have hxm : (of.map Prt.v)[k]? = some ⟨pk, pn, ps⟩ := by rw [List.getElem?_map, hx]; rfl
      have HX := Lib.hid hxm
      have hd1 := (Below.refl wr.heap.size wr).alloc (Nat.le_refl _) (.cells #[.slice Ap np cp, .int .i64 pk, .int .i64 pn, .string ps, .int .i64 pe] 148)
      have hob := Ob.made wr 148 #[.slice Ap np cp, .int .i64 pk, .int .i64 pn, .string ps, .int .i64 pe]
      have q1 := hob.cell 1
      have q2 := hob.cell 2
      have q3 := hob.cell 3
      obtain ⟨A2, c2, w2, r2, o2, b2⟩ := push_val (v := ⟨pk, pn, ps⟩) (own_then HO.out hd1) (Nat.le_trans HB.out.size hd1.size) hok.1 (by omega)
      simp only [size_al] at r2
      have R2 := Lib.hid r2
      have O2 := Lib.hid o2
      have B2 := Lib.hid (HB.out.trans ((hd1.mono HB.out.size).trans b2))
      have K2 : Hid (∀ v ∈ (of.map Prt.v).take (k + 1), v.ok) := by
        show ∀ v ∈ (of.map Prt.v).take (k + 1), v.ok
        rw [take_one HX.out]
        intro v hv
        rcases List.mem_append.1 hv with hv | hv
        · exact HOKS.out v hv
        · simp at hv; subst hv; exact hok.1
      clear hx hxm hok hin hRb hd1 hob r2 o2 b2
      go_wp2_with (at_builtin; refine wpList_append_run rfl _ _ _ _ rfl rfl rfl R2.out ?_)
      go_roundw
      case rel => exact ⟨k + 1, A2, c2, by omega, by go_num, rfl, ⟨by rw [take_one HX.out]; exact O2.out, K2.out⟩, B2.out⟩
      case measure => simp [intOf]; omega
    · obtain rfl : k = n := by omega
      have ho := HO.out
      have hoks := HOKS.out
      rw [List.take_of_length_le (by rw [List.length_map]; have := HL.out; omega)] at ho hoks
      rw [cells3_flat] at ho
      have hv : Vls wr (fun b => W1.heap.size ≤ b) A' k c' (of.map Prt.v) := Rw.flat_own ho (by omega) (by rw [List.length_map]; exact HL.out) (fun _ => rfl) hoks (fun _ _ h => h)
      have HC := Lib.hid (call_is (op := op) hv (by omega))
      obtain ⟨⟨⟨rk, rn, rs⟩, re⟩, hp⟩ : ∃ q, q = callV op (of.map Prt.v) := ⟨_, rfl⟩
      rw [← hp] at HC HQ
      clear ho hoks hv hp
      have R1 := Lib.hid (HR0.out.then_ (HB.out.mono (Nat.le_refl _)))
      go_wp2_with (go_at_call 134; refine HC.out.mono ?_; rintro e w1 ⟨rfl, hb1⟩
                   have R2 := Lib.hid (R1.out.then_ hb1)
                   have D2 := Lib.hid (below_step HD0.out (below_step HB.out hb1))
                   have c0 := R2.out.c3
                   have f0 := R2.out.fz
                   simp only [Vl.val]
                   clear hb1)
      try simp only [Exit.inBlock, Exit.then]
      refine bodyPost_ret (box_ret2 rfl rfl rfl (R2.out.put _ _ _)) rfl ?_
      exact ⟨eret_pair HQ.out, below_put D2.out (Nat.le_refl _) _ _ _⟩
end Go.Proofs.YtmoglaknmlhpgaaGreat
