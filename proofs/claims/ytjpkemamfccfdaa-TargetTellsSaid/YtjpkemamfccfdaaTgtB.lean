/- Several texts in one: PolOw, Gr, VApp, AskMem, VBoxPut, Make, Clone, AskCopied, AskPlace, AskGet, TgtW, TgtMet, RefGetA, RefTgt, RefTgtT, HTail, KeepLeft, AskFew, AskAsks, AskApart, AskPut, AskWithA, AskShort, TgtRuns, KeepSmall. -/
import Derived.Test.YtjpkemamfccfdaaTgtA
import Derived.Deep.RegionLaw
import Derived.Laws.OwnMore
import Derived.Lib.Strings
import Derived.Lib.Walk
import Derived.Lib.BufferWrite
import Derived.Lib.UnsafeStr
import Derived.Laws.MakeOwn
import Derived.Lib.MinMax
import Derived.StillTail
import Derived.OrdersHeld
import Derived.RegionTactic
import Derived.Deep.CutRange
/- Rows of the call's own whose elements lead to memory: append. -/
namespace Go.Proofs.Ytjpkemamfccfdaa
set_option linter.unusedVariables false
open Go.RowKit

/-- A row of the call's own, of so many cells each, which say l. -/
def Ow {α : Type} (k : Nat) (P : List Value → α → Prop) (w : World) (base : Nat) (E : TypeId) (A : Option Addr) (n c : Nat) (l : List α) : Prop :=
  ∃ raw : List (List Value), w.ownsRow base E k (.slice A n c) n raw.flatten ∧ raw.length = n ∧ l.length = n ∧ (∀ y ∈ raw, y.length = k) ∧ ∀ (j : Nat) (vs : List Value) (x : α), raw[j]? = some vs → l[j]? = some x → P vs x
section
variable {α : Type} {k : Nat} {P P' : List Value → α → Prop} {w w' : World} {base : Nat} {E : TypeId} {A : Option Addr} {n c : Nat} {l : List α}
theorem Ow.len (h : Ow k P w base E A n c l) : l.length = n := by obtain ⟨_, _, _, h, _⟩ := h; exact h
theorem Ow.made (k : Nat) (P : List Value → α → Prop) (w : World) (E : TypeId) : Ow k P (w.alloc (.cells #[] E)) w.heap.size E (some ⟨w.heap.size, 0, none⟩) 0 0 [] :=
  ⟨[], own_none w E k, rfl, rfl, by simp, by simp⟩
theorem Ow.nil (k : Nat) (P : List Value → α → Prop) (w : World) (base : Nat) (E : TypeId) : Ow k P w base E none 0 0 [] :=
  ⟨[], ⟨by simp, .inl ⟨rfl, rfl⟩⟩, rfl, rfl, by simp, by simp⟩
theorem Ow.mapP (h : Ow k P w base E A n c l) (hP : ∀ vs x, x ∈ l → P vs x → P' vs x) : Ow k P' w base E A n c l := by
  obtain ⟨raw, h1, h2, h3, h4, h5⟩ := h
  exact ⟨raw, h1, h2, h3, h4, fun j vs x a b => hP vs x (List.mem_of_getElem? b) (h5 j vs x a b)⟩
theorem Ow.grown (h : Ow k P w base E A n c l) {row : Option Nat} (hg : w.grownBy w' row) (hne : (Value.slice A n c).ownBlock = none ∨ (Value.slice A n c).ownBlock ≠ row) : Ow k P w' base E A n c l := by
  obtain ⟨raw, h1, h2, h3, h4, h5⟩ := h
  exact ⟨raw, h1.kept (row := row) hg hne, h2, h3, h4, h5⟩
theorem Ow.below (h : Ow k P w base E A n c l) (hb : Below w.heap.size w w') : Ow k P w' base E A n c l := by
  refine h.grown (row := none) ⟨hb.os, hb.tape, hb.output, hb.size, fun k hk _ => hb.block k hk⟩ ?_
  by_cases hv : (Value.slice A n c).ownBlock = none
  · exact .inl hv
  · exact .inr hv
theorem Ow.alloc (h : Ow k P w base E A n c l) (o : Obj) : Ow k P (w.alloc o) base E A n c l := h.below ((Below.refl _ _).alloc (Nat.le_refl _) _)
theorem Ow.rw {R : Nat → Prop} (h : Ow k P w base E A n c l) (hbig : n ≤ 140737488351232) (hR : ∀ ad, A = some ad → base ≤ ad.block → R ad.block) : Rw k P w R A n c l := by
  obtain ⟨raw, h1, h2, h3, h4, h5⟩ := h
  exact Rw.of_own h1 hbig h2 h3 h4 h5 hR
theorem Ow.app {Pg : Program} {T : TypeId} {i : TypeInfo} {z : Value} {by_ : Nat} (ht : Pg.underlying T = some (.slice E)) (hi : Pg.info? E = some i) (hz : i.zero = some z) (hs : i.size = k) (hb : i.bytes = by_) (hzs : z.cells.size = k) (hk : 0 < k) (hby : by_ ≤ 1000)
    {m c2 ty : Nat} {A2 : Option Addr} {R : Nat → Prop} {ys : List α} (h : Ow k P w base E A n c l) (hy : Rw k P w R A2 m c2 ys) (h1 : ∀ vs x, P vs x → ∀ v ∈ vs, v.oneCell' = true) (hn : n + m ≤ 1000000) (hbase : base ≤ w.heap.size) :
    ∃ A' c' w', (Builtin.append_ #[T, T] ty #[.slice A n c, .slice A2 m c2]).run Pg w = .ok (.slice A' (n + m) c') w' ∧ Ow k P w' base E A' (n + m) c' (l ++ ys) ∧ Below base w w' ∧ w.grownBy w' (Value.slice A n c).ownBlock ∧
      ((Value.slice A' (n + m) c').ownBlock = (Value.slice A n c).ownBlock ∨ (Value.slice A' (n + m) c').ownBlock = some w.heap.size) := by
  obtain ⟨raw, o1, o2, o3, o4, o5⟩ := h
  obtain ⟨raw2, r1, r2, r3, r4⟩ := hy.fl hk h1
  obtain ⟨A', c', w', hrun, hown, hbel, hg, ha⟩ := append_rows (ty := ty) (c2 := c2) ht hi hz hs hb hzs hk hby o1 r4 hn hbase
  refine ⟨A', c', w', hrun, ⟨raw ++ raw2, by rw [List.flatten_append]; exact hown, by rw [List.length_append, o2, r1], by rw [List.length_append, o3, hy.1], fun y hy => (List.mem_append.1 hy).elim (o4 y) (r2 y), fun j vs x a b => ?_⟩, hbel, hg, ha⟩
  by_cases hj : j < n
  · rw [List.getElem?_append_left (by omega)] at a b
    exact o5 j vs x a b
  · rw [List.getElem?_append_right (by omega)] at a b
    rw [o2] at a
    rw [o3] at b
    exact r3 (j - n) vs x a b
end

/-- Cells of slices. -/
def AlP (w : World) (R : Nat → Prop) (vs : List Value) (l : List Mat) : Prop := ∃ A n c, vs = [.slice A n c] ∧ Ms w R A n c l
def AnP (w : World) (R : Nat → Prop) (vs : List Value) (l : List (List Mat)) : Prop := ∃ A n c, vs = [.slice A n c] ∧ Als w R A n c l
theorem AlP.one {w : World} {R : Nat → Prop} (vs : List Value) (l : List Mat) (h : AlP w R vs l) : ∀ v ∈ vs, v.oneCell' = true := by
  obtain ⟨A, n, c, rfl, _⟩ := h
  intro v hv
  simp at hv
  subst hv
  rfl
theorem AnP.one {w : World} {R : Nat → Prop} (vs : List Value) (l : List (List Mat)) (h : AnP w R vs l) : ∀ v ∈ vs, v.oneCell' = true := by
  obtain ⟨A, n, c, rfl, _⟩ := h
  intro v hv
  simp at hv
  subst hv
  rfl
theorem AnP.keep {w w' : World} {R R' : Nat → Prop} {vs : List Value} {l : List (List Mat)} (h : AnP w R vs l) (hk : Kept R w w') (hR : ∀ b, R b → b < w.heap.size → R' b) : AnP w' R' vs l := by
  obtain ⟨A, n, c, e, h⟩ := h
  exact ⟨A, n, c, e, h.keep hk hR⟩
theorem AlP.keep {w w' : World} {R R' : Nat → Prop} {vs : List Value} {l : List Mat} (h : AlP w R vs l) (hk : Kept R w w') (hR : ∀ b, R b → b < w.heap.size → R' b) : AlP w' R' vs l := by
  obtain ⟨A, n, c, e, h⟩ := h
  exact ⟨A, n, c, e, h.keep hk hR⟩
theorem s1info : (Try.prog.info? 37).map (fun i => (i.zero, i.size, i.bytes)) = some (some (.slice none 0 0), 1, 24) := by kernel_rfl
theorem s0info : (Try.prog.info? 36).map (fun i => (i.zero, i.size, i.bytes)) = some (some (.slice none 0 0), 1, 24) := by kernel_rfl
/-- append to a target. -/
theorem append_anys {w : World} {base n c m c2 ty : Nat} {R R2 : Nat → Prop} {A A2 : Option Addr} {xs ys : Tgt} (h : Ow 1 (AnP w R2) w base 37 A n c xs) (hy : Rw 1 (AnP w R2) w R A2 m c2 ys) (hn : n + m ≤ 1000000) (hbase : base ≤ w.heap.size) :
    ∃ A' c' w', (Builtin.append_ #[34, 34] ty #[.slice A n c, .slice A2 m c2]).run Try.prog w = .ok (.slice A' (n + m) c') w' ∧ Ow 1 (AnP w R2) w' base 37 A' (n + m) c' (xs ++ ys) ∧ Below base w w' ∧ w.grownBy w' (Value.slice A n c).ownBlock ∧
      ((Value.slice A' (n + m) c').ownBlock = (Value.slice A n c).ownBlock ∨ (Value.slice A' (n + m) c').ownBlock = some w.heap.size) := by
  obtain ⟨i, hi, hz, hs, hb⟩ := info_of s1info
  exact Ow.app Try.underlying34 hi hz hs hb rfl (by omega) (by omega) h hy AnP.one hn hbase
theorem any_mono {w : World} {R : Nat → Prop} {A : Option Addr} {n c : Nat} {l : Tgt} (h : Tg w R A n c l) : Tg w (fun b => b < w.heap.size) A n c l := h.keep (Kept.refl _ _) fun _ _ h => h

/-- append(append(Target{}, a...), b...). -/
theorem both_tg {w : World} {R : Nat → Prop} {A0 A1 : Option Addr} {p0 c0 p1 c1 q : Nat} {L0 L1 : Tgt} (h0 : Tg w R A0 p0 c0 L0) (h1 : Tg w R A1 p1 c1 L1) (h : p0 + p1 ≤ 1000000) (hq : q = p0 + p1) :
    ∃ A5 c5 w5 A6 c6 w6, (Builtin.append_ #[34, 34] 34 #[.slice (some ⟨w.heap.size, 0, none⟩) 0 0, .slice A0 p0 c0]).run Try.prog (w.alloc (.cells #[] 37)) = .ok (.slice A5 p0 c5) w5 ∧
      (Builtin.append_ #[34, 34] 34 #[.slice A5 p0 c5, .slice A1 p1 c1]).run Try.prog w5 = .ok (.slice A6 q c6) w6 ∧ Below w.heap.size w w6 ∧ Tg w6 (fun _ => True) A6 q c6 (L0 ++ L1) := by
  subst hq
  have e1 : Below w.heap.size w (w.alloc (.cells #[] 37)) := (Below.refl _ _).alloc (Nat.le_refl _) _
  have hlow0 := h0.keep (Kept.all e1 R) (fun b _ hb => hb) (R' := fun b => b < w.heap.size)
  obtain ⟨A5, c5, w5, r5, o5, b5, _, _⟩ := append_anys (ty := 34) (xs := []) (Ow.made 1 (AnP (w.alloc (.cells #[] 37)) (fun b => b < w.heap.size)) w 37) hlow0 (by omega) e1.size
  rw [Nat.zero_add] at r5 o5
  have e5 := e1.trans b5
  have o5' := o5.mapP (P' := AnP w5 (fun b => b < w.heap.size)) (fun vs x _ hp => hp.keep (Kept.below b5 (fun b hb _ => hb)) (fun b hb _ => hb))
  have hlow1 := h1.keep (Kept.all e5 R) (fun b _ hb => hb) (R' := fun b => b < w.heap.size)
  obtain ⟨A6, c6, w6, r6, o6, b6, _, _⟩ := append_anys (ty := 34) o5' hlow1 h e5.size
  refine ⟨A5, c5, w5, A6, c6, w6, r5, r6, e5.trans b6, ?_⟩
  exact (o6.mapP (P' := AnP w6 (fun _ => True)) (fun vs x _ hp => hp.keep (Kept.below b6 (fun b hb _ => hb)) (fun _ _ _ => trivial))).rw (by omega) (fun _ _ _ => trivial)
/-- append(append(Target{}, a...), nil). -/
theorem hollow_tg {w : World} {R : Nat → Prop} {A0 : Option Addr} {p0 c0 : Nat} {L0 : Tgt} (h0 : Tg w R A0 p0 c0 L0) (h : p0 < 1000000) :
    ∃ A5 c5 w5 A6 c6 w6, (Builtin.append_ #[34, 34] 34 #[.slice (some ⟨w.heap.size, 0, none⟩) 0 0, .slice A0 p0 c0]).run Try.prog (w.alloc (.cells #[] 37)) = .ok (.slice A5 p0 c5) w5 ∧
      (Builtin.append_ #[34, 34] 34 #[.slice A5 p0 c5, .slice (some ⟨w5.heap.size, 0, none⟩) 1 1]).run Try.prog (w5.alloc (.cells #[.slice none 0 0] 37)) = .ok (.slice A6 (p0 + 1) c6) w6 ∧ Below w.heap.size w w6 ∧ Tg w6 (fun _ => True) A6 (p0 + 1) c6 (L0 ++ [[]]) := by
  have e1 : Below w.heap.size w (w.alloc (.cells #[] 37)) := (Below.refl _ _).alloc (Nat.le_refl _) _
  have hlow0 := h0.keep (Kept.all e1 R) (fun b _ hb => hb) (R' := fun b => b < w.heap.size)
  obtain ⟨A5, c5, w5, r5, o5, b5, _, _⟩ := append_anys (ty := 34) (xs := []) (Ow.made 1 (AnP (w.alloc (.cells #[] 37)) (fun b => b < w.heap.size)) w 37) hlow0 (by omega) e1.size
  rw [Nat.zero_add] at r5 o5
  have e5 := e1.trans b5
  have b7 : Below w5.heap.size w5 (w5.alloc (.cells #[.slice none 0 0] 37)) := (Below.refl _ _).alloc (Nat.le_refl _) _
  have o5' := (o5.mapP (P' := AnP (w5.alloc (.cells #[.slice none 0 0] 37)) (fun b => b < w.heap.size)) (fun vs x _ hp => hp.keep (Kept.below (b5.trans (b7.mono e5.size)) (fun b hb _ => hb)) (fun b hb _ => hb))).alloc (.cells #[.slice none 0 0] 37)
  have hlit : Rw 1 (AnP (w5.alloc (.cells #[.slice none 0 0] 37)) (fun b => b < w.heap.size)) (w5.alloc (.cells #[.slice none 0 0] 37)) (fun _ => True) (some ⟨w5.heap.size, 0, none⟩) 1 1 [[]] :=
    Rw.lit (k := 1) w5 37 (fun _ => [.slice none 0 0]) [[]] (n := 1) rfl (by omega) trivial (fun _ _ => rfl) (fun x hx => ⟨none, 0, 0, rfl, by simp at hx; subst hx; exact Rw.nil_ _ _ _ _⟩)
  obtain ⟨A6, c6, w6, r6, o6, b6, _, _⟩ := append_anys (ty := 34) o5' hlit (by omega) (e5.trans (b7.mono e5.size)).size
  refine ⟨A5, c5, w5, A6, c6, w6, r5, r6, (e5.trans (b7.mono e5.size)).trans b6, ?_⟩
  exact (o6.mapP (P' := AnP w6 (fun _ => True)) (fun vs x _ hp => hp.keep (Kept.below b6 (fun b hb _ => hb)) (fun _ _ _ => trivial))).rw (by omega) (fun _ _ _ => trivial)
end Go.Proofs.Ytjpkemamfccfdaa
/- Rows of the call's own that grow by one, whose elements lead to memory apart from the row itself. -/
namespace Go.Proofs.Ytjpkemamfccfdaa
set_option linter.unusedVariables false
open Go.RowKit

/-- The blocks from base on but for the row's own. -/
def Nb (base : Nat) (v : Value) (b : Nat) : Prop := base ≤ b ∧ some b ≠ v.ownBlock
/-- Elements that are kept where the memory that they lead to is. -/
def Keeps {α : Type} (P : World → (Nat → Prop) → List Value → α → Prop) : Prop :=
  ∀ (w w' : World) (R R' : Nat → Prop) vs x, P w R vs x → Kept R w w' → (∀ b, R b → b < w.heap.size → R' b) → P w' R' vs x
def Gr {α : Type} (k : Nat) (P : World → (Nat → Prop) → List Value → α → Prop) (w : World) (base : Nat) (E : TypeId) (A : Option Addr) (n c : Nat) (l : List α) : Prop :=
  Ow k (P w (Nb base (.slice A n c))) w base E A n c l ∧ base ≤ w.heap.size

section
variable {α : Type} {k : Nat} {P : World → (Nat → Prop) → List Value → α → Prop} {w w' : World} {base : Nat} {E : TypeId} {A : Option Addr} {n c : Nat} {l : List α}
theorem Ow.lt {P : List Value → α → Prop} (h : Ow k P w base E A n c l) : ∀ b, (Value.slice A n c).ownBlock = some b → base ≤ b ∧ b < w.heap.size := by
  obtain ⟨raw, h1, _⟩ := h
  exact h1.lt
theorem Gr.nil (w : World) (base : Nat) (hb : base ≤ w.heap.size) : Gr k P w base E none 0 0 [] := ⟨Ow.nil _ _ _ _ _, hb⟩
theorem Gr.len (h : Gr k P w base E A n c l) : l.length = n := h.1.len
theorem Gr.below (hP : Keeps P) (h : Gr k P w base E A n c l) (hb : Below w.heap.size w w') : Gr k P w' base E A n c l :=
  ⟨(h.1.mapP (fun vs x _ hp => hP _ _ _ _ vs x hp (Kept.all hb _) (fun _ h _ => h))).below hb, Nat.le_trans h.2 hb.size⟩
/-- It reads as its list; row and elements lie from base on. -/
theorem Gr.rw (hP : Keeps P) (h : Gr k P w base E A n c l) (hbig : n ≤ 140737488351232) : Rw k (P w (fun b => base ≤ b)) w (fun b => base ≤ b) A n c l :=
  (h.1.mapP (fun vs x _ hp => hP _ _ _ (fun b => base ≤ b) vs x hp (Kept.refl _ _) (fun _ h _ => h.1))).rw hbig (fun _ _ h => h)
/-- One more, laid behind as a literal. -/
theorem Gr.push {Pg : Program} {T : TypeId} {i : TypeInfo} {z : Value} {by_ : Nat} (ht : Pg.underlying T = some (.slice E)) (hi : Pg.info? E = some i) (hz : i.zero = some z) (hs : i.size = k) (hb : i.bytes = by_) (hzs : z.cells.size = k) (hk : 0 < k) (hby : by_ ≤ 1000)
    {ty : Nat} {vs : List Value} {x : α} (hP : Keeps P) (h : Gr k P w base E A n c l) (hx : P w (Nb base (.slice A n c)) vs x) (hl : vs.length = k) (h1 : ∀ w R vs (x : α), P w R vs x → ∀ v ∈ vs, v.oneCell' = true) (hn : n < 1000000) :
    ∃ A' c' w', (Builtin.append_ #[T, T] ty #[.slice A n c, .slice (some ⟨w.heap.size, 0, none⟩) 1 1]).run Pg (w.alloc (.cells vs.toArray E)) = .ok (.slice A' (n + 1) c') w' ∧ Gr k P w' base E A' (n + 1) c' (l ++ [x]) ∧ Below base w w' := by
  have hbase := h.2
  have a1 : Below w.heap.size w (w.alloc (.cells vs.toArray E)) := (Below.refl _ _).alloc (Nat.le_refl _) _
  have h' := Gr.below hP h a1
  have hlit : Rw k (P (w.alloc (.cells vs.toArray E)) (Nb base (.slice A n c))) (w.alloc (.cells vs.toArray E)) (fun _ => True) (some ⟨w.heap.size, 0, none⟩) 1 1 [x] := by
    have := Rw.lit (P := P (w.alloc (.cells vs.toArray E)) (Nb base (.slice A n c))) (R := fun _ => True) w E (fun _ => vs) [x] (n := 1) rfl (by omega) trivial (fun _ _ => hl) (fun y hy => by simp at hy; subst hy; exact hP _ _ _ _ _ _ hx (Kept.all a1 _) (fun _ h _ => h))
    simpa using this
  obtain ⟨A', c', w', hrun, hown, hbel, hg, hob⟩ := Ow.app (ty := ty) ht hi hz hs hb hzs hk hby h'.1 hlit (h1 _ _) (by omega) h'.2
  refine ⟨A', c', w', hrun, ⟨hown.mapP fun vs x _ hp => hP _ _ _ _ vs x hp ⟨hg.size, fun b hR hlt => hg.block b hlt hR.2⟩ (fun b hR hlt => ⟨hR.1, ?_⟩), Nat.le_trans h'.2 hbel.size⟩, (a1.mono hbase).trans hbel⟩
  rcases hob with e | e
  · rw [e]; exact hR.2
  · rw [e]
    intro he
    injection he with he
    omega
end
theorem keeps_alp : Keeps AlP := fun _ _ _ _ _ _ h hk hR => h.keep hk hR
theorem keeps_anp : Keeps AnP := fun _ _ _ _ _ _ h hk hR => h.keep hk hR
theorem keeps_rul : Keeps RulAt := fun _ _ _ _ _ _ h hk hR => h.keep hk hR
theorem keeps_pol (d : Nat) : Keeps (fun w R => PolAt w R d) := fun _ _ _ _ _ _ h hk hR => PolAt.keep hk hR h
theorem matinfo : (Try.prog.info? 28).map (fun i => (i.zero, i.size, i.bytes)) = some (some (.agg #[.int .i64 0, .string ⟨#[]⟩, .bool false, .int .i64 0, .int .i64 0, .int .i64 0, .string ⟨#[]⟩]), 7, 72) := by kernel_rfl
/-- append([]Match{}, a...). -/
theorem copy_mats {w : World} {R : Nat → Prop} {A0 : Option Addr} {p0 c0 : Nat} {L0 : List Mat} (h0 : Ms w R A0 p0 c0 L0) (h : p0 ≤ 1000000) :
    ∃ A5 c5 w5, (Builtin.append_ #[36, 36] 36 #[.slice (some ⟨w.heap.size, 0, none⟩) 0 0, .slice A0 p0 c0]).run Try.prog (w.alloc (.cells #[] 28)) = .ok (.slice A5 p0 c5) w5 ∧ Below w.heap.size w w5 ∧ Ms w5 (fun b => w.heap.size ≤ b) A5 p0 c5 L0 := by
  have e1 : Below w.heap.size w (w.alloc (.cells #[] 28)) := (Below.refl _ _).alloc (Nat.le_refl _) _
  obtain ⟨i, hi, hz, hs, hb⟩ := info_of matinfo
  obtain ⟨A5, c5, w5, r5, o5, b5, _, _⟩ := append_rows (ty := 36) (c2 := c0) (m := p0) Try.underlying36 hi hz hs hb rfl (by omega) (by omega) (own_none w 28 7) (Ms.fl (h0.keep (Kept.all e1 R) (fun _ h _ => h))) (by omega) e1.size
  rw [Nat.zero_add] at r5 o5
  refine ⟨A5, c5, w5, r5, e1.trans b5, ?_⟩
  exact Rw.flat_own o5 (by omega) (Rw.len h0) (fun _ => rfl) (Rw.all h0) (fun _ _ h => h)
theorem copy_duts {w : World} {R : Nat → Prop} {A0 : Option Addr} {p0 c0 : Nat} {L0 : List Dut} (h0 : Dus w R A0 p0 c0 L0) (h : p0 ≤ 1000000) :
    ∃ A5 c5 w5, (Builtin.append_ #[72, 72] 72 #[.slice (some ⟨w.heap.size, 0, none⟩) 0 0, .slice A0 p0 c0]).run Try.prog (w.alloc (.cells #[] 116)) = .ok (.slice A5 p0 c5) w5 ∧ Below w.heap.size w w5 ∧ Dus w5 (fun b => w.heap.size ≤ b) A5 p0 c5 L0 := by
  have e1 : Below w.heap.size w (w.alloc (.cells #[] 116)) := (Below.refl _ _).alloc (Nat.le_refl _) _
  obtain ⟨A5, c5, w5, r5, o5, b5, _, _⟩ := append_duts (ty := 72) (xs := []) (own_none w 116 3) (h0.keep (Kept.all e1 R) (fun _ h _ => h)) (by omega) e1.size
  rw [Nat.zero_add] at r5 o5
  refine ⟨A5, c5, w5, r5, e1.trans b5, ?_⟩
  exact Rw.flat_own o5 (by omega) (Rw.len h0) (fun _ => rfl) (Rw.all h0) (fun _ _ h => h)
theorem copy_nods {w : World} {R : Nat → Prop} {A0 : Option Addr} {p0 c0 : Nat} {L0 : List Nod} (h0 : Nds w R A0 p0 c0 L0) (h : p0 ≤ 1000000) :
    ∃ A5 c5 w5, (Builtin.append_ #[109, 109] 109 #[.slice (some ⟨w.heap.size, 0, none⟩) 0 0, .slice A0 p0 c0]).run Try.prog (w.alloc (.cells #[] 113)) = .ok (.slice A5 p0 c5) w5 ∧ Below w.heap.size w w5 ∧ Nds w5 (fun b => w.heap.size ≤ b) A5 p0 c5 L0 := by
  have e1 : Below w.heap.size w (w.alloc (.cells #[] 113)) := (Below.refl _ _).alloc (Nat.le_refl _) _
  obtain ⟨A5, c5, w5, r5, o5, b5, _, _⟩ := append_nods (ty := 109) (xs := []) (own_none w 113 7) (h0.keep (Kept.all e1 R) (fun _ h _ => h)) (by omega) e1.size
  rw [Nat.zero_add] at r5 o5
  refine ⟨A5, c5, w5, r5, e1.trans b5, ?_⟩
  exact Rw.flat_own o5 (by omega) (Rw.len h0) (fun _ => rfl) (Rw.all h0) (fun _ _ h => h)
/-- One more AllOf, one more AnyOf. -/
theorem push_all {w : World} {base n c : Nat} {A : Option Addr} {l : List (List Mat)} {A1 : Option Addr} {n1 c1 : Nat} {x : List Mat} (h : Gr 1 AlP w base 36 A n c l) (hx : Ms w (Nb base (.slice A n c)) A1 n1 c1 x) (hn : n < 1000000) :
    ∃ A' c' w', (Builtin.append_ #[37, 37] 37 #[.slice A n c, .slice (some ⟨w.heap.size, 0, none⟩) 1 1]).run Try.prog (w.alloc (.cells #[.slice A1 n1 c1] 36)) = .ok (.slice A' (n + 1) c') w' ∧ Gr 1 AlP w' base 36 A' (n + 1) c' (l ++ [x]) ∧ Below base w w' := by
  obtain ⟨i, hi, hz, hs, hb⟩ := info_of s0info
  exact Gr.push (vs := [.slice A1 n1 c1]) (x := x) Try.underlying37 hi hz hs hb rfl (by omega) (by omega) keeps_alp h ⟨A1, n1, c1, rfl, hx⟩ rfl (fun _ _ _ _ => AlP.one _ _) hn
theorem push_any {w : World} {base n c : Nat} {A : Option Addr} {l : Tgt} {A1 : Option Addr} {n1 c1 : Nat} {x : List (List Mat)} (h : Gr 1 AnP w base 37 A n c l) (hx : Als w (Nb base (.slice A n c)) A1 n1 c1 x) (hn : n < 1000000) :
    ∃ A' c' w', (Builtin.append_ #[34, 34] 34 #[.slice A n c, .slice (some ⟨w.heap.size, 0, none⟩) 1 1]).run Try.prog (w.alloc (.cells #[.slice A1 n1 c1] 37)) = .ok (.slice A' (n + 1) c') w' ∧ Gr 1 AnP w' base 37 A' (n + 1) c' (l ++ [x]) ∧ Below base w w' := by
  obtain ⟨i, hi, hz, hs, hb⟩ := info_of s1info
  exact Gr.push (vs := [.slice A1 n1 c1]) (x := x) Try.underlying34 hi hz hs hb rfl (by omega) (by omega) keeps_anp h ⟨A1, n1, c1, rfl, hx⟩ rfl (fun _ _ _ _ => AnP.one _ _) hn
/-- What is new lies apart from a row that is older. -/
theorem Gr.apart {α : Type} {k : Nat} {P : World → (Nat → Prop) → List Value → α → Prop} {w : World} {base : Nat} {E : TypeId} {A : Option Addr} {n c : Nat} {l : List α} (h : Gr k P w base E A n c l) : ∀ b, w.heap.size ≤ b → Nb base (.slice A n c) b := fun b hb => by
  refine ⟨Nat.le_trans h.2 hb, fun e => ?_⟩
  have := (h.1.lt b e.symm).2
  omega
/-- A block that is known to be empty is a row of the call's own. -/
theorem own_ob {V : World} {E : TypeId} {k g base : Nat} (h : Ob V g E #[]) (hb : base ≤ g) : V.ownsRow base E k (.slice (some ⟨g, 0, none⟩) 0 0) 0 [] :=
  ⟨by simp, .inr ⟨g, 0, #[], rfl, hb, h, Nat.le_refl _, by simp [maxLen], by simp, by simp⟩⟩
/-- append to an empty row that was laid before. -/
theorem copy_duts_at {V : World} {R : Nat → Prop} {A0 : Option Addr} {p0 c0 g : Nat} {L0 : List Dut} (hg : Ob V g 116 #[]) (h0 : Dus V R A0 p0 c0 L0) (h : p0 ≤ 1000000) (hlt : g ≤ V.heap.size) :
    ∃ A5 c5 w5, (Builtin.append_ #[72, 72] 72 #[.slice (some ⟨g, 0, none⟩) 0 0, .slice A0 p0 c0]).run Try.prog V = .ok (.slice A5 p0 c5) w5 ∧ Below g V w5 ∧ Dus w5 (fun b => b = g ∨ b = V.heap.size) A5 p0 c5 L0 ∧ Kept (fun b => b ≠ g) V w5 := by
  obtain ⟨A5, c5, w5, r5, o5, b5, g5, t5⟩ := append_duts (ty := 72) (xs := []) (own_ob hg (Nat.le_refl g)) h0 (by omega) hlt
  rw [Nat.zero_add] at r5 o5
  exact ⟨A5, c5, w5, r5, b5, Rw.flat_own o5 (by omega) (Rw.len h0) (fun _ => rfl) (Rw.all h0) (fun ad e _ => by subst e; exact t5.elim (fun h => .inl (by injection h)) (fun h => .inr (by injection h))), g5.size, fun b hb hlt => g5.block b hlt (fun e => hb (by injection e))⟩
theorem copy_nods_at {V : World} {R : Nat → Prop} {A0 : Option Addr} {p0 c0 g : Nat} {L0 : List Nod} (hg : Ob V g 113 #[]) (h0 : Nds V R A0 p0 c0 L0) (h : p0 ≤ 1000000) (hlt : g ≤ V.heap.size) :
    ∃ A5 c5 w5, (Builtin.append_ #[109, 109] 109 #[.slice (some ⟨g, 0, none⟩) 0 0, .slice A0 p0 c0]).run Try.prog V = .ok (.slice A5 p0 c5) w5 ∧ Below g V w5 ∧ Nds w5 (fun b => b = g ∨ b = V.heap.size) A5 p0 c5 L0 ∧ Kept (fun b => b ≠ g) V w5 := by
  obtain ⟨A5, c5, w5, r5, o5, b5, g5, t5⟩ := append_nods (ty := 109) (xs := []) (own_ob hg (Nat.le_refl g)) h0 (by omega) hlt
  rw [Nat.zero_add] at r5 o5
  exact ⟨A5, c5, w5, r5, b5, Rw.flat_own o5 (by omega) (Rw.len h0) (fun _ => rfl) (Rw.all h0) (fun ad e _ => by subst e; exact t5.elim (fun h => .inl (by injection h)) (fun h => .inr (by injection h))), g5.size, fun b hb hlt => g5.block b hlt (fun e => hb (by injection e))⟩
end Go.Proofs.Ytjpkemamfccfdaa
/- Lists of values of the call's own: append. -/
namespace Go.Proofs.Ytjpkemamfccfdaa
set_option linter.unusedVariables false
open Go.RowKit

def cells3 : List Vl → List Value
  | [] => []
  | v :: r => .int .i64 v.k :: .int .i64 v.n :: .string v.s :: cells3 r
theorem cells3_len (l : List Vl) : (cells3 l).length = l.length * 3 := by
  induction l with
  | nil => rfl
  | cons v r ih => simp [cells3, ih]; omega
theorem cells3_app (l m : List Vl) : cells3 (l ++ m) = cells3 l ++ cells3 m := by
  induction l with
  | nil => rfl
  | cons v r ih => simp [cells3, ih]
theorem cells3_one {l : List Vl} : ∀ v ∈ cells3 l, v.oneCell' = true := by
  induction l with
  | nil => intro v hv; cases hv
  | cons x r ih =>
    intro v hv
    simp only [cells3, List.mem_cons] at hv
    rcases hv with rfl | rfl | rfl | hv
    · rfl
    · rfl
    · rfl
    · exact ih v hv
theorem cells3_at {l : List Vl} {j : Nat} {v : Vl} (h : l[j]? = some v) : (cells3 l)[j * 3]? = some (.int .i64 v.k) ∧ (cells3 l)[j * 3 + 1]? = some (.int .i64 v.n) ∧ (cells3 l)[j * 3 + 2]? = some (.string v.s) := by
  induction l generalizing j with
  | nil => simp at h
  | cons x r ih =>
    cases j with
    | zero => simp at h; subst h; exact ⟨rfl, rfl, rfl⟩
    | succ j =>
      simp at h
      obtain ⟨a, b, c⟩ := ih h
      have e : (j + 1) * 3 = j * 3 + 1 + 1 + 1 := by omega
      rw [e]
      exact ⟨by simpa [cells3] using a, by simpa [cells3] using b, by simpa [cells3] using c⟩
theorem cells3_of {l : List Vl} {i : Nat} {u : Value} (h : (cells3 l)[i]? = some u) : ∃ j v, l[j]? = some v ∧ (i = j * 3 ∧ u = .int .i64 v.k ∨ i = j * 3 + 1 ∧ u = .int .i64 v.n ∨ i = j * 3 + 2 ∧ u = .string v.s) := by
  have hi : i < l.length * 3 := by rw [← cells3_len]; exact (List.getElem?_eq_some_iff.1 h).1
  have hj : i / 3 < l.length := by omega
  obtain ⟨a, b, c⟩ := cells3_at (List.getElem?_eq_getElem hj)
  refine ⟨i / 3, l[i / 3], List.getElem?_eq_getElem hj, ?_⟩
  have hm : i = i / 3 * 3 ∨ i = i / 3 * 3 + 1 ∨ i = i / 3 * 3 + 2 := by omega
  rcases hm with e | e | e
  · rw [← e, h] at a; exact .inl ⟨e, Option.some.inj a⟩
  · rw [← e, h] at b; exact .inr (.inl ⟨e, Option.some.inj b⟩)
  · rw [← e, h] at c; exact .inr (.inr ⟨e, Option.some.inj c⟩)

theorem valinfo : (Try.prog.info? 25).map (fun i => (i.zero, i.size, i.bytes)) = some (some (.agg #[.int .i64 0, .int .i64 0, .string ⟨#[]⟩]), 3, 32) := by kernel_rfl
theorem val_parts : ∃ i, Try.prog.info? 25 = some i ∧ i.zero = some (.agg #[.int .i64 0, .int .i64 0, .string ⟨#[]⟩]) ∧ i.size = 3 ∧ i.bytes = 32 := by
  have h := valinfo
  cases hi : Try.prog.info? 25 with
  | none => rw [hi] at h; cases h
  | some i =>
    rw [hi] at h
    simp only [Option.map_some, Option.some.injEq, Prod.mk.injEq] at h
    exact ⟨i, rfl, h.1, h.2.1, h.2.2⟩

/-- A list of the call's own reads as its values. -/
theorem Vs.of_own {w : World} {base n c : Nat} {A : Option Addr} {l : List Vl} (h : w.ownsRow base 25 3 (.slice A n c) n (cells3 l)) (hok : ∀ v ∈ l, v.ok) : Vs w w.heap.size A n c l := by
  have hl : l.length = n := by have := h.1; rw [cells3_len] at this; omega
  rcases h.2 with ⟨hv, hn⟩ | ⟨g, cap, cur, hv, hb, hg, hnc, hcm, hcs, ht⟩
  · injection hv with h1 h2 h3
    subst h1 h2 h3
    exact ⟨hl, Nat.le_refl _, by simp [maxLen], .inl rfl, hok⟩
  · injection hv with h1 h2 h3
    subst h1 h3
    refine ⟨hl, hnc, hcm, .inr ⟨g, 0, rfl, ?_, fun j v hv => ?_⟩, hok⟩
    · rcases Nat.lt_or_ge g w.heap.size with hlt | hge
      · exact hlt
      · rw [Array.getElem?_eq_none hge] at hg; cases hg
    · have add : ∀ j : Nat, (⟨g, 0, none⟩ : Addr).add j = ⟨g, 0 + j, none⟩ := fun j => by by_cases hj : j = 0 <;> simp [Addr.add, hj]
      obtain ⟨a, b, c⟩ := cells3_at hv
      have h1 := h.cells (g := g) rfl (j * 3) _ a
      have h2 := h.cells (g := g) rfl (j * 3 + 1) _ b
      have h3 := h.cells (g := g) rfl (j * 3 + 2) _ c
      rw [add] at h1 h2 h3
      exact ⟨h1, h2, h3⟩

/-- append(out, l...) of values that lie somewhere. -/
theorem append_vals {w : World} {base B n c m c2 ty : Nat} {A A2 : Option Addr} {xs ys : List Vl} (h : w.ownsRow base 25 3 (.slice A n c) n (cells3 xs)) (hy : Vs w B A2 m c2 ys) (hn : n + m ≤ 1000000) (hbase : base ≤ w.heap.size) :
    ∃ A' c' w', (Builtin.append_ #[45, 45] ty #[.slice A n c, .slice A2 m c2]).run Try.prog w = .ok (.slice A' (n + m) c') w' ∧
      w'.ownsRow base 25 3 (.slice A' (n + m) c') (n + m) (cells3 (xs ++ ys)) ∧ Below base w w' ∧ w.grownBy w' (Value.slice A n c).ownBlock := by
  obtain ⟨i, hi, hz, hs, hb⟩ := val_parts
  have hlen := hy.1
  have fin : ∀ (ad : Addr), A2 = some ad → (∀ j u, (cells3 ys)[j]? = some u → w.cell? (ad.add j) = some u) → ∃ A' c' w', (Builtin.append_ #[45, 45] ty #[.slice A n c, .slice A2 m c2]).run Try.prog w = .ok (.slice A' (n + m) c') w' ∧
      w'.ownsRow base 25 3 (.slice A' (n + m) c') (n + m) (cells3 (xs ++ ys)) ∧ Below base w w' ∧ w.grownBy w' (Value.slice A n c).ownBlock := by
    rintro ad rfl hc
    obtain ⟨v', w', hrun, h2, h3, h4⟩ := run_append_own (P := Try.prog) w base 45 ty 25 i _ 3 32 Try.underlying45 hi hz hs hb rfl (by omega) (.slice A n c) n (cells3 xs) h
      ad m c2 (cells3 ys) (by rw [cells3_len, hlen]) hc cells3_one (by unfold maxLen; omega) (by omega) hbase
    have hform : ∃ A' c', v' = .slice A' (n + m) c' := by
      rcases h2.2 with ⟨hv, hz⟩ | ⟨g, cap, cur, hv, _⟩
      · exact ⟨_, _, by rw [hv, hz]⟩
      · exact ⟨_, _, hv⟩
    obtain ⟨A', c', rfl⟩ := hform
    exact ⟨A', c', w', hrun, by rw [cells3_app]; exact h2, (Below.refl base w).grown h3 hbase (fun k hk => (h.lt k hk).1), h3⟩
  rcases hy.2.2.2.1 with h0 | ⟨b, o, e, hb', hc⟩
  · subst h0
    obtain rfl : ys = [] := List.eq_nil_of_length_eq_zero hlen
    rcases A2 with _ | ad
    · exact ⟨A, c, w, append_nil_src Try.underlying45 hi h, by simpa using h, Below.refl _ _, ⟨rfl, rfl, rfl, Nat.le_refl _, fun _ _ _ => rfl⟩⟩
    · exact fin ad rfl (fun j u hu => by simp [cells3] at hu)
  · refine fin _ e fun j u hu => ?_
    have add : ∀ j : Nat, (⟨b, o, none⟩ : Addr).add j = ⟨b, o + j, none⟩ := fun j => by by_cases hj : j = 0 <;> simp [Addr.add, hj]
    rw [add]
    obtain ⟨i', v, hv, hcase⟩ := cells3_of hu
    obtain ⟨c0, c1, c2⟩ := hc i' v hv
    rcases hcase with ⟨rfl, rfl⟩ | ⟨rfl, rfl⟩ | ⟨rfl, rfl⟩
    · exact c0
    · exact c1
    · exact c2

theorem Vs.keep1 {w w' : World} {B n c b o : Nat} {l : List Vl} (h : Vs w B (some ⟨b, o, none⟩) n c l) (hk : w'.heap[b]? = w.heap[b]?) : Vs w' B (some ⟨b, o, none⟩) n c l := by
  obtain ⟨h1, h2, h3, h4, h5⟩ := h
  refine ⟨h1, h2, h3, ?_, h5⟩
  rcases h4 with h4 | ⟨b', o', e, hb, hc⟩
  · exact .inl h4
  · injection e with e
    injection e with e1 e2
    subst e1 e2
    refine .inr ⟨b, o, rfl, hb, fun j v hv => ?_⟩
    obtain ⟨a1, a2, a3⟩ := hc j v hv
    exact ⟨(World.cell?_of_block hk).trans a1, (World.cell?_of_block hk).trans a2, (World.cell?_of_block hk).trans a3⟩

/-- append of values, as a step of a region that draws. -/
theorem step_append_vals {ops : Array Oper} {o : Oper} {a : Act} {w : World} {K : Act → World → Prop} {Q : Exit → Act → World → Prop} {E : Prop}
    {base B n c m c2 : Nat} {A A2 : Option Addr} {xs ys : List Vl} (N : Nat) (zs : List Vl) (hown : w.ownsRow base 25 3 (.slice A n c) n (cells3 xs)) (hsrc : Vs w B A2 m c2 ys) (hN : n + m = N) (hz : xs ++ ys = zs) (hn : N ≤ 1000000) (hbase : base ≤ w.heap.size)
    (hg : o.guard = none) (s x : Operand) (hop : o.op = Op.call { callee := Callee.builtin Builtin.append, args := #[s, x], argTypes := #[45, 45] })
    (hs : a.eval s = .slice A n c) (hx : a.eval x = .slice A2 m c2)
    (hK : ∀ A' c' w', w'.ownsRow base 25 3 (.slice A' N c') N (cells3 zs) → Below base w w' → w.grownBy w' (Value.slice A n c).ownBlock → K (a.put o.dst (.slice A' N c')) w') :
    if Region.wanted o (yielded ops a.tmps) = true then Oper.wp Try.prog o a w K Q else E := by
  subst hN hz
  obtain ⟨A', c', w', hrun, h1, h2, h3⟩ := append_vals (ty := o.type) hown hsrc hn hbase
  exact step_append_run hg s x _ _ hop hs hx hrun (hK A' c' w' h1 h2 h3)
theorem own_e1 (w : World) : (w.alloc (.cells #[] 25)).ownsRow w.heap.size 25 3 (.slice (some ⟨w.heap.size, 0, none⟩) 0 0) 0 (cells3 []) :=
  World.ownsRow_lit w #[] 0 (Nat.le_refl _) (by simp [maxLen]) rfl
theorem own_e2 (w : World) (o : Obj) : ((w.alloc (.cells #[] 25)).alloc o).ownsRow w.heap.size 25 3 (.slice (some ⟨w.heap.size, 0, none⟩) 0 0) 0 (cells3 []) :=
  (own_e1 w).alloc o
theorem own_e3 (w : World) (o : Obj) : ((w.alloc o).alloc (.cells #[] 25)).ownsRow (w.heap.size + 1) 25 3 (.slice (some ⟨w.heap.size + 1, 0, none⟩) 0 0) 0 (cells3 []) := by
  have := own_e1 (w.alloc o)
  rwa [size_al] at this
theorem lit_keep {w w6 : World} {v : Vl} (hv : v.ok) {B : Nat} (g : (((w.alloc (.cells #[] 25)).alloc (.cells #[.int .i64 v.k, .int .i64 v.n, .string v.s] 25)).drew).grownBy w6 (Value.slice (some ⟨w.heap.size, 0, none⟩) 0 B).ownBlock) :
    Vs w6 (w.heap.size + 2) (some ⟨w.heap.size + 1, 0, none⟩) 1 1 [v] := by
  have h := Vs.lit1 (w.alloc (.cells #[] 25)) v hv
  rw [size_al] at h
  refine h.keep1 (g.block _ ?_ ?_)
  · show _ < ((w.alloc _).alloc _).heap.size
    rw [size_al, size_al]
    omega
  · simp [Value.ownBlock]
theorem lit_below {w w6 : World} {v : Vl} (hv : v.ok) (b : Below (w.heap.size + 1) (((w.alloc (.cells #[.int .i64 v.k, .int .i64 v.n, .string v.s] 25)).alloc (.cells #[] 25)).drew) w6) :
    Vs w6 (w.heap.size + 1) (some ⟨w.heap.size, 0, none⟩) 1 1 [v] := by
  have h := Vs.lit1 w v hv
  have e : Below (w.heap.size + 1) (w.alloc (.cells #[.int .i64 v.k, .int .i64 v.n, .string v.s] 25)) ((w.alloc (.cells #[.int .i64 v.k, .int .i64 v.n, .string v.s] 25)).alloc (.cells #[] 25)) :=
    (Below.refl _ _).alloc (by rw [size_al]; exact Nat.le_refl _) _
  exact h.below ((below_drewN e 1).trans b)
theorem own_then {w w' : World} {base size n : Nat} {e : TypeId} {v : Value} {xs : List Value} (h : w.ownsRow base e size v n xs) (hb : Below w.heap.size w w') : w'.ownsRow base e size v n xs :=
  h.kept (row := none) ⟨hb.os, hb.tape, hb.output, hb.size, fun k hk _ => hb.block k hk⟩ (by by_cases hv : v.ownBlock = none; exact .inl hv; exact .inr hv)
theorem size_e3 (w : World) (x y : Obj) : w.heap.size + 1 ≤ (((w.alloc x).alloc y).drew).heap.size := by
  show _ ≤ ((w.alloc x).alloc y).heap.size
  rw [size_al, size_al]
  omega
end Go.Proofs.Ytjpkemamfccfdaa
/- Requests in memory: rows of attributes, each with its bag. -/
namespace Go.Proofs.Ytjpkemamfccfdaa
set_option linter.unusedVariables false
open Go.RowKit

/-- A row of values, in blocks that R lets in. -/
def Vls (w : World) (R : Nat → Prop) := Rw 3 (fun vs (v : Vl) => vs = v.cells ∧ v.ok) w R
/-- The cells of what is given. -/
def GivAt (w : World) (R : Nat → Prop) (vs : List Value) (g : Giv) : Prop := ∃ A n c, vs = [.int .i64 g.cat, .string g.name, .slice A n c] ∧ g.ok ∧ Vls w R A n c g.bag
def Gvs (w : World) (R : Nat → Prop) := Rw 3 (GivAt w R) w R
section
variable {w w' : World} {R R' : Nat → Prop} {A : Option Addr} {n c : Nat}
theorem Vls.keep {l : List Vl} (h : Vls w R A n c l) (hk : Kept R w w') (hR : ∀ b, R b → b < w.heap.size → R' b) : Vls w' R' A n c l := Rw.keep h hk hR fun _ _ _ h => h
theorem GivAt.keep {vs : List Value} {g : Giv} (h : GivAt w R vs g) (hk : Kept R w w') (hR : ∀ b, R b → b < w.heap.size → R' b) : GivAt w' R' vs g := by
  obtain ⟨A, n, c, e, h0, h1⟩ := h
  exact ⟨A, n, c, e, h0, h1.keep hk hR⟩
theorem Gvs.keep {l : List Giv} (h : Gvs w R A n c l) (hk : Kept R w w') (hR : ∀ b, R b → b < w.heap.size → R' b) : Gvs w' R' A n c l := Rw.keep h hk hR fun _ _ _ h => h.keep hk hR
theorem keeps_giv : Keeps GivAt := fun _ _ _ _ _ _ h hk hR => h.keep hk hR
theorem GivAt.one {w : World} {R : Nat → Prop} (vs : List Value) (g : Giv) (h : GivAt w R vs g) : ∀ v ∈ vs, v.oneCell' = true := by
  obtain ⟨A, n, c, rfl, _⟩ := h
  intro v hv
  simp at hv
  rcases hv with rfl | rfl | rfl <;> rfl
theorem Vl.one (v : Vl) : ∀ x ∈ v.cells, x.oneCell' = true := by
  intro x hx
  simp [Vl.cells] at hx
  rcases hx with rfl | rfl | rfl <;> rfl
theorem Vls.oks {l : List Vl} (h : Vls w R A n c l) : ∀ v ∈ l, v.ok := Rw.all h
theorem Vls.at_ {l : List Vl} (h : Vls w R A n c l) {j : Nat} (hj : j < n) : ∃ b o v, A = some ⟨b, o, none⟩ ∧ R b ∧ b < w.heap.size ∧ l[j]? = some v ∧ v.ok ∧
    (w.cell? ⟨b, o + j * 3, none⟩ = some (.int .i64 v.k) ∧ w.cell? ⟨b, o + j * 3 + 1, none⟩ = some (.int .i64 v.n) ∧ w.cell? ⟨b, o + j * 3 + 2, none⟩ = some (.string v.s)) := by
  obtain ⟨b, o, m, vs, e, hb, hlt, hm, hl, hv, rfl, hok⟩ := Rw.at_ h hj
  exact ⟨b, o, m, e, hb, hlt, hm, hok, hv 0 _ rfl, hv 1 _ rfl, hv 2 _ rfl⟩
theorem Gvs.at_ {l : List Giv} (h : Gvs w R A n c l) {j : Nat} (hj : j < n) : ∃ b o g A' n' c', A = some ⟨b, o, none⟩ ∧ R b ∧ b < w.heap.size ∧ l[j]? = some g ∧ g.ok ∧
    (w.cell? ⟨b, o + j * 3, none⟩ = some (.int .i64 g.cat) ∧ w.cell? ⟨b, o + j * 3 + 1, none⟩ = some (.string g.name) ∧ w.cell? ⟨b, o + j * 3 + 2, none⟩ = some (.slice A' n' c')) ∧ Vls w R A' n' c' g.bag := by
  obtain ⟨b, o, g, vs, e, hb, hlt, hm, hl, hv, A', n', c', rfl, hok, hin⟩ := Rw.at_ h hj
  exact ⟨b, o, g, A', n', c', e, hb, hlt, hm, hok, ⟨hv 0 _ rfl, hv 1 _ rfl, hv 2 _ rfl⟩, hin⟩
/-- As the texts of package value have it. -/
theorem Vls.vs {l : List Vl} (h : Vls w R A n c l) : Vs w w.heap.size A n c l := by
  refine ⟨Rw.len h, Rw.le h, Rw.cap h, ?_, h.oks⟩
  by_cases h0 : n = 0
  · exact .inl h0
  · right
    obtain ⟨b, o, v, e, hb, hlt, hv, _, _⟩ := h.at_ (j := 0) (by omega)
    refine ⟨b, o, e, hlt, fun j x hx => ?_⟩
    have hj : j < n := by have := (List.getElem?_eq_some_iff.1 hx).1; have := Rw.len h; omega
    obtain ⟨b', o', v', e', _, _, hv', _, c0, c1, c2⟩ := h.at_ hj
    rw [e] at e'
    injection e' with e'
    injection e' with e1 e2
    subst e1 e2
    rw [hx] at hv'
    injection hv' with hv'
    subst hv'
    exact ⟨c0, c1, c2⟩
theorem Vs.vls {B : Nat} {l : List Vl} (h : Vs w B A n c l) (hB : B ≤ w.heap.size) (hn : n ≤ 140737488351232) (hR : ∀ b o, A = some ⟨b, o, none⟩ → b < B → R b) : Vls w R A n c l := by
  obtain ⟨h1, h2, h3, h4, h5⟩ := h
  refine ⟨h1, h2, ⟨h3, hn⟩, ?_⟩
  rcases h4 with h4 | ⟨b, o, e, hb, hc⟩
  · exact .inl h4
  · refine .inr ⟨b, o, e, hR b o e hb, by omega, fun j x hx => ⟨x.cells, rfl, fun i v hi => ?_, rfl, h5 x (List.mem_of_getElem? hx)⟩⟩
    obtain ⟨c0, c1, c2⟩ := hc j x hx
    match i, hi with
    | 0, hi => injection hi with hi; subst hi; exact c0
    | 1, hi => injection hi with hi; subst hi; exact c1
    | 2, hi => injection hi with hi; subst hi; exact c2
    | i + 3, hi => simp [Vl.cells] at hi
theorem Gvs.oks {l : List Giv} (h : Gvs w R A n c l) : ∀ g ∈ l, g.ok ∧ ∀ v ∈ g.bag, v.ok := by
  intro g hg
  obtain ⟨j, hj, rfl⟩ := List.getElem_of_mem hg
  obtain ⟨b, o, x, A', n', c', e, _, _, hx, hok, _, hin⟩ := h.at_ (j := j) (by have := Rw.len h; omega)
  rw [List.getElem?_eq_getElem hj] at hx
  injection hx with hx
  rw [hx]
  exact ⟨hok, hin.oks⟩
end
theorem givinfo : (Try.prog.info? 48).map (fun i => (i.zero, i.size, i.bytes)) = some (some (.agg #[.int .i64 0, .string ⟨#[]⟩, .slice none 0 0]), 3, 48) := by kernel_rfl
/-- One more attribute behind a row of the call's own. -/
theorem push_giv {w : World} {base n c : Nat} {A : Option Addr} {l : List Giv} {A1 : Option Addr} {n1 c1 : Nat} {g : Giv} (h : Gr 3 GivAt w base 48 A n c l) (hok : g.ok) (hx : Vls w (Nb base (.slice A n c)) A1 n1 c1 g.bag) (hn : n < 1000000) :
    ∃ A' c' w', (Builtin.append_ #[30, 30] 30 #[.slice A n c, .slice (some ⟨w.heap.size, 0, none⟩) 1 1]).run Try.prog (w.alloc (.cells #[.int .i64 g.cat, .string g.name, .slice A1 n1 c1] 48)) = .ok (.slice A' (n + 1) c') w' ∧ Gr 3 GivAt w' base 48 A' (n + 1) c' (l ++ [g]) ∧ Below base w w' := by
  obtain ⟨i, hi, hz, hs, hb⟩ := info_of givinfo
  exact Gr.push (vs := [.int .i64 g.cat, .string g.name, .slice A1 n1 c1]) (x := g) Try.underlying30 hi hz hs hb rfl (by omega) (by omega) keeps_giv h ⟨A1, n1, c1, rfl, hok, hx⟩ rfl (fun _ _ _ _ => GivAt.one _ _) hn
/-- append([]Value{}, bag...). -/
theorem copy_bag {w : World} {R : Nat → Prop} {A0 : Option Addr} {p0 c0 : Nat} {L0 : List Vl} (h0 : Vls w R A0 p0 c0 L0) (h : p0 ≤ 1000000) :
    ∃ A5 c5 w5, (Builtin.append_ #[45, 45] 45 #[.slice (some ⟨w.heap.size, 0, none⟩) 0 0, .slice A0 p0 c0]).run Try.prog (w.alloc (.cells #[] 25)) = .ok (.slice A5 p0 c5) w5 ∧ Below w.heap.size w w5 ∧ Vls w5 (fun b => w.heap.size ≤ b) A5 p0 c5 L0 := by
  have e1 : Below w.heap.size w (w.alloc (.cells #[] 25)) := (Below.refl _ _).alloc (Nat.le_refl _) _
  obtain ⟨i, hi, hz, hs, hb⟩ := val_parts
  obtain ⟨A5, c5, w5, r5, o5, b5, _, _⟩ := append_rows (ty := 45) (c2 := c0) (m := p0) Try.underlying45 hi hz hs hb rfl (by omega) (by omega) (own_none w 25 3) (Rw.flat_fl (h0.keep (Kept.all e1 R) (fun _ h _ => h)) (by omega) Vl.one) (by omega) e1.size
  rw [Nat.zero_add] at r5 o5
  refine ⟨A5, c5, w5, r5, e1.trans b5, ?_⟩
  exact Rw.flat_own o5 (by omega) (Rw.len h0) (fun _ => rfl) (Rw.all h0) (fun _ _ h => h)
end Go.Proofs.Ytjpkemamfccfdaa
/- A value stored over another one in its block. -/
namespace Go.Proofs.Ytjpkemamfccfdaa
open Go.RowKit

/-- A value stored over another one, cell by cell. -/
theorem Bx.put {w : World} {g : Nat} {k n : Int} {s : ByteArray} (h : Bx w g k n s) (k' n' : Int) (s' : ByteArray) : Bx (((w.setCell ⟨g, 0, none⟩ (.int .i64 k')).setCell ⟨g, 1, none⟩ (.int .i64 n')).setCell ⟨g, 2, none⟩ (.string s')) g k' n' s' := by
  unfold Bx
  simpa using ((Ob.put h 0 (.int .i64 k')).put 1 (.int .i64 n')).put 2 (.string s')
theorem Bx.past {w : World} {g g' : Nat} {k n : Int} {s : ByteArray} (h : Bx w g k n s) (hne : g ≠ g') (a b c : Value) : Bx (((w.setCell ⟨g', 0, none⟩ a).setCell ⟨g', 1, none⟩ b).setCell ⟨g', 2, none⟩ c) g k n s :=
  h.only (((Only.refl.setCell (p := ⟨g', 0, none⟩) rfl a).setCell (p := ⟨g', 1, none⟩) rfl b).setCell (p := ⟨g', 2, none⟩) rfl c) hne
theorem below_put {w0 w : World} {g B : Nat} (h : Below B w0 w) (hg : B ≤ g) (a b c : Value) : Below B w0 (((w.setCell ⟨g, 0, none⟩ a).setCell ⟨g, 1, none⟩ b).setCell ⟨g, 2, none⟩ c) :=
  ((h.setCell (p := ⟨g, 0, none⟩) hg a).setCell (p := ⟨g, 1, none⟩) hg b).setCell (p := ⟨g, 2, none⟩) hg c
end Go.Proofs.Ytjpkemamfccfdaa
/- Rows of bytes in new memory: what a byte's type is, and make. -/
namespace Go.Proofs.Ytjpkemamfccfdaa
open Go.RowKit

theorem u8info : (Try.prog.info? 5).map (fun i => (i.zero, i.size, i.bytes)) = some (some (.int .u8 0), 1, 1) := by kernel_rfl

theorem madeBytes (n : Nat) : madeCells (Value.int .u8 0).cells (n * 1) = (List.replicate n (Value.int .u8 0)).toArray := by
  apply Array.ext
  · simp [madeCells]
  · intro i h1 h2; simp [madeCells, Value.cells, Nat.mod_one]

theorem make_bytes (n c : Nat) (hnc : n ≤ c) (h : c ≤ 140737488355328) (W : World) :
    (Instr.makeSlice 61 (.int .i64 (n : Int)) (.int .i64 (c : Int))).run Try.prog W = .ok (.slice (some ⟨W.heap.size, 0, none⟩) n c) (W.alloc (.cells (List.replicate c (Value.int .u8 0)).toArray 5)) := by
  obtain ⟨i, hi, hz0, hz1, hz2⟩ := info_parts u8info
  have hr := run_make (P := Try.prog) W 61 5 i _ Try.underlying61 hi hz0 .i64 .i64 n c (by omega) (by omega) (by rw [hz2]; omega) (by omega)
  rw [hz1] at hr
  simp only [Int.toNat_natCast, madeBytes] at hr
  exact hr

end Go.Proofs.Ytjpkemamfccfdaa
/- strings.Clone. -/
namespace Go.Proofs.Ytjpkemamfccfdaa
set_option linter.unusedVariables false
open Go.RowKit

set_option maxRecDepth 10000 in
set_option maxHeartbeats 4000000 in
theorem slclone_any (s : ByteArray) (w : World) (hlim : s.size ≤ 1000000) :
    Calls Try.prog 75 #[.string s] w fun e w' => e = .returned (.string s) ∧ Below w.heap.size w w' := by
  by_cases h0 : s.size = 0
  · have hs : s = ⟨#[]⟩ := by
      apply ByteArray.ext
      exact Array.eq_empty_of_size_eq_zero h0
    subst hs
    clear h0 hlim
    go_enter Try.func75, Try.ntmps75
    go_wp2_with fail
    go_ret
    exact ⟨rfl, Below.refl _ _⟩
  · obtain ⟨i0, hi, hz0, hz1, hz2⟩ := info_parts u8info
    have hinfo : (Try.prog.info? 5).map (·.size) = some 1 := by rw [hi]; simp [hz1]
    have hco : Try.prog.cellsOf 5 = 1 := by simp [Program.cellsOf, hi, hz1]
    obtain ⟨M, hM⟩ : ∃ M, M = madeCells (Value.int .u8 0).cells (((s.size : Nat) : Int).toNat * i0.size) := ⟨_, rfl⟩
    have hMs : M.size = s.size := by rw [hM, size_madeCells, hz1]; simp
    have hmk : ∀ W : World, (Instr.makeSlice 61 (.int .i64 (s.size : Int)) (.int .i64 (s.size : Int))).run Try.prog W = .ok (.slice (some ⟨W.heap.size, 0, none⟩) s.size s.size) (W.alloc (.cells M 5)) := fun W => by
      have h := run_make (P := Try.prog) W 61 5 i0 (.int .u8 0) Try.underlying61 hi hz0 .i64 .i64 (s.size : Int) (s.size : Int) (by omega) (by omega) (by rw [hz2]; omega) (by omega)
      rw [← hM] at h
      simpa using h
    clear hM
    have hcp := Lib.run_copy_row_string (P := Try.prog) (w.alloc (.cells M 5)) 61 9 3 5 w.heap.size 0 s.size s.size s M 5 Try.underlying61 hinfo (heap_alloc_new w _) (Nat.le_refl _) (by omega)
    obtain ⟨Y, hY⟩ : ∃ Y, Y = (M.toList.take 0 ++ Lib.byteCells s.data.toList ++ M.toList.drop (0 + s.size)).toArray := ⟨_, rfl⟩
    rw [← hY] at hcp
    have hYl : Y.toList = Lib.byteCells s.data.toList := by
      rw [hY, List.toList_toArray, List.take_zero, List.nil_append, List.drop_of_length_le (by rw [Array.length_toList]; omega), List.append_nil]
    have hYs : Y.size = s.size := by rw [← Array.length_toList, hYl, Lib.byteCells_length, ← Lib.size_eq]
    have hgY : ((w.alloc (.cells M 5)).setRow w.heap.size Y).heap[w.heap.size]? = some (.cells Y 5 (0, 0)) := setRow_heap _ _ M _ 5 (0, 0) (heap_alloc_new w _)
    have hne : s.data.toList ≠ [] := fun e => h0 (by rw [Lib.size_eq, e]; rfl)
    have hUS := Lib.run_unsafeString_row (P := Try.prog) ((w.alloc (.cells M 5)).setRow w.heap.size Y) 117 3 9 5 Try.underlying117 hco w.heap.size Y.size (by unfold World.shape?; rw [hgY]) s.data.toList hne (by rw [← Lib.size_eq]; omega) (by rw [← Lib.size_eq]; omega)
      (fun j x hx => Lib.cells_of_row hgY Y.size j _ (by rw [List.take_of_length_le (by rw [Array.length_toList]; exact Nat.le_refl _), hYl]; simp [Lib.byteCells, hx]))
    rw [← Lib.size_eq] at hUS
    have H0 := Lib.hid hYl
    have H1 := Lib.hid hne
    have H2 := Lib.hid hgY
    clear hY hYl hne hgY hco hinfo hi hz0 hz1 hz2
    go_enter Try.func75, Try.ntmps75
    go_wp2_with fail
    go_ret
    have hb1 : Below w.heap.size w (w.alloc (.cells M 5)) := (Below.refl _ w).alloc (Nat.le_refl _) _
    have hb2 : Below w.heap.size (w.alloc (.cells M 5)) ((w.alloc (.cells M 5)).setRow w.heap.size Y) := ⟨rfl, rfl, rfl, by simp, fun k hk => setRow_other _ _ _ _ (by omega)⟩
    exact ⟨rfl, Lib.below_freeze (hb1.trans hb2) (p := ⟨w.heap.size, 0, none⟩) (Nat.le_refl _) _⟩

set_option maxHeartbeats 800000 in
theorem clone_any (s : ByteArray) (w : World) (hlim : s.size ≤ 1000000) :
    Calls Try.prog 60 #[.string s] w fun e w' => e = .returned (.string s) ∧ Below w.heap.size w w' := by
  have H := Lib.hid (slclone_any s w hlim)
  clear hlim
  go_enter Try.func60, Try.ntmps60
  go_wp2_with (go_at_call 75; refine H.out.mono ?_; rintro e w' ⟨rfl, hb⟩)
  go_ret
  exact ⟨rfl, hb⟩
end Go.Proofs.Ytjpkemamfccfdaa
/- copied: a bag in memory of its own, its texts too. -/
namespace Go.Proofs.Ytjpkemamfccfdaa
set_option linter.unusedVariables false
open Go.RowKit

/-- Texts that aren't long. -/
def Shorts (l : List Vl) : Prop := ∀ v ∈ l, v.s.size ≤ 1000000

theorem take_one {α : Type} {l : List α} {k : Nat} {x : α} (h : l[k]? = some x) : l.take (k + 1) = l.take k ++ [x] := by
  obtain ⟨hk, rfl⟩ := List.getElem?_eq_some_iff.1 h
  rw [List.take_succ_eq_append_getElem hk]
theorem cells3_flat : ∀ l : List Vl, cells3 l = l.flatMap Vl.cells
  | [] => rfl
  | v :: r => by simp [cells3, Vl.cells, cells3_flat r]
/-- One more value behind a row of the call's own. -/
theorem push_val {w : World} {base n c : Nat} {A : Option Addr} {l : List Vl} {v : Vl} (h : w.ownsRow base 25 3 (.slice A n c) n (cells3 l)) (hb : base ≤ w.heap.size) (hv : v.ok) (hn : n < 1000000) :
    ∃ A' c' w', (Builtin.append_ #[45, 45] 45 #[.slice A n c, .slice (some ⟨w.heap.size, 0, none⟩) 1 1]).run Try.prog (w.alloc (.cells #[.int .i64 v.k, .int .i64 v.n, .string v.s] 25)) = .ok (.slice A' (n + 1) c') w' ∧
      w'.ownsRow base 25 3 (.slice A' (n + 1) c') (n + 1) (cells3 (l ++ [v])) ∧ Below base w w' := by
  have e1 : Below w.heap.size w (w.alloc (.cells #[.int .i64 v.k, .int .i64 v.n, .string v.s] 25)) := (Below.refl _ _).alloc (Nat.le_refl _) _
  obtain ⟨A', c', w', r, o, b, _⟩ := append_vals (ty := 45) (h.alloc (.cells #[.int .i64 v.k, .int .i64 v.n, .string v.s] 25)) (Vs.lit1 w v hv) (by omega) (by rw [size_al]; omega)
  exact ⟨A', c', w', r, o, (e1.mono hb).trans b⟩

set_option maxHeartbeats 1600000 in
theorem copied_any {w : World} {R : Nat → Prop} {A : Option Addr} {n c : Nat} {l : List Vl} (h : Vls w R A n c l) (hs : Shorts l) (hn : n ≤ 100000) :
    Calls Try.prog 44 #[.slice A n c] w fun e w' => ∃ A' c', e = .returned (.slice A' n c') ∧ Below w.heap.size w w' ∧ Vls w' (fun b => w.heap.size ≤ b) A' n c' l := by
  have hle := Rw.le h
  have hcap := Rw.cap h
  have HL := Lib.hid (Rw.len h)
  have HOK := Lib.hid h.oks
  unfold maxLen at hcap
  have H := Lib.hid h
  have HS := Lib.hid hs
  clear h hs
  go_enter Try.func44, Try.ntmps44
  go_wp2
  go_loopw [3, 8] (fun out i wr => ∃ (k : Nat) (A' : Option Addr) (c' : Nat), k ≤ n ∧ i = .int .i64 k ∧ out = .slice A' k c' ∧ wr.ownsRow w.heap.size 25 3 (.slice A' k c') k (cells3 (l.take k)) ∧ Below w.heap.size w wr) (fun out i _ => n - (intOf i).toNat)
  case atStart => exact ⟨0, none, 0, Nat.zero_le _, rfl, rfl, World.ownsRow_nil w w.heap.size 25 3, Below.refl _ _⟩
  case round =>
    obtain ⟨k, A', c', hk, rfl, rfl, ho, hb⟩ := hrel
    have HO := Lib.hid ho
    have HB := Lib.hid hb
    clear ho hb
    by_cases hlt : k < n
    · obtain ⟨b, o, x, rfl, hRb, hbl, hx, hok, ⟨x0, x1, x2⟩⟩ := (H.out.keep (Kept.all HB.out R) (fun _ h _ => h)).at_ hlt
      have HX := Lib.hid hx
      have HK := Lib.hid hok
      have hlim := HS.out x (List.mem_of_getElem? hx)
      have HCL := Lib.hid (fun W => clone_any x.s W hlim)
      obtain ⟨xk, xn, xs⟩ := x
      simp only at x0 x1 x2 HCL hlim
      clear hx hok
      have hbx := Bx.made wr xk xn xs
      have D0 := Lib.hid ((Below.refl wr.heap.size wr).alloc (Nat.le_refl _) (.cells #[.int .i64 xk, .int .i64 xn, .string xs] 25))
      go_wp2_with (first
        | (go_at_call 60; refine (HCL.out _).mono ?_; rintro e w1 ⟨rfl, hb1⟩
           have q1 := hbx.then_ hb1
           have qs := q1.setS xs
           have q3 := q1.c3
           have q4 := q1.fz 2
           have d1 : Below wr.heap.size wr (w1.setCell ⟨wr.heap.size, 2, none⟩ (.string xs)) := (Below.lit hb1).setCell (Nat.le_refl _) _
           obtain ⟨A2, c2, w2, r2, o2, b2⟩ := push_val (v := ⟨xk, xn, xs⟩) (own_then HO.out d1) (Nat.le_trans HB.out.size d1.size) HK.out (by omega)
           have hz : (w1.setCell ⟨wr.heap.size, 2, none⟩ (.string xs)).heap.size = w1.heap.size := by simp [World.setCell]
           rw [hz] at r2
           simp only at r2
           have R2 := Lib.hid r2
           have O2 := Lib.hid o2
           have B2 := Lib.hid (HB.out.trans ((d1.mono HB.out.size).trans b2))
           have Q1 := Lib.hid q1
           clear hz r2 o2 b2 hb1 q1 qs d1)
        | (at_builtin; refine wpList_append_run rfl _ _ _ _ rfl rfl rfl R2.out ?_))
      go_roundw
      case rel => exact ⟨k + 1, A2, c2, by omega, by go_num, rfl, by rw [take_one HX.out]; exact O2.out, B2.out⟩
      case measure => simp [intOf]; omega
    · obtain rfl : k = n := by omega
      go_wp2
      go_ret
      refine ⟨A', c', rfl, HB.out, ?_⟩
      have ho := HO.out
      rw [List.take_of_length_le (by have := HL.out; omega), cells3_flat] at ho
      exact Rw.flat_own ho (by omega) HL.out (fun _ => rfl) HOK.out (fun _ _ h => h)
end Go.Proofs.Ytjpkemamfccfdaa
/- place: the first of a category and a name (by slices.IndexFunc). -/
namespace Go.Proofs.Ytjpkemamfccfdaa
set_option linter.unusedVariables false
open Go.RowKit

theorem isg_any {w : World} {h4 h5 : Nat} {c : Int} {s : ByteArray} (g : Giv) {A : Option Addr} {n k : Nat} (hp : Ob w h4 3 #[.int .i64 c]) (hi : Ob w h5 9 #[.string s]) :
    Calls Try.prog 62 #[.agg #[.int .i64 g.cat, .string g.name, .slice A n k], .pointer (some ⟨h4, 0, none⟩), .pointer (some ⟨h5, 0, none⟩)] w fun e w' => e = .returned (.bool (isG c s g)) ∧ Below w.heap.size w w' := by
  have c4 := hp.cell 0
  have c5 := hi.cell 0
  have l4 := hp.lt
  have l5 := hi.lt
  have HE : Hid (isG c s g = (decide (g.cat = c) && (g.name.toList == s.toList))) := by
    show isG c s g = _
    unfold isG
    rw [Bool.eq_iff_iff]
    simp only [Bool.and_eq_true, decide_eq_true_eq, beq_iff_eq]
    rw [show (g.name.toList = s.toList) = (g.name = s) from propext ⟨fun e => text_eq (by show g.name.data.toList = s.data.toList; rw [← ByteArray.toList_eq, ← ByteArray.toList_eq]; exact e), fun e => by rw [e]⟩]
  generalize isG c s g = r at *
  obtain ⟨gc, gn, gb⟩ := g
  simp only at HE ⊢
  clear hp hi
  by_cases h : gc = c
  · have h' : (gc == c) = true := by simpa using h
    have H := Lib.hid h
    clear h
    go_enter Try.func62, Try.ntmps62
    go_wp2_with fail
    all_goals
      go_ret
      exact ⟨ret_bool (by rw [HE.out, decide_eq_true H.out, Bool.true_and]), (Below.refl _ _).alloc (Nat.le_refl _) _⟩
  · have h' : (gc == c) = false := by simpa using h
    have H := Lib.hid h
    clear h
    go_enter Try.func62, Try.ntmps62
    go_wp2_with fail
    all_goals
      go_ret
      exact ⟨ret_bool (by rw [HE.out, decide_eq_false H.out, Bool.false_and]), (Below.refl _ _).alloc (Nat.le_refl _) _⟩

set_option maxHeartbeats 800000 in
theorem index_any {w : World} {R : Nat → Prop} {A : Option Addr} {n c : Nat} {l : List Giv} {h4 h5 : Nat} {q : Int} {s : ByteArray} (h : Gvs w R A n c l) (hp : Ob w h4 3 #[.int .i64 q]) (hi : Ob w h5 9 #[.string s]) :
    Calls Try.prog 61 #[.slice A n c, .func (.func 62) #[] #[.pointer (some ⟨h4, 0, none⟩), .pointer (some ⟨h5, 0, none⟩)]] w fun e w' => e = .returned (.int .i64 (placeI l q s)) ∧ Below w.heap.size w w' := by
  have hle := Rw.le h
  have hcap := Rw.cap h
  have HL := Lib.hid (Rw.len h)
  unfold maxLen at hcap
  have H := Lib.hid h
  have HP := Lib.hid hp
  have HI := Lib.hid hi
  clear h hp hi
  go_enter Try.func61, Try.ntmps61
  go_wp2
  go_loopw [8] (fun i wr => ∃ k : Nat, k ≤ n ∧ i = .int .i64 k ∧ (∀ (j : Nat) (x : Giv), l[j]? = some x → j < k → isG q s x = false) ∧ Below w.heap.size w wr) (fun i _ => n - (intOf i).toNat)
  case atStart => exact ⟨0, Nat.zero_le _, rfl, fun _ _ _ h => absurd h (Nat.not_lt_zero _), Below.refl _ _⟩
  case round =>
    obtain ⟨k, hk, rfl, hf, hb⟩ := hrel
    have HF := Lib.hid hf
    have HB := Lib.hid hb
    clear hf hb
    by_cases hlt : k < n
    · obtain ⟨b, o, x, A', n', c', rfl, hRb, hbl, hx, hok, ⟨c0, c1, c2⟩, hin⟩ := (H.out.keep (Kept.all HB.out R) (fun _ h _ => h)).at_ hlt
      have HX := Lib.hid hx
      have HC := Lib.hid (isg_any x (A := A') (n := n') (k := c') (HP.out.below HB.out HP.out.lt) (HI.out.below HB.out HI.out.lt))
      clear hx
      cases hz : isG q s x
      · have HZ := Lib.hid hz
        rw [hz] at HC
        clear hz
        go_wp2_with (go_at_call 62; refine HC.out.mono ?_; rintro e w1 ⟨rfl, hb1⟩; have B1 := Lib.hid hb1)
        go_roundw
        case rel => exact ⟨k + 1, by omega, by go_num, fun j y hy hj => by
          by_cases e : j = k
          · subst e; rw [HX.out] at hy; injection hy with hy; subst hy; exact HZ.out
          · exact HF.out j y hy (by omega), below_step HB.out B1.out⟩
        case measure => simp [intOf]; omega
      · have HZ := Lib.hid hz
        rw [hz] at HC
        clear hz
        go_wp2_with (go_at_call 62; refine HC.out.mono ?_; rintro e w1 ⟨rfl, hb1⟩; have B1 := Lib.hid hb1)
        go_ret
        exact ⟨ret_int (place_at HX.out HZ.out HF.out).symm, below_step HB.out B1.out⟩
    · obtain rfl : k = n := by omega
      go_wp2
      go_ret
      exact ⟨ret_int (place_none (fun j x hx => HF.out j x hx (by have := (List.getElem?_eq_some_iff.1 hx).1; have := HL.out; omega))).symm, HB.out⟩

theorem place_any {w : World} {R : Nat → Prop} {A : Option Addr} {n c : Nat} {l : List Giv} (q : Int) (s : ByteArray) (h : Gvs w R A n c l) :
    Calls Try.prog 43 #[.slice A n c, .int .i64 q, .string s] w fun e w' => e = .returned (.int .i64 (placeI l q s)) ∧ Below w.heap.size w w' := by
  have e1 : Below w.heap.size w ((w.alloc (.cells #[.int .i64 q] 3)).alloc (.cells #[.string s] 9)) := ((Below.refl _ _).alloc (Nat.le_refl _) _).alloc (by rw [size_al]; omega) _
  have hp : Ob ((w.alloc (.cells #[.int .i64 q] 3)).alloc (.cells #[.string s] 9)) w.heap.size 3 #[.int .i64 q] := (Ob.made w 3 #[.int .i64 q]).keep (Below.heap_alloc (w.alloc (.cells #[.int .i64 q] 3)) _ w.heap.size (by rw [size_al]; omega))
  have hi : Ob ((w.alloc (.cells #[.int .i64 q] 3)).alloc (.cells #[.string s] 9)) (w.heap.size + 1) 9 #[.string s] := by
    have := Ob.made (w.alloc (.cells #[.int .i64 q] 3)) 9 #[.string s]
    rwa [size_al] at this
  have HC := Lib.hid (index_any (h.keep (Kept.all e1 R) (fun _ h _ => h)) hp hi)
  have HE := Lib.hid e1
  clear h hp hi e1
  go_enter Try.func43, Try.ntmps43
  go_wp2_with (go_at_call 61; refine HC.out.mono ?_; rintro e w1 ⟨rfl, hb1⟩)
  go_ret
  exact ⟨rfl, HE.out.trans (hb1.mono HE.out.size)⟩
end Go.Proofs.Ytjpkemamfccfdaa
/- Get: what is there, in new memory. -/
namespace Go.Proofs.Ytjpkemamfccfdaa
set_option linter.unusedVariables false
open Go.RowKit

/-- Requests whose texts aren't long, and whose bags aren't, neither. -/
def ShortG (l : List Giv) : Prop := ∀ g ∈ l, Shorts g.bag ∧ g.bag.length ≤ 100000
/-- What Get answers: a bag and an error. -/
theorem aget_any {w : World} {R : Nat → Prop} {A : Option Addr} {n c : Nat} {l : List Giv} (a : Atr) (h : Gvs w R A n c l) (hs : ShortG l) :
    Calls Try.prog 25 #[.slice A n c, .agg #[.int .i64 a.cat, .string a.name, .bool a.must]] w fun e w' => ∃ A' n' c', e = .returned (.tuple #[.slice A' n' c', .int .i64 (getE l a)]) ∧ Below w.heap.size w w' ∧ Vls w' (fun b => w.heap.size ≤ b) A' n' c' (getR l a) := by
  obtain ⟨ac, an, am⟩ := a
  have hle := Rw.le h
  have hcap := Rw.cap h
  have HL := Lib.hid (Rw.len h)
  unfold maxLen at hcap
  have H := Lib.hid h
  have HS := Lib.hid hs
  have HP := Lib.hid (fun W (hW : Below w.heap.size w W) => place_any ac an (h.keep (Kept.all hW R) (fun _ h _ => h)))
  clear h hs
  by_cases hi : idxA l ac an < l.length
  · obtain ⟨g, hg, hgg, hb⟩ := idx_hit hi
    have hp : placeI l ac an = (idxA l ac an : Int) := place_pos hi
    rw [hp] at HP
    have hin : idxA l ac an < n := by have := HL.out; omega
    have HB : Hid (getB l ⟨ac, an, am⟩ = g.bag) := hb
    have HG := Lib.hid hg
    generalize idxA l ac an = k at *
    obtain ⟨hsh, hln⟩ := HS.out g (List.mem_of_getElem? hg)
    have HSH := Lib.hid hsh
    have HLN := Lib.hid hln
    clear hi hp hg hgg hb hsh hln
    have atW := fun W (hW : Below w.heap.size w W) => (H.out.keep (Kept.all hW R) (fun _ h _ => h)).at_ hin
    have AW := Lib.hid atW
    clear atW
    obtain ⟨b, o, g0, A', n', c', rfl, _, hbl, hx, _, ⟨_, _, c2⟩, hin0⟩ := AW.out w (Below.refl _ _)
    have hgx := HG.out
    rw [hx] at hgx
    injection hgx with hgx
    subst hgx
    have HIN := Lib.hid hin0
    have hn' : n' ≤ 100000 := by have := Rw.len hin0; have := HLN.out; omega
    have hlen' : g0.bag.length = n' := Rw.len hin0
    have C2 := Lib.hid c2
    have HBL := Lib.hid hbl
    have HE : Hid (getE l ⟨ac, an, am⟩ = if am = true ∧ n' = 0 then 4 else 0) := by
      show getE l ⟨ac, an, am⟩ = _
      unfold getE
      have e0 : (g0.bag = []) = (n' = 0) := by rw [← hlen', List.length_eq_zero_iff]
      rw [HB.out]
      simp only [e0]
    have HR : Hid (getR l ⟨ac, an, am⟩ = if am = true ∧ n' = 0 then [] else g0.bag) := by
      show getR l ⟨ac, an, am⟩ = _
      unfold getR
      rw [HB.out, HE.out]
      by_cases e : am = true ∧ n' = 0 <;> simp [e]
    have HNN := Lib.hid hlen'
    clear hx c2 hin0 hbl AW hlen'
    generalize getE l ⟨ac, an, am⟩ = ee at *
    generalize getR l ⟨ac, an, am⟩ = rr at *
    rcases Nat.eq_zero_or_pos n' with rfl | hpos
    · cases am
      · have HE2 : Hid (ee = 0) := by show ee = 0; rw [HE.out]; simp
        have HR2 : Hid (rr = g0.bag) := by show rr = _; rw [HR.out]; simp
        clear HE HR
        go_enter Try.func25, Try.ntmps25
        go_wp2_with (first
          | (go_at_call 43; refine (HP.out _ ((Below.refl _ _).alloc (Nat.le_refl _) _)).mono ?_; rintro e w1 ⟨rfl, hb1⟩
             have OB1 := Lib.hid (Ob.below (Ob.made _ _ _) hb1 (by simp))
             have B1 := Lib.hid (Below.lit hb1)
             have q2 := (World.cell?_of_block (B1.out.block _ HBL.out)).trans C2.out
             have CP := Lib.hid (copied_any (HIN.out.keep (Kept.all B1.out R) (fun _ h _ => h)) HSH.out hn')
             clear hb1)
          | (go_at_call 44; refine CP.out.mono ?_; rintro e w2 ⟨A2, k2, rfl, hb2, hi2⟩
             have c9 := (Ob.below OB1.out hb2 (Ob.lt OB1.out)).cell 2
             have B2 := Lib.hid (below_step B1.out hb2)
             have I2 := Lib.hid (hi2.keep (Kept.refl _ _) (R' := fun b => w.heap.size ≤ b) (fun b h _ => Nat.le_trans B1.out.size h))
             clear hb2 hi2))
        go_ret2
        exact ⟨A2, 0, k2, by rw [HE2.out]; rfl, B2.out, by rw [HR2.out]; exact I2.out⟩
      · have HE2 : Hid (ee = 4) := by show ee = 4; rw [HE.out]; simp
        have HR2 : Hid (rr = []) := by show rr = _; rw [HR.out]; simp
        clear HE HR
        go_enter Try.func25, Try.ntmps25
        go_wp2_with (first
          | (go_at_call 43; refine (HP.out _ ((Below.refl _ _).alloc (Nat.le_refl _) _)).mono ?_; rintro e w1 ⟨rfl, hb1⟩
             have OB1 := Lib.hid (Ob.below (Ob.made _ _ _) hb1 (by simp))
             have B1 := Lib.hid (Below.lit hb1)
             have q2 := (World.cell?_of_block (B1.out.block _ HBL.out)).trans C2.out
             have CP := Lib.hid (copied_any (HIN.out.keep (Kept.all B1.out R) (fun _ h _ => h)) HSH.out hn')
             clear hb1)
          | (go_at_call 44; refine CP.out.mono ?_; rintro e w2 ⟨A2, k2, rfl, hb2, hi2⟩
             have c9 := (Ob.below OB1.out hb2 (Ob.lt OB1.out)).cell 2
             have B2 := Lib.hid (below_step B1.out hb2)
             have I2 := Lib.hid (hi2.keep (Kept.refl _ _) (R' := fun b => w.heap.size ≤ b) (fun b h _ => Nat.le_trans B1.out.size h))
             clear hb2 hi2))
        go_ret2
        exact ⟨none, 0, 0, by rw [HE2.out]; rfl, B2.out, by rw [HR2.out]; exact Rw.nil_ _ _ _ _⟩
    · have hne : ¬ (n' : Int) = 0 := by omega
      have hne2 : ((n' : Int) == 0) = false := by simpa using hne
      have HE2 : Hid (ee = 0) := by show ee = 0; rw [HE.out, if_neg (by omega)]
      have HR2 : Hid (rr = g0.bag) := by show rr = _; rw [HR.out, if_neg (by omega)]
      clear HE HR
      cases am
      all_goals
        go_enter Try.func25, Try.ntmps25
        go_wp2_with (first
          | (go_at_call 43; refine (HP.out _ ((Below.refl _ _).alloc (Nat.le_refl _) _)).mono ?_; rintro e w1 ⟨rfl, hb1⟩
             have OB1 := Lib.hid (Ob.below (Ob.made _ _ _) hb1 (by simp))
             have B1 := Lib.hid (Below.lit hb1)
             have q2 := (World.cell?_of_block (B1.out.block _ HBL.out)).trans C2.out
             have CP := Lib.hid (copied_any (HIN.out.keep (Kept.all B1.out R) (fun _ h _ => h)) HSH.out hn')
             clear hb1)
          | (go_at_call 44; refine CP.out.mono ?_; rintro e w2 ⟨A2, k2, rfl, hb2, hi2⟩
             have c9 := (Ob.below OB1.out hb2 (Ob.lt OB1.out)).cell 2
             have B2 := Lib.hid (below_step B1.out hb2)
             have I2 := Lib.hid (hi2.keep (Kept.refl _ _) (R' := fun b => w.heap.size ≤ b) (fun b h _ => Nat.le_trans B1.out.size h))
             clear hb2 hi2))
        go_ret2
        exact ⟨A2, n', k2, by rw [HE2.out]; rfl, B2.out, by rw [HR2.out]; exact I2.out⟩
  · have HB : Hid (getB l ⟨ac, an, am⟩ = []) := bag_none hi
    have hp : placeI l ac an = -1 := place_neg hi
    rw [hp] at HP
    clear hp hi
    have HE : Hid (getE l ⟨ac, an, am⟩ = if am = true then 4 else 0) := by show getE l ⟨ac, an, am⟩ = _; unfold getE; rw [HB.out]; simp
    have HR : Hid (getR l ⟨ac, an, am⟩ = []) := by show getR l ⟨ac, an, am⟩ = _; unfold getR; rw [HB.out]; simp
    generalize getE l ⟨ac, an, am⟩ = ee at *
    generalize getR l ⟨ac, an, am⟩ = rr at *
    cases am
    all_goals
      go_enter Try.func25, Try.ntmps25
      go_wp2_with (go_at_call 43; refine (HP.out _ ((Below.refl _ _).alloc (Nat.le_refl _) _)).mono ?_; rintro e w1 ⟨rfl, hb1⟩; have c0 := (Ob.below (Ob.made _ _ _) hb1 (by simp)).cell 2)
      go_ret2
      refine ⟨none, 0, 0, by rw [HE.out]; rfl, Below.lit hb1, by rw [HR.out]; exact Rw.nil_ _ _ _ _⟩
end Go.Proofs.Ytjpkemamfccfdaa
/- Package target, walked: truth, same, less, held, Match, All, one, Met. -/
namespace Go.Proofs.Ytjpkemamfccfdaa
set_option linter.unusedVariables false
open Go.RowKit

theorem tgtruth_any (b : Bool) (w : World) :
    Calls Try.prog 69 #[.bool b] w fun e w' => e = .returned (.int .i64 (trI b)) ∧ Below w.heap.size w w' := by
  cases b
  all_goals
    go_enter Try.func69, Try.ntmps69
    go_wp2_with fail
    go_ret
    exact ⟨rfl, Below.refl _ _⟩
theorem tgalloc2 (w : World) (x y : Obj) : Below w.heap.size w ((w.alloc x).alloc y) := ((Below.refl _ _).alloc (Nat.le_refl _) _).alloc (by rw [size_al]; omega) _
set_option maxHeartbeats 1600000 in
theorem tgsame_any (a b : Vl) (w : World) :
    Calls Try.prog 54 #[a.val, b.val] w fun e w' => e = .returned (.int .i64 (sameI a b)) ∧ Below w.heap.size w w' := by
  obtain ⟨k, n, s⟩ := a
  obtain ⟨k', n', s'⟩ := b
  show Calls _ _ #[.agg #[.int .i64 k, .int .i64 n, .string s], .agg #[.int .i64 k', .int .i64 n', .string s']] w _
  have HT := Lib.hid tgtruth_any
  have HS : Hid (sameI ⟨k, n, s⟩ ⟨k', n', s'⟩ = if k = k' then trI (veq ⟨k, n, s⟩ ⟨k', n', s'⟩) else 1) := rfl
  have e1 := fun W => val_eq k n k' n' s s' W
  generalize veq ⟨k, n, s⟩ ⟨k', n', s'⟩ = q at *
  generalize sameI ⟨k, n, s⟩ ⟨k', n', s'⟩ = r at *
  by_cases h : k = k'
  · have h1 : (k != k') = false := by rw [bne_eq_false_iff_eq]; exact h
    have HR : Hid (r = trI q) := by show _ = _; rw [HS.out, if_pos h]
    clear h HS
    go_enter Try.func54, Try.ntmps54
    go_wp2_with (go_at_call 69; refine (HT.out _ _).mono ?_; rintro e w1 ⟨rfl, hb1⟩)
    go_ret
    exact ⟨by rw [HR.out]; rfl, Below.lit (Below.lit hb1)⟩
  · have h1 : (k != k') = true := by rw [bne_iff_ne]; exact h
    have HR : Hid (r = 1) := by show _ = _; rw [HS.out, if_neg h]
    clear h HS
    go_enter Try.func54, Try.ntmps54
    go_wp2_with fail
    go_ret
    exact ⟨by rw [HR.out]; rfl, tgalloc2 _ _ _⟩
set_option maxHeartbeats 1600000 in
theorem tgless_any (a b : Vl) (ha : a.s.size ≤ maxLen) (hb : b.s.size ≤ maxLen) (w : World) :
    Calls Try.prog 55 #[a.val, b.val] w fun e w' => e = .returned (.int .i64 (lessI a b)) ∧ Below w.heap.size w w' := by
  have HL := Lib.hid (less_any a b ha hb)
  clear ha hb
  have HS : Hid (lessI a b = if (lessOf a b).2 = 0 then trI (lessOf a b).1 else 1) := rfl
  generalize lessI a b = r at *
  generalize lessOf a b = lo at *
  obtain ⟨q, x⟩ := lo
  dsimp only at HL HS
  obtain ⟨k, n, s⟩ := a
  obtain ⟨k', n', s'⟩ := b
  show Calls _ _ #[.agg #[.int .i64 k, .int .i64 n, .string s], .agg #[.int .i64 k', .int .i64 n', .string s']] w _
  have HT := Lib.hid tgtruth_any
  by_cases h : x = 0
  · have h1 : (x != 0) = false := by rw [bne_eq_false_iff_eq]; exact h
    have HR : Hid (r = trI q) := by show _ = _; rw [HS.out, if_pos h]
    clear h HS
    go_enter Try.func55, Try.ntmps55
    go_wp2_with (first
      | (go_at_call 70; refine (HL.out _).mono ?_; rintro e w1 ⟨rfl, hb1⟩; have B1 := Lib.hid (Below.lit (Below.lit hb1)); clear hb1)
      | (go_at_call 69; refine (HT.out _ _).mono ?_; rintro e w2 ⟨rfl, hb1⟩))
    go_ret
    exact ⟨by rw [HR.out]; rfl, below_step B1.out hb1⟩
  · have h1 : (x != 0) = true := by rw [bne_iff_ne]; exact h
    have HR : Hid (r = 1) := by show _ = _; rw [HS.out, if_neg h]
    clear h HS
    go_enter Try.func55, Try.ntmps55
    go_wp2_with (go_at_call 70; refine (HL.out _).mono ?_; rintro e w1 ⟨rfl, hb1⟩; have B1 := Lib.hid (Below.lit (Below.lit hb1)); clear hb1)
    go_ret
    exact ⟨by rw [HR.out]; rfl, B1.out⟩
set_option maxHeartbeats 3200000 in
theorem tgheld_any (m : Mat) (v : Vl) (hm : m.v.s.size ≤ maxLen) (hv : v.s.size ≤ maxLen) (w : World) :
    Calls Try.prog 35 #[m.val, v.val] w fun e w' => e = .returned (.int .i64 (heldI m v)) ∧ Below w.heap.size w w' := by
  have C1 := Lib.hid (tgsame_any v m.v)
  have C2 := Lib.hid (tgless_any v m.v hv hm)
  have C3 := Lib.hid (tgless_any m.v v hm hv)
  clear hm hv
  have HS : Hid (heldI m v = if m.op = 1 then sameI v m.v else if m.op = 2 then lessI v m.v else lessI m.v v) := rfl
  generalize heldI m v = r at *
  obtain ⟨⟨mc, mn, mu⟩, op, ⟨k, n, s⟩⟩ := m
  obtain ⟨k', n', s'⟩ := v
  show Calls _ _ #[.agg #[.int .i64 mc, .string mn, .bool mu, .int .i64 op, .int .i64 k, .int .i64 n, .string s], .agg #[.int .i64 k', .int .i64 n', .string s']] w _
  simp only at C1 C2 C3 HS
  by_cases h : op = 1
  · subst h
    have HR : Hid (r = sameI ⟨k', n', s'⟩ ⟨k, n, s⟩) := by show _ = _; rw [HS.out, if_pos rfl]
    go_enter Try.func35, Try.ntmps35
    go_wp2_with (go_at_call 54; refine (C1.out _).mono ?_; rintro e w1 ⟨rfl, hb1⟩)
    go_ret
    exact ⟨by rw [HR.out]; rfl, Below.lit (Below.lit hb1)⟩
  · have h1 : (op == 1) = false := by rw [beq_eq_false_iff_ne]; exact h
    by_cases h' : op = 2
    · subst h'
      have HR : Hid (r = lessI ⟨k', n', s'⟩ ⟨k, n, s⟩) := by show _ = _; rw [HS.out, if_neg h, if_pos rfl]
      go_enter Try.func35, Try.ntmps35
      go_wp2_with (go_at_call 55; refine (C2.out _).mono ?_; rintro e w1 ⟨rfl, hb1⟩)
      go_ret
      exact ⟨by rw [HR.out]; rfl, Below.lit (Below.lit hb1)⟩
    · have h2 : (op == 2) = false := by rw [beq_eq_false_iff_ne]; exact h'
      have HR : Hid (r = lessI ⟨k, n, s⟩ ⟨k', n', s'⟩) := by show _ = _; rw [HS.out, if_neg h, if_neg h']
      clear h h'
      go_enter Try.func35, Try.ntmps35
      go_wp2_with (go_at_call 55; refine (C3.out _).mono ?_; rintro e w1 ⟨rfl, hb1⟩)
      go_ret
      exact ⟨by rw [HR.out]; rfl, Below.lit (Below.lit hb1)⟩
end Go.Proofs.Ytjpkemamfccfdaa
/- Package target, walked: Match, All, one, Met. -/
namespace Go.Proofs.Ytjpkemamfccfdaa
set_option linter.unusedVariables false
open Go.RowKit

set_option maxHeartbeats 3200000 in
theorem tgmatch_any {w : World} {R : Nat → Prop} {A : Option Addr} {n c : Nat} {l : List Giv} (m : Mat) (hm : m.v.s.size ≤ maxLen) (h : Gvs w R A n c l) (hs : ShortG l) :
    Calls Try.prog 12 #[m.val, .slice A n c] w fun e w' => e = .returned (.int .i64 (matchI l m)) ∧ Below w.heap.size w w' := by
  have HG := Lib.hid (fun W (hW : Below w.heap.size w W) => aget_any (w := W) m.a (h.keep (Kept.all hW R) (fun _ h _ => h)) hs)
  have HH := Lib.hid (fun v (hv : v.s.size ≤ maxLen) W => tgheld_any m v hm hv W)
  have HT := Lib.hid (tri_held m)
  have HE : Hid (matchI l m = if getE l m.a = 0 then most (heldI m) (getR l m.a) else 1) := rfl
  generalize matchI l m = r at *
  generalize heldI m = f at *
  obtain ⟨⟨mc, mn, mu⟩, op, ⟨k, nn, s⟩⟩ := m
  simp only at HG HE
  generalize getE l _ = ee at *
  generalize getR l _ = bag at *
  show Calls _ _ #[.agg #[.int .i64 mc, .string mn, .bool mu, .int .i64 op, .int .i64 k, .int .i64 nn, .string s], .slice A n c] w _
  have OM := Lib.hid (Ob.made w 28 #[.int .i64 mc, .string mn, .bool mu, .int .i64 op, .int .i64 k, .int .i64 nn, .string s])
  have BM := Lib.hid ((Below.refl w.heap.size w).alloc (Nat.le_refl _) (.cells #[.int .i64 mc, .string mn, .bool mu, .int .i64 op, .int .i64 k, .int .i64 nn, .string s] 28))
  clear h hs hm
  by_cases h : ee = 0
  rotate_left
  · have h1 : (ee != 0) = true := by rw [bne_iff_ne]; exact h
    have HR : Hid (r = 1) := by show _ = _; rw [HE.out, if_neg h]
    clear h HE
    go_enter Try.func12, Try.ntmps12
    go_wp2_with (go_at_call 25; refine (HG.out _ BM.out).mono ?_; rintro e w1 ⟨A', n', c', rfl, hb1, hbag⟩)
    go_ret
    exact ⟨by rw [HR.out]; rfl, below_step BM.out hb1⟩
  have h1 : (ee != 0) = false := by rw [bne_eq_false_iff_eq]; exact h
  have HR : Hid (r = most f bag) := by show _ = _; rw [HE.out, if_pos h]
  clear h HE
  go_enter Try.func12, Try.ntmps12
  go_wp2_with (go_at_call 25; refine (HG.out _ BM.out).mono ?_; rintro e w1 ⟨A', n', c', rfl, hb1, hbag⟩; have B1 := Lib.hid (below_step BM.out hb1); have O1 := Lib.hid (OM.out.below hb1 OM.out.lt); have V1 := Lib.hid (Vls.keep hbag (Kept.refl _ _) (R' := fun _ => True) (fun _ _ _ => trivial)); have hle := Rw.le hbag; have hcap := Rw.cap hbag; have HL := Lib.hid (Rw.len hbag); clear hb1 hbag)
  unfold maxLen at hcap
  go_loopw [7, 21] (fun x i wr => ∃ j : Nat, j ≤ n' ∧ i = .int .i64 j ∧ x = .int .i64 (most f (bag.take j)) ∧ Below w1.heap.size w1 wr) (fun _ i _ => n' - (intOf i).toNat)
  case atStart => exact ⟨0, Nat.zero_le _, rfl, rfl, Below.refl _ _⟩
  case round =>
    obtain ⟨j, hj, rfl, rfl, hb⟩ := hrel
    have HB := Lib.hid hb
    have BW := Lib.hid (below_step B1.out hb)
    have OW := O1.out.below hb O1.out.lt
    have q0 := OW.cell 0
    have q1 := OW.cell 1
    have q2 := OW.cell 2
    have q3 := OW.cell 3
    have q4 := OW.cell 4
    have q5 := OW.cell 5
    have q6 := OW.cell 6
    have OL := Lib.hid OW
    clear hb OW
    by_cases hlt : j < n'
    · obtain ⟨b, o, v, rfl, _, hbl, hx, hok, c0, c1, c2⟩ := (V1.out.keep (Kept.all HB.out _) (R' := fun _ => True) (fun _ _ _ => trivial)).at_ hlt
      have HS := Lib.hid (most_step hx (HT.out v).1)
      have HC := Lib.hid (HH.out v hok.2.2)
      obtain ⟨vk, vn, vs⟩ := v
      simp only at c0 c1 c2
      have HC2 : Hid (∀ W : World, Calls Try.prog 35 #[.agg #[.int .i64 mc, .string mn, .bool mu, .int .i64 op, .int .i64 k, .int .i64 nn, .string s], .agg #[.int .i64 vk, .int .i64 vn, .string vs]] W fun e w' => e = .returned (.int .i64 (f ⟨vk, vn, vs⟩)) ∧ Below W.heap.size W w') := HC.out
      clear HC hx hok
      generalize f ⟨vk, vn, vs⟩ = y at *
      generalize most f (bag.take j) = x at *
      generalize hz : most f (bag.take (j + 1)) = z at *
      have HZ := Lib.hid hz
      clear hz
      have OX := OL.out.keep (w' := wr.alloc (.cells #[.int .i64 vk, .int .i64 vn, .string vs] 25)) (Below.heap_alloc _ _ _ OL.out.lt)
      have p0 := OX.cell 0
      have p1 := OX.cell 1
      have p2 := OX.cell 2
      have p3 := OX.cell 3
      have p4 := OX.cell 4
      have p5 := OX.cell 5
      have p6 := OX.cell 6
      clear OX
      go_wp2_with (go_at_call 35; refine (HC2.out _).mono ?_; rintro e w2 ⟨rfl, hb2⟩; have B2 := Lib.hid (below_step HB.out (Below.lit hb2)); clear hb2)
      go_roundw
      case rel => exact ⟨j + 1, by omega, by go_num, by rw [HZ.out, HS.out], B2.out⟩
      case measure => simp [intOf]; omega
    · obtain rfl : j = n' := by omega
      go_wp2
      go_ret
      exact ⟨by rw [HR.out, List.take_of_length_le (by have := HL.out; omega)]; rfl, BW.out⟩
set_option maxHeartbeats 3200000 in
theorem tgall_any {w : World} {R R1 : Nat → Prop} {A A1 : Option Addr} {n c n1 c1 : Nat} {l : List Giv} {ms : List Mat} (h1 : Ms w R1 A1 n1 c1 ms) (h : Gvs w R A n c l) (hs : ShortG l) :
    Calls Try.prog 19 #[.slice A1 n1 c1, .slice A n c] w fun e w' => e = .returned (.int .i64 (allI l ms)) ∧ Below w.heap.size w w' := by
  have HM := Lib.hid (fun W (hW : Below w.heap.size w W) (m : Mat) (hm : m.v.s.size ≤ maxLen) => tgmatch_any (w := W) m hm (h.keep (Kept.all hW R) (fun _ h _ => h)) hs)
  have HT := Lib.hid (tri_match l)
  have HE : Hid (allI l ms = least (matchI l) ms) := rfl
  generalize allI l ms = r at *
  generalize matchI l = f at *
  have hle := Rw.le h1
  have hcap := Rw.cap h1
  have HL := Lib.hid (Rw.len h1)
  unfold maxLen at hcap
  have H1 := Lib.hid h1
  clear h h1 hs
  go_enter Try.func19, Try.ntmps19
  go_wp2
  go_loopw [5, 10] (fun x i wr => ∃ j : Nat, j ≤ n1 ∧ i = .int .i64 j ∧ x = .int .i64 (least f (ms.take j)) ∧ Below w.heap.size w wr) (fun _ i _ => n1 - (intOf i).toNat)
  case atStart => exact ⟨0, Nat.zero_le _, rfl, rfl, Below.refl _ _⟩
  case round =>
    obtain ⟨j, hj, rfl, rfl, hb⟩ := hrel
    have HB := Lib.hid hb
    clear hb
    by_cases hlt : j < n1
    · obtain ⟨b, o, m, rfl, _, hbl, hx, hok, c0, c1, c2, c3, c4, c5, c6⟩ := (H1.out.keep (Kept.all HB.out _) (R' := fun _ => True) (fun _ _ _ => trivial)).at_ hlt
      have HS := Lib.hid (least_step hx (HT.out m).2)
      have HC := Lib.hid (fun W hW => HM.out W hW m hok.2.2.2.2)
      obtain ⟨⟨mc, mn, mu⟩, op, ⟨k, nn, s⟩⟩ := m
      simp only at c0 c1 c2 c3 c4 c5 c6
      have HC2 : Hid (∀ W : World, Below w.heap.size w W → Calls Try.prog 12 #[.agg #[.int .i64 mc, .string mn, .bool mu, .int .i64 op, .int .i64 k, .int .i64 nn, .string s], .slice A n c] W fun e w' => e = .returned (.int .i64 (f ⟨⟨mc, mn, mu⟩, op, ⟨k, nn, s⟩⟩)) ∧ Below W.heap.size W w') := HC.out
      clear HC hx hok
      generalize f _ = y at *
      generalize least f (ms.take j) = x at *
      generalize hz : least f (ms.take (j + 1)) = z at *
      have HZ := Lib.hid hz
      clear hz
      go_wp2_with (go_at_call 12; refine (HC2.out _ (HB.out.alloc HB.out.size _)).mono ?_; rintro e w2 ⟨rfl, hb2⟩; have B2 := Lib.hid (below_step HB.out (Below.lit hb2)); clear hb2)
      go_roundw
      case rel => exact ⟨j + 1, by omega, by go_num, by rw [HZ.out, HS.out], B2.out⟩
      case measure => simp [intOf]; omega
    · obtain rfl : j = n1 := by omega
      go_wp2
      go_ret
      exact ⟨by rw [HE.out, List.take_of_length_le (by have := HL.out; omega)]; rfl, HB.out⟩
set_option maxHeartbeats 3200000 in
theorem tgone_any {w : World} {R R1 : Nat → Prop} {A A1 : Option Addr} {n c n1 c1 : Nat} {l : List Giv} {ms : List (List Mat)} (h1 : Als w R1 A1 n1 c1 ms) (h : Gvs w R A n c l) (hs : ShortG l) :
    Calls Try.prog 40 #[.slice A1 n1 c1, .slice A n c] w fun e w' => e = .returned (.int .i64 (oneI l ms)) ∧ Below w.heap.size w w' := by
  have HM := Lib.hid (fun W (hW : Below w.heap.size w W) (A2 : Option Addr) (n2 c2 : Nat) (m : List Mat) (hm : Ms W (fun _ => True) A2 n2 c2 m) => tgall_any (w := W) hm (h.keep (Kept.all hW R) (fun _ h _ => h)) hs)
  have HT := Lib.hid (tri_all l)
  have HE : Hid (oneI l ms = most (allI l) ms) := rfl
  generalize oneI l ms = r at *
  generalize allI l = f at *
  have hle := Rw.le h1
  have hcap := Rw.cap h1
  have HL := Lib.hid (Rw.len h1)
  unfold maxLen at hcap
  have H1 := Lib.hid h1
  clear h h1 hs
  go_enter Try.func40, Try.ntmps40
  go_wp2
  go_loopw [5, 10] (fun x i wr => ∃ j : Nat, j ≤ n1 ∧ i = .int .i64 j ∧ x = .int .i64 (most f (ms.take j)) ∧ Below w.heap.size w wr) (fun _ i _ => n1 - (intOf i).toNat)
  case atStart => exact ⟨0, Nat.zero_le _, rfl, rfl, Below.refl _ _⟩
  case round =>
    obtain ⟨j, hj, rfl, rfl, hb⟩ := hrel
    have HB := Lib.hid hb
    clear hb
    by_cases hlt : j < n1
    · obtain ⟨b, o, m, A2, n2, c2, rfl, _, hbl, hx, c0, hin⟩ := (H1.out.keep (Kept.all HB.out _) (R' := fun _ => True) (fun _ _ _ => trivial)).at_ hlt
      have HS := Lib.hid (most_step hx (HT.out m).1)
      have HC := Lib.hid (HM.out wr HB.out A2 n2 c2 m hin)
      clear hx hin
      generalize f m = y at *
      generalize most f (ms.take j) = x at *
      generalize hz : most f (ms.take (j + 1)) = z at *
      have HZ := Lib.hid hz
      clear hz
      go_wp2_with (go_at_call 19; refine HC.out.mono ?_; rintro e w2 ⟨rfl, hb2⟩; have B2 := Lib.hid (below_step HB.out hb2); clear hb2)
      go_roundw
      case rel => exact ⟨j + 1, by omega, by go_num, by rw [HZ.out, HS.out], B2.out⟩
      case measure => simp [intOf]; omega
    · obtain rfl : j = n1 := by omega
      go_wp2
      go_ret
      exact ⟨by rw [HE.out, List.take_of_length_le (by have := HL.out; omega)]; rfl, HB.out⟩
set_option maxHeartbeats 3200000 in
theorem tgmet_any {w : World} {R R1 : Nat → Prop} {A A1 : Option Addr} {n c n1 c1 : Nat} {l : List Giv} {ms : Tgt} (h1 : Tg w R1 A1 n1 c1 ms) (h : Gvs w R A n c l) (hs : ShortG l) :
    Calls Try.prog 17 #[.slice A1 n1 c1, .slice A n c] w fun e w' => e = .returned (.int .i64 (metI l ms)) ∧ Below w.heap.size w w' := by
  have HM := Lib.hid (fun W (hW : Below w.heap.size w W) (A2 : Option Addr) (n2 c2 : Nat) (m : List (List Mat)) (hm : Als W (fun _ => True) A2 n2 c2 m) => tgone_any (w := W) hm (h.keep (Kept.all hW R) (fun _ h _ => h)) hs)
  have HT := Lib.hid (tri_one l)
  have HE : Hid (metI l ms = least (oneI l) ms) := rfl
  generalize metI l ms = r at *
  generalize oneI l = f at *
  have hle := Rw.le h1
  have hcap := Rw.cap h1
  have HL := Lib.hid (Rw.len h1)
  unfold maxLen at hcap
  have H1 := Lib.hid h1
  clear h h1 hs
  go_enter Try.func17, Try.ntmps17
  go_wp2
  go_loopw [5, 10] (fun x i wr => ∃ j : Nat, j ≤ n1 ∧ i = .int .i64 j ∧ x = .int .i64 (least f (ms.take j)) ∧ Below w.heap.size w wr) (fun _ i _ => n1 - (intOf i).toNat)
  case atStart => exact ⟨0, Nat.zero_le _, rfl, rfl, Below.refl _ _⟩
  case round =>
    obtain ⟨j, hj, rfl, rfl, hb⟩ := hrel
    have HB := Lib.hid hb
    clear hb
    by_cases hlt : j < n1
    · obtain ⟨b, o, m, A2, n2, c2, rfl, _, hbl, hx, c0, hin⟩ := (H1.out.keep (Kept.all HB.out _) (R' := fun _ => True) (fun _ _ _ => trivial)).at_ hlt
      have HS := Lib.hid (least_step hx (HT.out m).2)
      have HC := Lib.hid (HM.out wr HB.out A2 n2 c2 m hin)
      clear hx hin
      generalize f m = y at *
      generalize least f (ms.take j) = x at *
      generalize hz : least f (ms.take (j + 1)) = z at *
      have HZ := Lib.hid hz
      clear hz
      go_wp2_with (go_at_call 40; refine HC.out.mono ?_; rintro e w2 ⟨rfl, hb2⟩; have B2 := Lib.hid (below_step HB.out hb2); clear hb2)
      go_roundw
      case rel => exact ⟨j + 1, by omega, by go_num, by rw [HZ.out, HS.out], B2.out⟩
      case measure => simp [intOf]; omega
    · obtain rfl : j = n1 := by omega
      go_wp2
      go_ret
      exact ⟨by rw [HE.out, List.take_of_length_le (by have := HL.out; omega)]; rfl, HB.out⟩
end Go.Proofs.Ytjpkemamfccfdaa
/- The reference's Get. -/
namespace Go.Proofs.Ytjpkemamfccfdaa
set_option linter.unusedVariables false
open Go.RowKit

theorem text_beq' (s t : ByteArray) : (s.toList == t.toList) = decide (s = t) := by
  rw [Bool.eq_iff_iff, beq_iff_eq, decide_eq_true_iff]
  constructor
  · intro c
    refine text_eq ?_
    unfold bl
    rw [← ByteArray.toList_eq, ← ByteArray.toList_eq]
    exact c
  · intro h; rw [h]
theorem isG_beq (c : Int) (s : ByteArray) (g : Giv) : isG c s g = ((g.cat == c) && (g.name.toList == s.toList)) := by
  rw [text_beq']
  unfold isG
  by_cases h : g.cat = c <;> simp [h]
set_option maxRecDepth 100000 in
set_option maxHeartbeats 6400000 in
theorem rget_any {w : World} {R : Nat → Prop} {A : Option Addr} {n c : Nat} {l : List Giv} (a : Atr) (h : Gvs w R A n c l) (hs : ShortG l) :
    Calls Try.prog 26 #[.slice A n c, .agg #[.int .i64 a.cat, .string a.name, .bool a.must]] w fun e w' => ∃ A' n' c', e = .returned (.tuple #[.slice A' n' c', .int .i64 (getE l a)]) ∧ Below w.heap.size w w' ∧ Vls w' (fun b => w.heap.size ≤ b) A' n' c' (getR l a) := by
  obtain ⟨ac, an, am⟩ := a
  have hle := Rw.le h
  have hcap := Rw.cap h
  have HL := Lib.hid (Rw.len h)
  unfold maxLen at hcap
  have H := Lib.hid h
  have HS := Lib.hid hs
  have OM := Lib.hid (Ob.made w 23 #[.int .i64 ac, .string an, .bool am])
  have BM := Lib.hid ((Below.refl w.heap.size w).alloc (Nat.le_refl _) (.cells #[.int .i64 ac, .string an, .bool am] 23))
  have HE : Hid (getE l ⟨ac, an, am⟩ = if am = true ∧ bagA l ac an = [] then 4 else 0) := rfl
  have HR : Hid (getR l ⟨ac, an, am⟩ = if getE l ⟨ac, an, am⟩ = 0 then bagA l ac an else []) := rfl
  generalize getR l ⟨ac, an, am⟩ = rr at *
  generalize getE l ⟨ac, an, am⟩ = ee at *
  clear h hs
  simp only
  go_enter Try.func26, Try.ntmps26
  go_wp2
  obtain ⟨W1, hW1⟩ : ∃ W1, w.alloc (.cells #[.int .i64 ac, .string an, .bool am] 23) = W1 := ⟨_, rfl⟩
  rw [hW1] at OM BM
  rw [hW1]
  clear hW1
  go_loopw [6, 11] (fun o i wr => ∃ k : Nat, k ≤ n ∧ o = .slice none 0 0 ∧ i = .int .i64 k ∧ (∀ (j : Nat) (x : Giv), l[j]? = some x → j < k → isG ac an x = false) ∧ Below W1.heap.size W1 wr) (fun _ i _ => n - (intOf i).toNat)
  case atStart => exact ⟨0, Nat.zero_le _, rfl, rfl, fun _ _ _ h => absurd h (Nat.not_lt_zero _), Below.refl _ _⟩
  case round =>
    obtain ⟨k, hk, rfl, rfl, hf, hb⟩ := hrel
    have HF := Lib.hid hf
    have HB := Lib.hid hb
    have HBW := Lib.hid (below_step BM.out hb)
    have OW := OM.out.below hb OM.out.lt
    have q0 := OW.cell 0
    have q1 := OW.cell 1
    have q2 := OW.cell 2
    have OL := Lib.hid OW
    clear hf hb OW
    by_cases hlt : k < n
    · obtain ⟨b, o, x, A', n', c', rfl, hRb, hbl, hx, hok, ⟨c0, c1, c2⟩, hin⟩ := (H.out.keep (Kept.all HBW.out R) (fun _ h _ => h)).at_ hlt
      have HX := Lib.hid hx
      obtain ⟨hsh, hln⟩ := HS.out x (List.mem_of_getElem? hx)
      have hn' : n' ≤ 100000 := by have := Rw.len hin; omega
      have hlen' : x.bag.length = n' := Rw.len hin
      have HZ := Lib.hid (isG_beq ac an x)
      obtain ⟨xc, xn, xb⟩ := x
      simp only at c0 c1 c2 hlen' HZ
      have hal : Below wr.heap.size wr (wr.alloc (.cells #[.int .i64 xc, .string xn, .slice A' n' c'] 48)) := (Below.refl _ _).alloc (Nat.le_refl _) _
      have HIN : Hid (Vls (wr.alloc (.cells #[.int .i64 xc, .string xn, .slice A' n' c'] 48)) (fun _ => True) A' n' c' xb) := Vls.keep hin (Kept.all hal _) (fun _ _ _ => trivial)
      have OX := OL.out.below hal OL.out.lt
      have p0 := OX.cell 0
      have p1 := OX.cell 1
      have p2 := OX.cell 2
      have HLEN := Lib.hid hlen'
      have HB2 := Lib.hid (below_step HBW.out hal)
      have HB3 := Lib.hid (below_step HB.out hal)
      clear hx hok hin hRb hsh hln OX hal hlen'
      by_cases hz : isG ac an ⟨xc, xn, xb⟩ = true
      rotate_left
      · have HZ2 : Hid (isG ac an ⟨xc, xn, xb⟩ = false) := by show _ = _; rw [← Bool.not_eq_true]; exact hz
        clear hz
        have rel : ∀ (j : Nat) (y : Giv), l[j]? = some y → j < k + 1 → isG ac an y = false := fun j y hy hj => by
          by_cases e : j = k
          · subst e; rw [HX.out] at hy; injection hy with hy; subst hy; exact HZ2.out
          · exact HF.out j y hy (by omega)
        have RL := Lib.hid rel
        rw [HZ2.out] at HZ
        clear rel
        cases h1 : (xc == ac)
        · go_wp2_with fail
          go_roundw
          case rel => exact ⟨k + 1, by omega, rfl, by go_num, RL.out, HB3.out⟩
          case measure => simp [intOf]; omega
        · have h2 : (xn.toList == an.toList) = false := by have := HZ.out; rw [h1, Bool.true_and] at this; exact this.symm
          go_wp2_with fail
          go_roundw
          case rel => exact ⟨k + 1, by omega, rfl, by go_num, RL.out, HB3.out⟩
          case measure => simp [intOf]; omega
      · have hh := HZ.out
        rw [hz] at hh
        have h1 : (xc == ac) = true := by
          cases h1 : (xc == ac)
          · rw [h1, Bool.false_and] at hh; cases hh
          · rfl
        have h2 : (xn.toList == an.toList) = true := by
          rw [h1, Bool.true_and] at hh
          exact hh.symm
        have HBG : Hid (bagA l ac an = xb) := by
          show bagA l ac an = xb
          have e := idx_at HX.out hz HF.out
          unfold bagA
          rw [e, HX.out]
          rfl
        rw [HBG.out] at HE HR
        obtain ⟨A5, c5, w5, r5, hb5, hv5⟩ := copy_bag HIN.out (by omega)
        have R5 := Lib.hid r5
        rw [size_al] at R5
        have HB5 := Lib.hid (below_step HB2.out hb5)
        have HV5 : Hid (Vls w5 (fun b => w.heap.size ≤ b) A5 n' c5 xb) := Vls.keep hv5 (Kept.refl _ _) (fun b h _ => Nat.le_trans HB2.out.size h)
        have c9 : w5.cell? ⟨w.heap.size, 2, none⟩ = some (.bool am) := (World.cell?_of_block (hb5.block _ (Nat.lt_of_lt_of_le (by have := OM.out.lt; omega) HB3.out.size))).trans p2
        clear hh hz r5 hb5 hv5
        have e0 : (xb = []) = (n' = 0) := by rw [← HLEN.out, List.length_eq_zero_iff]
        simp only [e0] at HE
        rcases Nat.eq_zero_or_pos n' with rfl | hpos
        · cases am
          · have HE2 : Hid (ee = 0) := by show ee = 0; rw [HE.out]; simp
            have HR2 : Hid (rr = xb) := by show rr = _; rw [HR.out, if_pos HE2.out]
            go_wp2_with (at_builtin; refine wpList_append_run (o := ⟨some 30, _, _, _, _, _⟩) rfl _ _ _ _ rfl rfl rfl R5.out ?_)
            go_ret2
            exact ⟨A5, 0, c5, by rw [HE2.out]; rfl, HB5.out, by rw [HR2.out]; exact HV5.out⟩
          · have HE2 : Hid (ee = 4) := by show ee = 4; rw [HE.out]; simp
            have HR2 : Hid (rr = []) := by show rr = _; rw [HR.out, if_neg (by rw [HE2.out]; decide)]
            go_wp2_with (at_builtin; refine wpList_append_run (o := ⟨some 30, _, _, _, _, _⟩) rfl _ _ _ _ rfl rfl rfl R5.out ?_)
            go_ret2
            exact ⟨none, 0, 0, by rw [HE2.out]; rfl, HB5.out, by rw [HR2.out]; exact Rw.nil_ _ _ _ _⟩
        · have hne2 : ((n' : Int) == 0) = false := by rw [beq_eq_false_iff_ne]; omega
          have HE2 : Hid (ee = 0) := by show ee = 0; rw [HE.out, if_neg (by omega)]
          have HR2 : Hid (rr = xb) := by show rr = _; rw [HR.out, if_pos HE2.out]
          go_wp2_with (at_builtin; refine wpList_append_run (o := ⟨some 30, _, _, _, _, _⟩) rfl _ _ _ _ rfl rfl rfl R5.out ?_)
          go_ret2
          exact ⟨A5, n', c5, by rw [HE2.out]; rfl, HB5.out, by rw [HR2.out]; exact HV5.out⟩
    · obtain rfl : k = n := by omega
      have HBG : Hid (bagA l ac an = []) := bag_none (by rw [idx_none (fun j x hx => HF.out j x hx (by have := (List.getElem?_eq_some_iff.1 hx).1; have := HL.out; omega))]; omega)
      rw [HBG.out] at HE HR
      cases am
      · have HE2 : Hid (ee = 0) := by show ee = 0; rw [HE.out]; simp
        have HR2 : Hid (rr = []) := by show rr = _; rw [HR.out, if_pos HE2.out]
        go_wp2_with fail
        go_ret2
        exact ⟨none, 0, 0, by rw [HE2.out]; rfl, HBW.out, by rw [HR2.out]; exact Rw.nil_ _ _ _ _⟩
      · have HE2 : Hid (ee = 4) := by show ee = 4; rw [HE.out]; simp
        have HR2 : Hid (rr = []) := by show rr = _; rw [HR.out, if_neg (by rw [HE2.out]; decide)]
        go_wp2_with fail
        go_ret2
        exact ⟨none, 0, 0, by rw [HE2.out]; rfl, HBW.out, by rw [HR2.out]; exact Rw.nil_ _ _ _ _⟩
end Go.Proofs.Ytjpkemamfccfdaa
/- The reference's Match and Target. -/
namespace Go.Proofs.Ytjpkemamfccfdaa
set_option linter.unusedVariables false
open Go.RowKit

/-- What a value comes to, as the reference reckons it: is it met, and an error. -/
def okE (m : Mat) (v : Vl) : Bool × Int := if m.op = 1 then (veq v m.v, if v.k = m.v.k then 0 else 2) else if m.op = 2 then lessOf v m.v else lessOf m.v v
theorem less_err (a b : Vl) (h : (lessOf a b).2 ≠ 0) : (lessOf a b).1 = false := by
  rw [lessOf_eq] at h ⊢
  by_cases h1 : a.right ∧ b.right
  · rw [if_pos h1] at h ⊢
    by_cases h2 : a.k ≠ b.k ∨ a.k = 1
    · rw [if_pos h2]
    · rw [if_neg h2] at h
      split at h <;> simp at h
  · rw [if_neg h1]
theorem held_okE (m : Mat) (v : Vl) : heldI m v = if (okE m v).1 = true then 2 else if (okE m v).2 = 0 then 0 else 1 := by
  have hl : ∀ a b : Vl, lessI a b = if (lessOf a b).1 = true then 2 else if (lessOf a b).2 = 0 then 0 else 1 := fun a b => by
    unfold lessI trI
    by_cases h : (lessOf a b).2 = 0
    · rw [if_pos h, if_pos h]
    · rw [if_neg h, if_neg h, less_err a b h]; rfl
  unfold heldI okE
  by_cases h1 : m.op = 1
  · rw [if_pos h1, if_pos h1]
    unfold sameI trI
    by_cases hk : v.k = m.v.k
    · rw [if_pos hk, if_pos hk]; simp
    · rw [if_neg hk, if_neg hk, veq_false (fun e => hk (by rw [e]))]; simp
  · rw [if_neg h1, if_neg h1]
    by_cases h2 : m.op = 2
    · rw [if_pos h2, if_pos h2]; exact hl _ _
    · rw [if_neg h2, if_neg h2]; exact hl _ _
theorem most_hit {α : Type} {f : α → Int} (hf : ∀ x, Tri (f x)) {l : List α} {k : Nat} {x : α} (h : l[k]? = some x) (h2 : f x = 2) : most f l = 2 := by
  have h1 := (most_le.1 (Int.le_refl (most f l))).2 x (List.mem_of_getElem? h)
  have := tri_most hf l
  unfold Tri at this
  omega

set_option maxRecDepth 100000 in
set_option maxHeartbeats 12800000 in
theorem rtmatch_any {w : World} {R : Nat → Prop} {A : Option Addr} {n c : Nat} {l : List Giv} (m : Mat) (hm : m.v.s.size ≤ maxLen) (h : Gvs w R A n c l) (hs : ShortG l) :
    Calls Try.prog 16 #[m.val, .slice A n c] w fun e w' => e = .returned (.int .i64 (matchI l m)) ∧ Below w.heap.size w w' := by
  have HG := Lib.hid (fun W (hW : Below w.heap.size w W) => rget_any (w := W) m.a (h.keep (Kept.all hW R) (fun _ h _ => h)) hs)
  have HC2 := Lib.hid (fun v (hv : v.s.size ≤ maxLen) W => refless_any v m.v hv hm W)
  have HC3 := Lib.hid (fun v (hv : v.s.size ≤ maxLen) W => refless_any m.v v hm hv W)
  have HO := Lib.hid (held_okE m)
  have HT := Lib.hid (tri_held m)
  have HM := Lib.hid (fun (L : List Vl) (k : Nat) (x : Vl) (h : L[k]? = some x) (h2 : heldI m x = 2) => most_hit (tri_held m) h h2)
  have HK : Hid (∀ v, okE m v = if m.op = 1 then (veq v m.v, if v.k = m.v.k then 0 else 2) else if m.op = 2 then lessOf v m.v else lessOf m.v v) := fun v => rfl
  have HE : Hid (matchI l m = if getE l m.a = 0 then most (heldI m) (getR l m.a) else 1) := rfl
  generalize matchI l m = r at *
  generalize heldI m = f at *
  generalize okE m = oe at *
  obtain ⟨⟨mc, mn, mu⟩, op, ⟨k, nn, s⟩⟩ := m
  simp only at HG HE HC2 HC3 HK
  generalize getE l _ = ee at *
  generalize getR l _ = bag at *
  show Calls _ _ #[.agg #[.int .i64 mc, .string mn, .bool mu, .int .i64 op, .int .i64 k, .int .i64 nn, .string s], .slice A n c] w _
  have OM := Lib.hid (Ob.made w 28 #[.int .i64 mc, .string mn, .bool mu, .int .i64 op, .int .i64 k, .int .i64 nn, .string s])
  have BM := Lib.hid ((Below.refl w.heap.size w).alloc (Nat.le_refl _) (.cells #[.int .i64 mc, .string mn, .bool mu, .int .i64 op, .int .i64 k, .int .i64 nn, .string s] 28))
  clear h hs hm
  by_cases h : ee = 0
  rotate_left
  · have h1 : (ee != 0) = true := by rw [bne_iff_ne]; exact h
    have HR : Hid (r = 1) := by show _ = _; rw [HE.out, if_neg h]
    clear h HE
    go_enter Try.func16, Try.ntmps16
    go_wp2_with (go_at_call 26; refine (HG.out _ BM.out).mono ?_; rintro e w1 ⟨A', n', c', rfl, hb1, hbag⟩)
    go_ret
    exact ⟨by rw [HR.out]; rfl, below_step BM.out hb1⟩
  have h1 : (ee != 0) = false := by rw [bne_eq_false_iff_eq]; exact h
  have HR : Hid (r = most f bag) := by show _ = _; rw [HE.out, if_pos h]
  clear h HE
  go_enter Try.func16, Try.ntmps16
  go_wp2_with (go_at_call 26; refine (HG.out _ BM.out).mono ?_; rintro e w1 ⟨A', n', c', rfl, hb1, hbag⟩; have B1 := Lib.hid (below_step BM.out hb1); have O1 := Lib.hid (OM.out.below hb1 OM.out.lt); have V1 := Lib.hid (Vls.keep hbag (Kept.refl _ _) (R' := fun _ => True) (fun _ _ _ => trivial)); have hle := Rw.le hbag; have hcap := Rw.cap hbag; have HL := Lib.hid (Rw.len hbag); clear hb1 hbag)
  unfold maxLen at hcap
  go_loopw [7, 23] (fun x i wr => ∃ j : Nat, j ≤ n' ∧ i = .int .i64 j ∧ x = .int .i64 (most f (bag.take j)) ∧ most f (bag.take j) ≤ 1 ∧ Below w1.heap.size w1 wr) (fun _ i _ => n' - (intOf i).toNat)
  case atStart => exact ⟨0, Nat.zero_le _, rfl, rfl, (by decide : (0 : Int) ≤ 1), Below.refl _ _⟩
  case round =>
    obtain ⟨j, hj, rfl, rfl, hx1, hb⟩ := hrel
    have HB := Lib.hid hb
    have BW := Lib.hid (below_step B1.out hb)
    have OW := O1.out.below hb O1.out.lt
    have q0 := OW.cell 0
    have q1 := OW.cell 1
    have q2 := OW.cell 2
    have q3 := OW.cell 3
    have q4 := OW.cell 4
    have q5 := OW.cell 5
    have q6 := OW.cell 6
    have OL := Lib.hid OW
    have HX1 := Lib.hid hx1
    clear hb OW hx1
    by_cases hlt : j < n'
    · obtain ⟨b, o, v, rfl, _, hbl, hx, hok, c0, c1, c2⟩ := (V1.out.keep (Kept.all HB.out _) (R' := fun _ => True) (fun _ _ _ => trivial)).at_ hlt
      have HS := Lib.hid (most_step hx (HT.out v).1)
      have HH := Lib.hid (HM.out bag j _ hx)
      have C2 := Lib.hid (HC2.out v hok.2.2)
      have C3 := Lib.hid (HC3.out v hok.2.2)
      have HOV := Lib.hid (HO.out v)
      have HKV := Lib.hid (HK.out v)
      obtain ⟨vk, vn, vs⟩ := v
      simp only at c0 c1 c2
      clear hx hok HO HK HM HT HC2 HC3
      have e1 := fun W => val_eq vk vn k nn vs s W
      obtain ⟨z0, hz0⟩ : ∃ z, oe ⟨vk, vn, vs⟩ = z := ⟨_, rfl⟩
      obtain ⟨ob, oo⟩ := z0
      rw [hz0] at HOV HKV
      clear hz0
      generalize f ⟨vk, vn, vs⟩ = y at *
      generalize hx0 : most f (bag.take j) = x at *
      generalize hz : most f (bag.take (j + 1)) = z at *
      have HZ := Lib.hid hz
      have HXE := Lib.hid hx0
      clear hz hx0
      have BX := Lib.hid (below_step HB.out ((Below.refl wr.heap.size wr).alloc (Nat.le_refl _) (.cells #[.int .i64 vk, .int .i64 vn, .string vs] 25)))
      have OX := OL.out.keep (w' := wr.alloc (.cells #[.int .i64 vk, .int .i64 vn, .string vs] 25)) (Below.heap_alloc _ _ _ OL.out.lt)
      have p0 := OX.cell 0
      have p1 := OX.cell 1
      have p2 := OX.cell 2
      have p3 := OX.cell 3
      have p4 := OX.cell 4
      have p5 := OX.cell 5
      have p6 := OX.cell 6
      clear OX
      simp only at HOV
      have XP : Hid (0 ≤ x) := by show _ ≤ _; rw [← HXE.out]; exact most_zero _
      clear HXE
      by_cases h1' : op = 1
      · subst h1'
        by_cases hkk : vk = k
        · subst hkk
          have HP1 : Hid (ob = veq ⟨vk, vn, vs⟩ ⟨vk, nn, s⟩) := by show _ = _; have := HKV.out; rw [if_pos rfl] at this; exact congrArg Prod.fst this
          have HP2 : Hid (oo = 0) := by show _ = _; have := HKV.out; rw [if_pos rfl] at this; exact (congrArg Prod.snd this).trans (if_pos rfl)
          rw [← HP1.out] at e1
          rw [HP2.out] at HOV
          clear HP1 HP2 HKV C2 C3
          cases ob
          rotate_left
          · have HY : Hid (y = 2) := by show _ = _; rw [HOV.out, if_pos rfl]
            go_wp2_with fail
            go_ret
            exact ⟨by rw [HR.out, HH.out HY.out]; rfl, below_step B1.out BX.out⟩
          have HY : Hid (y = 0) := by show _ = _; rw [HOV.out]; simp
          go_wp2_with fail
          go_roundw
          case rel => exact ⟨j + 1, by omega, by go_num, by rw [HZ.out, HS.out, HY.out]; rw [show max x 0 = x by have := XP.out; omega], by rw [HZ.out, HS.out, HY.out]; have := HX1.out; omega, BX.out⟩
          case measure => simp [intOf]; omega
        · have g1 : (vk != k) = true := by rw [bne_iff_ne]; exact hkk
          have HP1 : Hid (ob = veq ⟨vk, vn, vs⟩ ⟨k, nn, s⟩) := by show _ = _; have := HKV.out; rw [if_pos rfl] at this; exact congrArg Prod.fst this
          have HP2 : Hid (oo = 2) := by show _ = _; have := HKV.out; rw [if_pos rfl] at this; exact (congrArg Prod.snd this).trans (if_neg hkk)
          rw [← HP1.out] at e1
          rw [HP2.out] at HOV
          clear HP1 HP2 HKV C2 C3
          cases ob
          rotate_left
          · have HY : Hid (y = 2) := by show _ = _; rw [HOV.out, if_pos rfl]
            go_wp2_with fail
            go_ret
            exact ⟨by rw [HR.out, HH.out HY.out]; rfl, below_step B1.out BX.out⟩
          have HY : Hid (y = 1) := by show _ = _; rw [HOV.out]; simp
          go_wp2_with fail
          go_roundw
          case rel => exact ⟨j + 1, by omega, by go_num, by rw [HZ.out, HS.out, HY.out]; rw [show max x 1 = 1 by have := HX1.out; omega], by rw [HZ.out, HS.out, HY.out]; have := HX1.out; omega, BX.out⟩
          case measure => simp [intOf]; omega
      have g1 : (op == 1) = false := by rw [beq_eq_false_iff_ne]; exact h1'
      by_cases h2' : op = 2
      · subst h2'
        have HP1 : Hid ((lessOf ⟨vk, vn, vs⟩ ⟨k, nn, s⟩).1 = ob) := by show _ = _; have := HKV.out; rw [if_neg (by decide), if_pos rfl] at this; exact (congrArg Prod.fst this).symm
        have HP2 : Hid ((lessOf ⟨vk, vn, vs⟩ ⟨k, nn, s⟩).2 = oo) := by show _ = _; have := HKV.out; rw [if_neg (by decide), if_pos rfl] at this; exact (congrArg Prod.snd this).symm
        clear HKV
        cases ob
        rotate_left
        · have HY : Hid (y = 2) := by show _ = _; rw [HOV.out, if_pos rfl]
          go_wp2_with (go_at_call 39; refine (C2.out _).mono ?_; rintro e w2 ⟨rfl, hb2⟩; rw [HP1.out, HP2.out]; have B2 := Lib.hid (below_step HB.out (Below.lit hb2)); clear hb2)
          go_ret
          exact ⟨by rw [HR.out, HH.out HY.out]; rfl, below_step B1.out B2.out⟩
        by_cases h0 : oo = 0
        · have HY : Hid (y = 0) := by show _ = _; rw [HOV.out, h0]; simp
          subst h0
          go_wp2_with (go_at_call 39; refine (C2.out _).mono ?_; rintro e w2 ⟨rfl, hb2⟩; rw [HP1.out, HP2.out]; have B2 := Lib.hid (below_step HB.out (Below.lit hb2)); clear hb2)
          go_roundw
          case rel => exact ⟨j + 1, by omega, by go_num, by rw [HZ.out, HS.out, HY.out]; rw [show max x 0 = x by have := XP.out; omega], by rw [HZ.out, HS.out, HY.out]; have := HX1.out; omega, B2.out⟩
          case measure => simp [intOf]; omega
        · have HY : Hid (y = 1) := by show _ = _; rw [HOV.out, if_neg h0]; simp
          have g0 : (oo != 0) = true := by rw [bne_iff_ne]; exact h0
          clear h0
          go_wp2_with (go_at_call 39; refine (C2.out _).mono ?_; rintro e w2 ⟨rfl, hb2⟩; rw [HP1.out, HP2.out]; have B2 := Lib.hid (below_step HB.out (Below.lit hb2)); clear hb2)
          go_roundw
          case rel => exact ⟨j + 1, by omega, by go_num, by rw [HZ.out, HS.out, HY.out]; rw [show max x 1 = 1 by have := HX1.out; omega], by rw [HZ.out, HS.out, HY.out]; have := HX1.out; omega, B2.out⟩
          case measure => simp [intOf]; omega
      have g2 : (op == 2) = false := by rw [beq_eq_false_iff_ne]; exact h2'
      have HP1 : Hid ((lessOf ⟨k, nn, s⟩ ⟨vk, vn, vs⟩).1 = ob) := by show _ = _; have := HKV.out; rw [if_neg h1', if_neg h2'] at this; exact (congrArg Prod.fst this).symm
      have HP2 : Hid ((lessOf ⟨k, nn, s⟩ ⟨vk, vn, vs⟩).2 = oo) := by show _ = _; have := HKV.out; rw [if_neg h1', if_neg h2'] at this; exact (congrArg Prod.snd this).symm
      clear HKV
      cases ob
      rotate_left
      · have HY : Hid (y = 2) := by show _ = _; rw [HOV.out, if_pos rfl]
        go_wp2_with (go_at_call 39; refine (C3.out _).mono ?_; rintro e w2 ⟨rfl, hb2⟩; rw [HP1.out, HP2.out]; have B2 := Lib.hid (below_step HB.out (Below.lit hb2)); clear hb2)
        go_ret
        exact ⟨by rw [HR.out, HH.out HY.out]; rfl, below_step B1.out B2.out⟩
      by_cases h0 : oo = 0
      · have HY : Hid (y = 0) := by show _ = _; rw [HOV.out, h0]; simp
        subst h0
        go_wp2_with (go_at_call 39; refine (C3.out _).mono ?_; rintro e w2 ⟨rfl, hb2⟩; rw [HP1.out, HP2.out]; have B2 := Lib.hid (below_step HB.out (Below.lit hb2)); clear hb2)
        go_roundw
        case rel => exact ⟨j + 1, by omega, by go_num, by rw [HZ.out, HS.out, HY.out]; rw [show max x 0 = x by have := XP.out; omega], by rw [HZ.out, HS.out, HY.out]; have := HX1.out; omega, B2.out⟩
        case measure => simp [intOf]; omega
      · have HY : Hid (y = 1) := by show _ = _; rw [HOV.out, if_neg h0]; simp
        have g0 : (oo != 0) = true := by rw [bne_iff_ne]; exact h0
        clear h0
        go_wp2_with (go_at_call 39; refine (C3.out _).mono ?_; rintro e w2 ⟨rfl, hb2⟩; rw [HP1.out, HP2.out]; have B2 := Lib.hid (below_step HB.out (Below.lit hb2)); clear hb2)
        go_roundw
        case rel => exact ⟨j + 1, by omega, by go_num, by rw [HZ.out, HS.out, HY.out]; rw [show max x 1 = 1 by have := HX1.out; omega], by rw [HZ.out, HS.out, HY.out]; have := HX1.out; omega, B2.out⟩
        case measure => simp [intOf]; omega
    · obtain rfl : j = n' := by omega
      go_wp2
      go_ret
      exact ⟨by rw [HR.out, List.take_of_length_le (by have := HL.out; omega)]; rfl, BW.out⟩
end Go.Proofs.Ytjpkemamfccfdaa
/- The reference's Target: three loops in one another. -/
namespace Go.Proofs.Ytjpkemamfccfdaa
set_option linter.unusedVariables false
open Go.RowKit

set_option maxRecDepth 100000 in
set_option maxHeartbeats 6400000 in
theorem rtarget_any {w : World} {R R1 : Nat → Prop} {A A0 : Option Addr} {n c n0 c0 : Nat} {l : List Giv} {t : Tgt} (h0 : Tg w R1 A0 n0 c0 t) (h : Gvs w R A n c l) (hs : ShortG l) :
    Calls Try.prog 18 #[.slice A0 n0 c0, .slice A n c] w fun e w' => e = .returned (.int .i64 (metI l t)) ∧ Below w.heap.size w w' := by
  have HM := Lib.hid (fun W (hW : Below w.heap.size w W) (m : Mat) (hm : m.v.s.size ≤ maxLen) => rtmatch_any (w := W) m hm (h.keep (Kept.all hW R) (fun _ h _ => h)) hs)
  have T1 := Lib.hid (fun x => (tri_one l x).2)
  have T2 := Lib.hid (fun x => (tri_all l x).1)
  have T3 := Lib.hid (fun x => (tri_match l x).2)
  have E0 : Hid (metI l t = least (oneI l) t) := rfl
  have E1 : Hid (∀ x, oneI l x = most (allI l) x) := fun _ => rfl
  have E2 : Hid (∀ x, allI l x = least (matchI l) x) := fun _ => rfl
  generalize metI l t = r at *
  generalize oneI l = f1 at *
  generalize allI l = f2 at *
  generalize matchI l = f3 at *
  have hle := Rw.le h0
  have hcap := Rw.cap h0
  have HL := Lib.hid (Rw.len h0)
  unfold maxLen at hcap
  have H0 := Lib.hid h0
  clear h h0 hs
  go_enter Try.func18, Try.ntmps18
  go_wp2
  go_loopw [5, 16] (fun x i wr => ∃ j : Nat, j ≤ n0 ∧ i = .int .i64 j ∧ x = .int .i64 (least f1 (t.take j)) ∧ Below w.heap.size w wr) (fun _ i _ => n0 - (intOf i).toNat)
  case atStart => exact ⟨0, Nat.zero_le _, rfl, rfl, Below.refl _ _⟩
  case round =>
    obtain ⟨j, hj, rfl, rfl, hb⟩ := hrel
    have HB := Lib.hid hb
    clear hb
    by_cases hlt : j < n0
    case neg =>
      obtain rfl : j = n0 := by omega
      go_wp2
      go_ret
      exact ⟨by rw [E0.out, List.take_of_length_le (by have := HL.out; omega)]; rfl, HB.out⟩
    obtain ⟨b, o, x, A1, n1, c1, rfl, _, _, hx, x0, hA⟩ := (H0.out.keep (Kept.all HB.out _) (R' := fun _ => True) (fun _ _ _ => trivial)).at_ hlt
    have HS := Lib.hid (least_step hx (T1.out x))
    have HL1 := Lib.hid (Rw.len hA)
    have hle1 := Rw.le hA
    have hcap1 := Rw.cap hA
    unfold maxLen at hcap1
    have HA := Lib.hid hA
    have EX := Lib.hid (E1.out x)
    clear hx hA
    generalize f1 x = y1 at *
    generalize least f1 (t.take j) = a1 at *
    generalize hz : least f1 (t.take (j + 1)) = z1 at *
    have HZ1 := Lib.hid hz
    clear hz
    obtain ⟨w1, hw1⟩ : ∃ w1, w1 = wr := ⟨wr, rfl⟩
    subst hw1
    go_wp2_with fail
    go_loopw [8, 22] (fun u i wq => ∃ q : Nat, q ≤ n1 ∧ i = .int .i64 q ∧ u = .int .i64 (most f2 (x.take q)) ∧ Below w1.heap.size w1 wq) (fun _ i _ => n1 - (intOf i).toNat)
    case atStart => exact ⟨0, Nat.zero_le _, rfl, rfl, Below.refl _ _⟩
    case round =>
      clear x0
      obtain ⟨q, hq, rfl, rfl, hbw⟩ := hrel
      have HB1 := Lib.hid (below_step HB.out hbw)
      have HBQ := Lib.hid hbw
      have HA1 := Lib.hid (HA.out.keep (Kept.all hbw _) (R' := fun _ => True) (fun _ _ _ => trivial))
      clear hbw
      by_cases hlt1 : q < n1
      case neg =>
        obtain rfl : q = n1 := by omega
        have HY : Hid (most f2 (x.take q) = y1) := by show _ = _; rw [EX.out, List.take_of_length_le (by have := HL1.out; omega)]
        rw [HY.out]
        go_wp2_with fail
        go_roundw
        case rel => exact ⟨j + 1, by omega, by go_num, by rw [HZ1.out, HS.out], HB1.out⟩
        case measure => simp [intOf]; omega
      obtain ⟨b1, o1, y, A2, n2, c2, rfl, _, _, hy, y0, hM⟩ := HA1.out.at_ hlt1
      have HS1 := Lib.hid (most_step hy (T2.out y))
      have HL2 := Lib.hid (Rw.len hM)
      have hle2 := Rw.le hM
      have hcap2 := Rw.cap hM
      unfold maxLen at hcap2
      have HMS := Lib.hid hM
      have EY := Lib.hid (E2.out y)
      clear hy hM
      generalize f2 y = y2 at *
      generalize most f2 (x.take q) = a2 at *
      generalize hz : most f2 (x.take (q + 1)) = z2 at *
      have HZ2 := Lib.hid hz
      clear hz
      obtain ⟨w2, hw2⟩ : ∃ w2, w2 = wr := ⟨wr, rfl⟩
      subst hw2
      go_wp2_with fail
      go_loopw [11, 28] (fun u i wq => ∃ p : Nat, p ≤ n2 ∧ i = .int .i64 p ∧ u = .int .i64 (least f3 (y.take p)) ∧ Below w2.heap.size w2 wq) (fun _ i _ => n2 - (intOf i).toNat)
      case atStart => exact ⟨0, Nat.zero_le _, rfl, rfl, Below.refl _ _⟩
      case round =>
        clear y0
        obtain ⟨p, hp, rfl, rfl, hbw⟩ := hrel
        have HB2 := Lib.hid (below_step HB1.out hbw)
        have HBP := Lib.hid hbw
        have HBQ2 := Lib.hid (below_step HBQ.out hbw)
        have HM1 := Lib.hid (HMS.out.keep (Kept.all hbw _) (R' := fun _ => True) (fun _ _ _ => trivial))
        clear hbw
        by_cases hlt2 : p < n2
        case neg =>
          obtain rfl : p = n2 := by omega
          have HY2 : Hid (least f3 (y.take p) = y2) := by show _ = _; rw [EY.out, List.take_of_length_le (by have := HL2.out; omega)]
          rw [HY2.out]
          go_wp2_with fail
          go_roundw
          case rel => exact ⟨q + 1, by omega, by go_num, by rw [HZ2.out, HS1.out], HBQ2.out⟩
          case measure => simp [intOf]; omega
        obtain ⟨b2, o2, m, rfl, _, _, hm, hok, c0', c1', c2', c3', c4', c5', c6'⟩ := HM1.out.at_ hlt2
        have HS2 := Lib.hid (least_step hm (T3.out m))
        have HC := Lib.hid (fun W hW => HM.out W hW m hok.2.2.2.2)
        obtain ⟨⟨mc, mn, mu⟩, op, ⟨k, nn, s⟩⟩ := m
        simp only at c0' c1' c2' c3' c4' c5' c6'
        have HC2 : Hid (∀ W : World, Below w.heap.size w W → Calls Try.prog 16 #[.agg #[.int .i64 mc, .string mn, .bool mu, .int .i64 op, .int .i64 k, .int .i64 nn, .string s], .slice A n c] W fun e w' => e = .returned (.int .i64 (f3 ⟨⟨mc, mn, mu⟩, op, ⟨k, nn, s⟩⟩)) ∧ Below W.heap.size W w') := HC.out
        clear HC hm hok
        generalize f3 _ = y3 at *
        generalize least f3 (y.take p) = a3 at *
        generalize hz : least f3 (y.take (p + 1)) = z3 at *
        have HZ3 := Lib.hid hz
        clear hz
        go_wp2_with (go_at_call 16; refine (HC2.out _ (HB2.out.alloc HB2.out.size _)).mono ?_; rintro e w4 ⟨rfl, hb2⟩; have B2 := Lib.hid (below_step HBP.out (Below.lit hb2)); clear hb2)
        go_roundw
        case rel => exact ⟨p + 1, by omega, by go_num, by rw [HZ3.out, HS2.out], B2.out⟩
        case measure => simp [intOf]; omega
end Go.Proofs.Ytjpkemamfccfdaa
/- A region that draws its order: its head, in whatever order, under a condition on the world (loads that it tells are taken first); and a forced tail, that may break the condition. -/
namespace Go.Proofs.Ytjpkemamfccfdaa
open Go Go.RowKit

section
variable {P : Program} {ops : Array Oper} {md : Region.Mode} {Q : Exit → Act → World → Prop} {S : World → Prop} {L : Array Bool → Act → World → Prop} {n : Nat}

/-- Whatever order is picked among the first n, till L; S holds behind each. -/
def HeadS (P : Program) (md : Region.Mode) (ops : Array Oper) (Q : Exit → Act → World → Prop) (S : World → Prop) (n : Nat) (L : Array Bool → Act → World → Prop) : Nat → Array Bool → Act → World → Prop
  | 0, listed, a, w => L listed a w
  | f + 1, listed, a, w => Region.ready md ops listed ≠ [] ∧ ∀ i ∈ Region.ready md ops listed, i < n ∧ wpOp P ops Q i (fun a' w' => S w' ∧ HeadS P md ops Q S n L f (listed.setIfInBounds i true) a' w') a w

theorem HeadS.any {g : Nat} (hL : ∀ listed a w, L listed a w → wpAny P md ops Q g listed a w) :
    ∀ (f : Nat) (listed : Array Bool) (a : Act) (w : World), HeadS P md ops Q S n L f listed a w → wpAny P md ops Q (f + g) listed a w
  | 0, _, _, _, h => by rw [Nat.zero_add]; exact hL _ _ _ h
  | f + 1, _, _, _, h => by
    rw [show f + 1 + g = (f + g) + 1 by omega]
    exact ⟨fun h0 => absurd h0 h.1, fun i hi => wpOp_mono (fun a' w' h' => HeadS.any hL f _ a' w' h'.2) (h.2 i hi).2⟩

theorem HeadS.first {i : Nat} {oi : Oper} {v : Value} (hi : ops[i]? = some oi) (hsel : ∀ (j : Nat) (o : Oper) cs b, ops[j]? = some o → o.op ≠ .select cs b)
    (hQ : ∀ c a w, Q (.panic c) (a.put oi.dst v) w → Q (.panic c) a w)
    (hs : Region.sinkB md ops n = true) (hc : Region.chainB md ops n = true) (hn : n < ops.size) (hin : i < n) (hdone : ∀ listed a w, L listed a w → ∀ j ∈ Region.ready md ops listed, n ≤ j) :
    ∀ (f : Nat) (listed : Array Bool) (a : Act) (w : World), HeadInv md ops n listed →
      (∀ j oj, ops[j]? = some oj → j ≠ i → listed.getD j true = false → (∀ e ∈ oj.after, Region.binds md e = true → e.on ≠ i) → oi.apart ops oj = true) →
      i ∈ Region.ready md ops listed → YieldsIf P ops S oi v a → S w → HeadS P md ops Q S n L f (listed.setIfInBounds i true) (a.put oi.dst v) w → HeadS P md ops Q S n L (f + 1) listed a w := by
  intro f
  induction f with
  | zero =>
    intro listed a w inv _ hr hy hS H
    refine ⟨fun h => (by rw [h] at hr; cases hr), fun j hj => ?_⟩
    have hjn : j < n := Nat.lt_of_not_le fun h => tail_waits hs hc hn inv _ i rfl hin (mem_ready.1 hr).1 j h hj
    refine ⟨hjn, ?_⟩
    by_cases hji : j = i
    · subst hji; exact hy.wpOp hi hS ⟨hS, H⟩
    · have := hdone _ _ _ H j (ready_mono hj hji)
      omega
  | succ f ih =>
    intro listed a w inv hfree hr hy hS H
    have hun := (mem_ready.1 hr).1
    refine ⟨fun h => (by rw [h] at hr; cases hr), fun j hj => ?_⟩
    have hjn : j < n := Nat.lt_of_not_le fun h => tail_waits hs hc hn inv _ i rfl hin hun j h hj
    refine ⟨hjn, ?_⟩
    by_cases hji : j = i
    · subst hji; exact hy.wpOp hi hS ⟨hS, H⟩
    · have h1 := (H.2 j (ready_mono hj hji)).2
      obtain ⟨hjun, oj, hoj, hall⟩ := mem_ready.1 hj
      have hnot : ∀ e ∈ oj.after, Region.binds md e = true → e.on ≠ i := fun e he hb heq => by
        have h1 := hall e he hb
        rw [heq, getD_both hun] at h1
        cases h1
      have h2 := wpOp_putIf hoj (hfree j oj hoj hji hjun hnot) (fun cs b => hsel i oi cs b hi) (fun cs b => hsel j oj cs b hoj) hQ hy h1
      have hfree' : ∀ k ok, ops[k]? = some ok → k ≠ i → (listed.setIfInBounds j true).getD k true = false →
          (∀ e ∈ ok.after, Region.binds md e = true → e.on ≠ i) → oi.apart ops ok = true := fun k ok hk hki hun' hno => by
        refine hfree k ok hk hki ?_ hno
        by_cases hjk : j = k
        · subst hjk; exact hjun
        · rw [getD_set_ne true hjk] at hun'; exact hun'
      refine wpOp_mono (fun a' w' h3 => ⟨h3.2.1, ih (listed.setIfInBounds j true) a' w' (inv.set hj hjn) hfree' (ready_mono hr (Ne.symm hji)) h3.1 h3.2.1 ?_⟩) h2
      rw [Array.setIfInBounds_comm _ _ hji]
      exact h3.2.2

/-- In a state that can be. -/
def HeadW (P : Program) (md : Region.Mode) (ops : Array Oper) (Q : Exit → Act → World → Prop) (S : World → Prop) (n : Nat) (L : Array Bool → Act → World → Prop) (f : Nat) (listed : Array Bool) (a : Act) (w : World) : Prop :=
  HeadInv md ops n listed → HeadS P md ops Q S n L f listed a w
/-- What is known of the region. -/
def HeadG (md : Region.Mode) (ops : Array Oper) (n : Nat) (L : Array Bool → Act → World → Prop) : Prop :=
  Region.noSelect ops = true ∧ Region.sinkB md ops n = true ∧ Region.chainB md ops n = true ∧ n < ops.size ∧ ∀ listed a w, L listed a w → ∀ j ∈ Region.ready md ops listed, n ≤ j

theorem HeadW_take {i : Nat} {oi : Oper} {v : Value} {f : Nat} {listed : Array Bool} {a : Act} {w : World} (G : HeadG md ops n L) (hi : ops[i]? = some oi)
    (hin : Nat.blt i n = true) (hf : Region.free md ops listed i = true) (hr : (Region.ready md ops listed).contains i = true)
    (hQ : ∀ c a w, Q (.panic c) (a.put oi.dst v) w → Q (.panic c) a w) (hy : YieldsIf P ops S oi v a) (hS : S w)
    (h : HeadW P md ops Q S n L f (listed.setIfInBounds i true) (a.put oi.dst v) w) : HeadW P md ops Q S n L (f + 1) listed a w := fun inv => by
  have hin' : i < n := by simpa using hin
  have hr' : i ∈ Region.ready md ops listed := by simpa using hr
  exact HeadS.first hi (Region.noSelect_spec G.1) hQ G.2.1 G.2.2.1 G.2.2.2.1 hin' G.2.2.2.2 f listed a w inv (Region.free_spec hi hf) hr' hy hS (h (inv.set hr' hin'))

/-- Each of these comes up next. -/
def AllW (P : Program) (md : Region.Mode) (ops : Array Oper) (Q : Exit → Act → World → Prop) (S : World → Prop) (n : Nat) (L : Array Bool → Act → World → Prop) (f : Nat) (listed : Array Bool) (a : Act) (w : World) (rs : List Nat) : Prop :=
  ∀ i ∈ rs, wpOp P ops Q i (fun a' w' => S w' ∧ HeadW P md ops Q S n L f (listed.setIfInBounds i true) a' w') a w
theorem AllW.nil {f : Nat} {listed : Array Bool} {a : Act} {w : World} : AllW P md ops Q S n L f listed a w [] := fun _ h => by cases h
theorem AllW.cons {f : Nat} {listed : Array Bool} {a : Act} {w : World} {i : Nat} {o : Oper} {rs : List Nat} (ho : ops[i]? = some o)
    (h : ∀ K' : Act → World → Prop, (∀ a w, S w → HeadW P md ops Q S n L f (listed.setIfInBounds i true) a w → K' a w) → if Region.wanted o (yielded ops a.tmps) = true then Oper.wp P o a w K' Q else K' (a.put o.dst undef) w)
    (hs : AllW P md ops Q S n L f listed a w rs) : AllW P md ops Q S n L f listed a w (i :: rs) := fun j hj => by
  rcases List.mem_cons.1 hj with rfl | hj
  · exact wpOp_step ho fun K' hK => h K' fun a w h1 h2 => hK a w ⟨h1, h2⟩
  · exact hs j hj
theorem HeadW_ready {rs : List Nat} {f : Nat} {listed : Array Bool} {a : Act} {w : World} (hr : Region.ready md ops listed = rs) (hne : rs.isEmpty = false) (hin : rs.all (fun i => Nat.blt i n) = true)
    (h : AllW P md ops Q S n L f listed a w rs) : HeadW P md ops Q S n L (f + 1) listed a w := fun inv => by
  subst hr
  refine ⟨fun h0 => (by rw [h0] at hne; cases hne), fun i hi => ?_⟩
  have hin' : i < n := by simpa using List.all_eq_true.1 hin i hi
  exact ⟨hin', wpOp_mono (fun a' w' h' => ⟨h'.1, h'.2 (inv.set hi hin')⟩) (h i hi)⟩

/-- What is left: the tail, one behind the other. -/
def TailL (P : Program) (ops : Array Oper) (Q : Exit → Act → World → Prop) (n g : Nat) (r : List Oper) (listed : Array Bool) (a : Act) (w : World) : Prop := Region.seqB .any ops g n listed = true ∧ wpList P ops Q r a w

theorem wp_region_held_tail {id : Nat} {a : Act} {w : World} {l : List Oper} (S : World → Prop) (n : Nat) (hm : P.follows .mixedOrders = true)
    (hB : (Region.noSelect l.toArray && Nat.blt n l.length && Region.sinkB .any l.toArray n && Region.chainB .any l.toArray n) = true)
    (h : HeadG .any l.toArray n (TailL P l.toArray Q n (l.length - n) (l.drop n)) → HeadW P .any l.toArray Q S n (TailL P l.toArray Q n (l.length - n) (l.drop n)) n (Array.replicate l.toArray.size false) a { w with drawn := w.drawn + 1 }) :
    (Code.region id l.toArray true).wp P Q a w := by
  simp only [Bool.and_eq_true] at hB
  obtain ⟨⟨⟨hsel, hn⟩, hs⟩, hc⟩ := hB
  have hn' : n < l.length := by simpa using hn
  have hdl : (l.drop n).length = l.toArray.size - n := by simp
  have inv0 : HeadInv .any l.toArray n (Array.replicate l.toArray.size false) :=
    ⟨by simp, fun j oj _ hl => (by rw [getD_replicate_false] at hl; cases hl), fun t _ ht => getD_in (by simpa using ht) (getD_replicate_false _ _)⟩
  have H := h ⟨hsel, hs, hc, by simpa using hn', fun listed a w hL => seqB_ready hL.1⟩ inv0
  refine wp_region_any hm ?_
  have := HeadS.any (g := l.toArray.size - n) (fun listed a' w' hL => by
    have := wpAny_of_seq (md := .any) (Q' := Q) (l.drop n) n listed a' w' (fun j => by simp [List.getElem?_drop]) (by rw [hdl]; simpa using hL.1) hL.2
    rwa [hdl] at this) _ _ _ _ H
  rw [show n + (l.toArray.size - n) = l.toArray.size by simp; omega] at this
  exact this
end
end Go.Proofs.Ytjpkemamfccfdaa
/- bailiffkeep: how much may be gone through: takes, text. -/
namespace Go.Proofs.Ytjpkemamfccfdaa
set_option linter.unusedVariables false
open Go.RowKit

/-- What is left. -/
def Lf (w : World) (g m : Nat) : Prop := Ob w g 77 #[.int .i64 (m : Int)]
/-- A call that takes so much of it. -/
def Taking (f : FuncId) (args : Array Value) (w : World) (g m c : Nat) : Prop :=
  Calls Try.prog f args w fun e w' => e = .returned (.bool (decide (c ≤ m))) ∧ Only g w w' ∧ (c ≤ m → Lf w' g (m - c))
theorem Only.kept {g : Nat} {w w' : World} (h : Only g w w') {R : Nat → Prop} (hR : ∀ b, R b → b ≠ g) : Kept R w w' := ⟨h.le, fun b hb hl => h.heap hl (hR b hb)⟩
theorem Only.alloc (g : Nat) (w : World) (o : Obj) : Only g w (w.alloc o) := Only.of_below ((Below.refl _ _).alloc (Nat.le_refl _) _)

theorem takes_any {w : World} {g m n : Nat} (hl : Lf w g m) (hm : m ≤ 3000) (hn : n ≤ maxLen) : Taking 37 #[.pointer (some ⟨g, 0, none⟩), .int .i64 (n : Int)] w g m n := by
  unfold Taking
  have c0 := hl.cell 0
  have f0 := hl.frozen 0
  have HL := Lib.hid hl
  unfold maxLen at hn
  clear hl
  by_cases h : n ≤ m
  · have h' : ¬ (m : Int) < (n : Int) := by omega
    have e : (m : Int) - (n : Int) = ((m - n : Nat) : Int) := by omega
    have HD := Lib.hid h
    clear h
    go_enter Try.func37, Try.ntmps37
    go_wp2_with fail
    go_ret
    refine ⟨ret_bool (decide_eq_true HD.out).symm, Only.refl.setCell rfl _, fun _ => ?_⟩
    have := HL.out.put 0 (.int .i64 ((m - n : Nat) : Int))
    simpa [Lf] using this
  · have h' : (m : Int) < (n : Int) := by omega
    have HD := Lib.hid h
    clear h
    go_enter Try.func37, Try.ntmps37
    go_wp2_with fail
    go_ret
    exact ⟨ret_bool (decide_eq_false HD.out).symm, Only.refl, fun h => absurd h HD.out⟩

def textC (s : ByteArray) : Nat := 1 + s.size / 8
theorem ktext_any {w : World} {g m : Nat} (s : ByteArray) (hl : Lf w g m) (hm : m ≤ 3000) (hs : s.size ≤ maxLen) : Taking 38 #[.pointer (some ⟨g, 0, none⟩), .string s] w g m (textC s) := by
  unfold maxLen at hs
  have HT := Lib.hid (takes_any (n := textC s) hl hm (by unfold maxLen textC; omega))
  have e : ((textC s : Nat) : Int) = 1 + (s.size : Int) / 8 := by unfold textC; omega
  unfold Taking at HT ⊢
  rw [e] at HT
  clear hl e
  go_enter Try.func38, Try.ntmps38
  go_wp2_with (go_at_call 37; refine HT.out.mono ?_; rintro e w1 ⟨rfl, hb, hw⟩)
  go_ret
  exact ⟨rfl, hb, hw⟩

def sumC {α : Type} (f : α → Nat) : List α → Nat
  | [] => 0
  | x :: l => f x + sumC f l
theorem sumC_app {α : Type} (f : α → Nat) : ∀ (l m : List α), sumC f (l ++ m) = sumC f l + sumC f m
  | [], m => by simp [sumC]
  | x :: l, m => by simp only [List.cons_append, sumC, sumC_app f l m]; omega
theorem sumC_take {α : Type} {f : α → Nat} {l : List α} {k : Nat} {x : α} (h : l[k]? = some x) : sumC f (l.take (k + 1)) = sumC f (l.take k) + f x := by
  obtain ⟨hk, rfl⟩ := List.getElem?_eq_some_iff.1 h
  rw [List.take_succ_eq_append_getElem hk, sumC_app]
  rfl
theorem sumC_zero {α : Type} (f : α → Nat) (l : List α) : sumC f (l.take 0) = 0 := by simp [sumC]
theorem sumC_all {α : Type} {f : α → Nat} {l : List α} {n : Nat} (h : l.length = n) : sumC f (l.take n) = sumC f l := by rw [List.take_of_length_le (by omega)]
theorem sumC_le {α : Type} {f : α → Nat} {l : List α} {k : Nat} {x : α} (h : l[k]? = some x) : sumC f (l.take k) + f x ≤ sumC f l := by
  rw [← sumC_take h]
  have := sumC_app f (l.take (k + 1)) (l.drop (k + 1))
  rw [List.take_append_drop] at this
  omega
theorem sumC_mem {α : Type} {f : α → Nat} {l : List α} {x : α} (h : x ∈ l) : f x ≤ sumC f l := by
  obtain ⟨k, hk, rfl⟩ := List.getElem_of_mem h
  have := sumC_le (f := f) (List.getElem?_eq_getElem hk)
  omega
theorem Lf.alloc {w : World} {g m : Nat} (h : Lf w g m) (o : Obj) : Lf (w.alloc o) g m := Ob.keep h (Below.heap_alloc w o g (Ob.lt h))
end Go.Proofs.Ytjpkemamfccfdaa
/- bailiffkeep.Few: may a request be gone through in a while? -/
namespace Go.Proofs.Ytjpkemamfccfdaa
set_option linter.unusedVariables false
open Go.RowKit

def valC (v : Vl) : Nat := textC v.s
def givC (g : Giv) : Nat := textC g.name + g.bag.length + sumC valC g.bag
def fewC (l : List Giv) : Nat := 2 * l.length + sumC givC l
theorem few_each {l : List Giv} (h : fewC l ≤ 1200) {g : Giv} (hg : g ∈ l) : g.name.size ≤ 9600 ∧ g.bag.length ≤ 1200 ∧ ∀ v ∈ g.bag, v.s.size ≤ 9600 := by
  have h1 := sumC_mem (f := givC) hg
  unfold fewC at h
  have e : givC g = textC g.name + g.bag.length + sumC valC g.bag := rfl
  have e2 : textC g.name = 1 + g.name.size / 8 := rfl
  refine ⟨by omega, by omega, fun v hv => ?_⟩
  have h2 := sumC_mem (f := valC) hv
  have e3 : valC v = 1 + v.s.size / 8 := rfl
  omega
theorem few_len {l : List Giv} (h : fewC l ≤ 1200) : l.length ≤ 600 := by unfold fewC at h; omega

set_option maxHeartbeats 1600000 in
theorem few_any {w : World} {R : Nat → Prop} {A : Option Addr} {n c : Nat} {l : List Giv} (h0 : Gvs w R A n c l) :
    Calls Try.prog 15 #[.slice A n c] w fun e w' => e = .returned (.bool (decide (fewC l ≤ 1200))) ∧ Below w.heap.size w w' := by
  have hb0 : Below w.heap.size w (w.alloc (.cells #[.int .i64 1200] 77)) := (Below.refl _ _).alloc (Nat.le_refl _) _
  have h : Gvs (w.alloc (.cells #[.int .i64 1200] 77)) (fun b => b < w.heap.size) A n c l := h0.keep (Kept.all hb0 R) (fun b _ hb => hb)
  have hl : Lf (w.alloc (.cells #[.int .i64 1200] 77)) w.heap.size 1200 := Ob.made w _ _
  have hR : ∀ b, b < w.heap.size → b ≠ w.heap.size := fun b hb => by omega
  have hle := Rw.le h
  have hcap := Rw.cap h
  have hbig := Rw.big h
  have HL := Lib.hid (Rw.len h)
  have HT := Lib.hid (takes_any (n := 2 * n) hl (by omega) (by unfold maxLen; omega))
  unfold Taking at HT
  rw [show ((2 * n : Nat) : Int) = 2 * (n : Int) by omega] at HT
  have H := Lib.hid h
  have HR := Lib.hid hR
  have HB0 := Lib.hid hb0
  have HC : Hid (fewC l = 2 * n + sumC givC l) := by show fewC l = _; unfold fewC; rw [HL.out]
  unfold maxLen at hcap
  generalize hcc : fewC l = cc at *
  have HG : Hid (∀ W, Only w.heap.size (w.alloc (.cells #[.int .i64 1200] 77)) W → Below w.heap.size w W) := Lib.hid (fun W hW => hb0.trans (hW.below (by simp) (Nat.le_refl _)))
  clear hcc h hl hR hb0 h0
  generalize hg : w.heap.size = g at *
  by_cases h1 : 2 * n ≤ 1200
  · rw [decide_eq_true h1] at HT
    have H1 := Lib.hid h1
    clear h1
    go_enter Try.func15, Try.ntmps15
    go_wp2_with (go_at_call 37; refine HT.out.mono ?_; rintro e w1 ⟨rfl, hb, hw⟩; have B1 := Lib.hid hb; have W1 := Lib.hid (hw H1.out); clear hb hw)
    go_loopw [18] (fun i wr => ∃ k mk : Nat, k ≤ n ∧ i = .int .i64 k ∧ sumC givC (l.take k) + mk = 1200 - 2 * n ∧ Lf wr g mk ∧ Only g (w.alloc (.cells #[.int .i64 1200] 77)) wr) (fun i _ => n - (intOf i).toNat)
    case atStart => exact ⟨0, 1200 - 2 * n, Nat.zero_le _, rfl, by rw [sumC_zero]; omega, W1.out, B1.out⟩
    case round =>
      obtain ⟨wo, hwo⟩ : ∃ wo, wo = wr := ⟨wr, rfl⟩
      subst hwo
      obtain ⟨k, mk, hk, rfl, hs, hlf, hb⟩ := hrel
      have HS := Lib.hid hs
      have HB := Lib.hid hb
      have HF := Lib.hid hlf
      clear hs hb hlf
      by_cases hlt : k < n
      · obtain ⟨b, o, x, A', n', c', rfl, hRb, hbl, hx, hok, ⟨c0, c1, c2⟩, hin⟩ := (H.out.keep (HB.out.kept HR.out) (fun _ h _ => h)).at_ hlt
        have HX := Lib.hid hx
        have hle' := Rw.le hin
        have hcap' := Rw.cap hin
        have hbig' := Rw.big hin
        have HL' := Lib.hid (Rw.len hin)
        have HIN := Lib.hid hin
        have HSX := Lib.hid (sumC_le (f := givC) hx)
        have HEX : Hid (givC x = textC x.name + n' + sumC valC x.bag) := by show givC x = _; unfold givC; rw [HL'.out]
        have HXT := Lib.hid (ktext_any x.name (HF.out.alloc (.cells #[.int .i64 x.cat, .string x.name, .slice A' n' c'] 48)) (by have := HS.out; omega) hok.2)
        unfold Taking at HXT
        have hne : wo.heap.size ≠ g := by have := HF.out.lt; omega
        unfold maxLen at hcap'
        clear hx hok hin
        by_cases h2 : textC x.name ≤ mk
        · rw [decide_eq_true h2] at HXT
          have H2 := Lib.hid h2
          clear h2
          by_cases h3 : n' ≤ mk - textC x.name
          · have d3 := decide_eq_true h3
            have H3 := Lib.hid h3
            clear h3
            go_wp2_with (first
              | (go_at_call 38; (with_reducible refine HXT.out.mono ?_); rintro e w2 ⟨rfl, hb, hw⟩; have B2 := Lib.hid hb; have W2 := Lib.hid (hw H2.out); have BX := Lib.hid ((Ob.made wo 48 #[.int .i64 x.cat, .string x.name, .slice A' n' c']).keep (hb.heap (by simp) hne)); have g2 := BX.out.cell 2; have HT3 := Lib.hid (takes_any (n := n') W2.out (by have := HS.out; omega) (by unfold maxLen; omega)); unfold Taking at HT3; rw [d3] at HT3; clear hb hw)
              | (go_at_call 37; (with_reducible refine HT3.out.mono ?_); rintro e w3 ⟨rfl, hb, hw⟩; have B3 := Lib.hid hb; have W3 := Lib.hid (hw H3.out); have BX3 := Lib.hid (BX.out.keep (hb.heap BX.out.lt hne)); have g3 := BX3.out.cell 2; clear hb hw))
            go_loopw [38] (fun i wq => ∃ k2 m2 : Nat, k2 ≤ n' ∧ i = .int .i64 k2 ∧ sumC valC (x.bag.take k2) + m2 = mk - textC x.name - n' ∧ Lf wq g m2 ∧ Only g wo wq) (fun i _ => n' - (intOf i).toNat)
            case atStart => exact ⟨0, mk - textC x.name - n', Nat.zero_le _, rfl, by rw [sumC_zero]; omega, W3.out, (Only.alloc _ _ _).trans (B2.out.trans B3.out)⟩
            case round =>
              obtain ⟨wq, hwq⟩ : ∃ wq, wq = wr := ⟨wr, rfl⟩
              subst hwq
              obtain ⟨k2, m2, hk2, rfl, hs, hlf, hb⟩ := hrel
              have HS2 := Lib.hid hs
              have HB2 := Lib.hid hb
              have HF2 := Lib.hid hlf
              clear hs hb hlf
              by_cases hlt2 : k2 < n'
              · obtain ⟨b2, o2, y, rfl, hRb2, hbl2, hy, hoky, ⟨f0, f1, f2⟩⟩ := (HIN.out.keep (HB2.out.kept HR.out) (fun _ h _ => h)).at_ hlt2
                have HY := Lib.hid hy
                have HSY := Lib.hid (sumC_le (f := valC) hy)
                have HEY : Hid (valC y = textC y.s) := rfl
                have HYT := Lib.hid (ktext_any y.s (HF2.out.alloc (.cells #[.int .i64 y.k, .int .i64 y.n, .string y.s] 25)) (by have := HS2.out; have := HS.out; omega) hoky.2.2)
                unfold Taking at HYT
                clear hy hoky
                by_cases h4 : textC y.s ≤ m2
                · rw [decide_eq_true h4] at HYT
                  have H4 := Lib.hid h4
                  clear h4
                  go_wp2_with (go_at_call 38; (with_reducible refine HYT.out.mono ?_); rintro e w4 ⟨rfl, hb, hw⟩; have B4 := Lib.hid hb; have W4 := Lib.hid (hw H4.out); clear hb hw)
                  go_roundw
                  case rel => exact ⟨k2 + 1, m2 - textC y.s, by omega, by go_num, by rw [sumC_take HY.out, HEY.out]; have := HS2.out; have := H4.out; omega, W4.out, HB2.out.trans ((Only.alloc _ _ _).trans B4.out)⟩
                  case measure => simp [intOf]; omega
                · rw [decide_eq_false h4] at HYT
                  have H4 := Lib.hid h4
                  clear h4
                  go_wp2_with (go_at_call 38; (with_reducible refine HYT.out.mono ?_); rintro e w4 ⟨rfl, hb, hw⟩; have B4 := Lib.hid hb; clear hb hw)
                  go_ret
                  have hbad : ¬ cc ≤ 1200 := by
                    have := HC.out; have := HS.out; have := H1.out; have := HSX.out; have := HEX.out; have := H2.out; have := H3.out; have := HS2.out; have := HSY.out; have := HEY.out; have := H4.out
                    omega
                  exact ⟨ret_bool (decide_eq_false hbad).symm, HG.out _ (HB.out.trans (HB2.out.trans ((Only.alloc _ _ _).trans B4.out)))⟩
              · obtain rfl : k2 = n' := by omega
                go_wp2
                go_roundw
                case rel => exact ⟨k + 1, m2, by omega, by go_num, by rw [sumC_take HX.out, HEX.out]; have := HS2.out; rw [sumC_all HL'.out] at this; have := HS.out; have := H2.out; have := H3.out; omega, HF2.out, HB.out.trans HB2.out⟩
                case measure => simp [intOf]; omega
          · have d3 := decide_eq_false h3
            have H3 := Lib.hid h3
            clear h3
            go_wp2_with (first
              | (go_at_call 38; (with_reducible refine HXT.out.mono ?_); rintro e w2 ⟨rfl, hb, hw⟩; have B2 := Lib.hid hb; have W2 := Lib.hid (hw H2.out); have BX := Lib.hid ((Ob.made wo 48 #[.int .i64 x.cat, .string x.name, .slice A' n' c']).keep (hb.heap (by simp) hne)); have g2 := BX.out.cell 2; have HT3 := Lib.hid (takes_any (n := n') W2.out (by have := HS.out; omega) (by unfold maxLen; omega)); unfold Taking at HT3; rw [d3] at HT3; clear hb hw)
              | (go_at_call 37; (with_reducible refine HT3.out.mono ?_); rintro e w3 ⟨rfl, hb, hw⟩; have B3 := Lib.hid hb; clear hb hw))
            go_ret
            have hbad : ¬ cc ≤ 1200 := by
              have := HC.out; have := HS.out; have := H1.out; have := HSX.out; have := HEX.out; have := H2.out; have := H3.out
              omega
            exact ⟨ret_bool (decide_eq_false hbad).symm, HG.out _ (HB.out.trans ((Only.alloc _ _ _).trans (B2.out.trans B3.out)))⟩
        · rw [decide_eq_false h2] at HXT
          have H2 := Lib.hid h2
          clear h2
          go_wp2_with (go_at_call 38; (with_reducible refine HXT.out.mono ?_); rintro e w2 ⟨rfl, hb, hw⟩; have B2 := Lib.hid hb; clear hb hw)
          go_ret
          have hbad : ¬ cc ≤ 1200 := by
            have := HC.out; have := HS.out; have := H1.out; have := HSX.out; have := HEX.out; have := H2.out
            omega
          exact ⟨ret_bool (decide_eq_false hbad).symm, HG.out _ (HB.out.trans ((Only.alloc _ _ _).trans B2.out))⟩
      · obtain rfl : k = n := by omega
        go_wp2
        go_ret
        have hs := HS.out
        rw [sumC_all HL.out] at hs
        have := HC.out
        have := H1.out
        exact ⟨ret_bool (decide_eq_true (by omega)).symm, HG.out _ HB.out⟩
  · rw [decide_eq_false h1] at HT
    have H1 := Lib.hid h1
    clear h1
    go_enter Try.func15, Try.ntmps15
    go_wp2_with (go_at_call 37; refine HT.out.mono ?_; rintro e w1 ⟨rfl, hb, hw⟩; have B1 := Lib.hid hb; clear hb hw)
    go_ret
    have hbad : ¬ cc ≤ 1200 := by have := HC.out; have := H1.out; omega
    exact ⟨ret_bool (decide_eq_false hbad).symm, HG.out _ B1.out⟩
end Go.Proofs.Ytjpkemamfccfdaa
/- bailiffkeep.Asks: a request in new memory. -/
namespace Go.Proofs.Ytjpkemamfccfdaa
set_option linter.unusedVariables false
open Go.RowKit

/-- A row of the call's own of attributes whose bags lie anywhere but in it. -/
def Og (w : World) (base : Nat) (A : Option Addr) (n c : Nat) (l : List Giv) : Prop := Ow 3 (GivAt w (Nb 0 (.slice A n c))) w base 48 A n c l ∧ base ≤ w.heap.size
theorem Og.of_gr {w : World} {base n c : Nat} {A : Option Addr} {l : List Giv} (h : Gr 3 GivAt w base 48 A n c l) : Og w base A n c l :=
  ⟨h.1.mapP fun vs x _ hp => hp.keep (Kept.refl _ _) (fun b hb _ => ⟨Nat.zero_le _, hb.2⟩), h.2⟩
theorem Og.below {w w' : World} {base n c : Nat} {A : Option Addr} {l : List Giv} (h : Og w base A n c l) (hb : Below w.heap.size w w') : Og w' base A n c l :=
  ⟨(h.1.mapP (fun vs x _ hp => hp.keep (Kept.all hb _) (fun _ h _ => h))).below hb, Nat.le_trans h.2 hb.size⟩
theorem Og.gvs {w : World} {base n c : Nat} {A : Option Addr} {l : List Giv} (h : Og w base A n c l) (hn : n ≤ 1000000) : Gvs w (fun _ => True) A n c l :=
  (h.1.mapP (fun vs x _ hp => hp.keep (Kept.refl _ _) (fun _ _ _ => trivial))).rw (by omega) (fun _ _ _ => trivial)
/-- One more, whose bag may lie anywhere. -/
theorem Og.push {w : World} {base n c : Nat} {A : Option Addr} {l : List Giv} {A1 : Option Addr} {n1 c1 : Nat} {g : Giv} (h : Og w base A n c l) (hok : g.ok) (hx : Vls w (Nb 0 (.slice A n c)) A1 n1 c1 g.bag) (hn : n < 1000000) :
    ∃ A' c' w', (Builtin.append_ #[30, 30] 30 #[.slice A n c, .slice (some ⟨w.heap.size, 0, none⟩) 1 1]).run Try.prog (w.alloc (.cells #[.int .i64 g.cat, .string g.name, .slice A1 n1 c1] 48)) = .ok (.slice A' (n + 1) c') w' ∧ Og w' base A' (n + 1) c' (l ++ [g]) ∧ Below base w w' := by
  obtain ⟨i, hi, hz, hs, hb⟩ := info_of givinfo
  have hbase := h.2
  have a1 : Below w.heap.size w (w.alloc (.cells #[.int .i64 g.cat, .string g.name, .slice A1 n1 c1] 48)) := (Below.refl _ _).alloc (Nat.le_refl _) _
  have h' := Og.below h a1
  have hlit : Rw 3 (GivAt (w.alloc (.cells #[.int .i64 g.cat, .string g.name, .slice A1 n1 c1] 48)) (Nb 0 (.slice A n c))) (w.alloc (.cells #[.int .i64 g.cat, .string g.name, .slice A1 n1 c1] 48)) (fun _ => True) (some ⟨w.heap.size, 0, none⟩) 1 1 [g] := by
    have := Rw.lit (P := GivAt (w.alloc (.cells #[.int .i64 g.cat, .string g.name, .slice A1 n1 c1] 48)) (Nb 0 (.slice A n c))) (R := fun _ => True) w 48 (fun _ => [.int .i64 g.cat, .string g.name, .slice A1 n1 c1]) [g] (n := 1) rfl (by omega) trivial (fun _ _ => rfl) (fun y hy => by simp at hy; subst hy; exact GivAt.keep ⟨A1, n1, c1, rfl, hok, hx⟩ (Kept.all a1 _) (fun _ h _ => h))
    simpa using this
  obtain ⟨A', c', w', hrun, hown, hbel, hg, hob⟩ := Ow.app (ty := 30) Try.underlying30 hi hz hs hb rfl (by omega) (by omega) h'.1 hlit (GivAt.one) (by omega) h'.2
  refine ⟨A', c', w', hrun, ⟨hown.mapP fun vs x _ hp => hp.keep ⟨hg.size, fun b hR hlt => hg.block b hlt hR.2⟩ (fun b hR hlt => ⟨hR.1, ?_⟩), Nat.le_trans h'.2 hbel.size⟩, (a1.mono hbase).trans hbel⟩
  rcases hob with e | e
  · rw [e]; exact hR.2
  · rw [e]
    intro he
    injection he with he
    omega

/-- Bags that aren't long. -/
def FewB (l : List Giv) : Prop := ∀ g ∈ l, g.bag.length ≤ 100000
set_option maxRecDepth 100000 in
set_option maxHeartbeats 1600000 in
theorem asks_any {w : World} {R : Nat → Prop} {A : Option Addr} {n c : Nat} {l : List Giv} (h : Gvs w R A n c l) (hf : FewB l) (hn : n ≤ 100000) :
    Calls Try.prog 24 #[.slice A n c] w fun e w' => ∃ A' c', e = .returned (.slice A' n c') ∧ Below w.heap.size w w' ∧ Gr 3 GivAt w' w.heap.size 48 A' n c' l := by
  have hle := Rw.le h
  have hcap := Rw.cap h
  have HL := Lib.hid (Rw.len h)
  unfold maxLen at hcap
  have H := Lib.hid h
  have HF := Lib.hid hf
  clear h hf
  go_enter Try.func24, Try.ntmps24
  go_wp2
  go_loopw [3, 8] (fun out i wr => ∃ (k : Nat) (A' : Option Addr) (c' : Nat), k ≤ n ∧ i = .int .i64 k ∧ out = .slice A' k c' ∧ Gr 3 GivAt wr w.heap.size 48 A' k c' (l.take k) ∧ Below w.heap.size w wr) (fun out i _ => n - (intOf i).toNat)
  case atStart => exact ⟨0, none, 0, Nat.zero_le _, rfl, rfl, Gr.nil _ _ (Nat.le_refl _), Below.refl _ _⟩
  case round =>
    obtain ⟨k, A', c', hk, rfl, rfl, ho, hb⟩ := hrel
    have HO := Lib.hid ho
    have HB := Lib.hid hb
    clear ho hb
    by_cases hlt : k < n
    · obtain ⟨b, o, x, Ax, nx, cx, rfl, hRb, hbl, hx, hok, ⟨x0, x1, x2⟩, hin⟩ := (H.out.keep (Kept.all HB.out R) (fun _ h _ => h)).at_ hlt
      have HX := Lib.hid hx
      have HK := Lib.hid hok
      have hlim : nx ≤ 100000 := by have := HF.out x (List.mem_of_getElem? hx); have := Rw.len hin; omega
      obtain ⟨xc, xn, xb⟩ := x
      simp only at x0 x1 x2 hin
      have D0 := (Below.refl wr.heap.size wr).alloc (Nat.le_refl _) (.cells #[.int .i64 xc, .string xn, .slice Ax nx cx] 48)
      obtain ⟨A5, c5, w5, r5, b5, v5⟩ := copy_bag (hin.keep (Kept.all D0 R) (fun _ h _ => h)) (by omega)
      rw [size_al] at r5 b5 v5
      have q1 := Ob.below (Ob.made wr 48 #[.int .i64 xc, .string xn, .slice Ax nx cx]) b5 (by omega)
      have q4 := q1.frozen 2
      have q5 := q1.put 2 (.slice A5 nx c5)
      have d1 : Below wr.heap.size wr (w5.setCell ⟨wr.heap.size, 2, none⟩ (.slice A5 nx c5)) := (D0.trans (b5.mono (by omega))).setCell (Nat.le_refl _) _
      have v6 : Vls (w5.setCell ⟨wr.heap.size, 2, none⟩ (.slice A5 nx c5)) (Nb w.heap.size (.slice A' k c')) A5 nx c5 xb :=
        v5.keep ⟨by simp [World.setCell], fun b hb _ => Below.heap_setCell _ _ _ _ (by have h1 : wr.heap.size + 1 ≤ b := hb; show b ≠ wr.heap.size; omega)⟩ (fun b hb _ => HO.out.apart b (by have h1 : wr.heap.size + 1 ≤ b := hb; omega))
      obtain ⟨A2, c2, w2, r2, o2, b2⟩ := push_giv (g := ⟨xc, xn, xb⟩) (Gr.below keeps_giv HO.out d1) HK.out v6 (by omega)
      have hz : (w5.setCell ⟨wr.heap.size, 2, none⟩ (.slice A5 nx c5)).heap.size = w5.heap.size := by simp [World.setCell]
      rw [hz] at r2
      simp only at r2
      have R5 := Lib.hid r5
      have R2 := Lib.hid r2
      have O2 := Lib.hid o2
      have B2 := Lib.hid (HB.out.trans ((d1.mono HB.out.size).trans b2))
      have Q5 := Lib.hid q5
      have z2 := q1.cell 2
      have z0 := q1.cell 0
      have z1 := q1.cell 1
      have HZ := Lib.hid hz
      clear hx hok hin D0 r5 b5 v5 q1 q5 d1 v6 hz r2 o2 b2
      go_wp2_with (first
        | (at_builtin; refine wpList_append_run (o := ⟨some 15, _, _, _, _, _⟩) rfl _ _ _ _ rfl rfl rfl R5.out ?_)
        | (at_builtin; refine wpList_append_run (o := ⟨some 20, _, _, _, _, _⟩) rfl _ _ _ _ rfl rfl rfl R2.out ?_))
      go_roundw
      case rel => exact ⟨k + 1, A2, c2, by omega, by go_num, rfl, by rw [take_one HX.out]; exact O2.out, B2.out⟩
      case measure => simp [intOf]; omega
    · obtain rfl : k = n := by omega
      go_wp2
      go_ret
      have ho := HO.out
      rw [List.take_of_length_le (by have := HL.out; omega)] at ho
      exact ⟨A', c', rfl, HB.out, ho⟩
end Go.Proofs.Ytjpkemamfccfdaa
/- apart: the same attribute in memory of its own. -/
namespace Go.Proofs.Ytjpkemamfccfdaa
set_option linter.unusedVariables false
open Go.RowKit Go.Sort

theorem giv_ret {fn : Func} {p : Tmp} {tmps : Array Value} {w : World} {g : Nat} {k : Int} {s : ByteArray} {A : Option Addr} {n c : Nat} (h : fn.results = #[.cell p 48]) (hp : tmps.getD p undef = .pointer (some ⟨g, 0, none⟩)) (hg : Ob w g 48 #[.int .i64 k, .string s, .slice A n c]) :
    (results fn tmps).run Try.prog w = .ok (.agg #[.int .i64 k, .string s, .slice A n c]) w :=
  results_cell_row h tmps w g _ _ (0, 0) _ hp hg Try.underlying48 rfl (by kernel_rfl)
set_option maxRecDepth 100000 in
set_option maxHeartbeats 4000000 in
theorem apart_any {w : World} {R : Nat → Prop} {A : Option Addr} {n c : Nat} (g : Giv) (hs : g.name.size ≤ 1000000) (h : Vls w R A n c g.bag) (hsh : Shorts g.bag) (hn : n ≤ 100000) :
    Calls Try.prog 42 #[.agg #[.int .i64 g.cat, .string g.name, .slice A n c]] w fun e w' => ∃ A' c', e = .returned (.agg #[.int .i64 g.cat, .string g.name, .slice A' n c']) ∧ Below w.heap.size w w' ∧ Vls w' (fun b => w.heap.size ≤ b) A' n c' g.bag := by
  obtain ⟨gc, gn, gb⟩ := g
  simp only at hs h hsh ⊢
  have HCL := Lib.hid (fun W => clone_any gn W hs)
  have B0 := Lib.hid (((Below.refl w.heap.size w).alloc (Nat.le_refl _) (.cells #[.int .i64 gc, .string gn, .slice A n c] 48)).alloc (by rw [size_al]; omega) (.cells #[.int .i64 0, .string ⟨#[]⟩, .slice none 0 0] 48))
  have OB : Ob ((w.alloc (.cells #[.int .i64 gc, .string gn, .slice A n c] 48)).alloc (.cells #[.int .i64 0, .string ⟨#[]⟩, .slice none 0 0] 48)) w.heap.size 48 #[.int .i64 gc, .string gn, .slice A n c] := (Ob.made w _ _).keep (Below.heap_alloc _ _ _ (by rw [size_al]; omega))
  have OR : Ob ((w.alloc (.cells #[.int .i64 gc, .string gn, .slice A n c] 48)).alloc (.cells #[.int .i64 0, .string ⟨#[]⟩, .slice none 0 0] 48)) (w.heap.size + 1) 48 #[.int .i64 0, .string ⟨#[]⟩, .slice none 0 0] := by
    have := Ob.made (w.alloc (.cells #[.int .i64 gc, .string gn, .slice A n c] 48)) 48 #[.int .i64 0, .string ⟨#[]⟩, .slice none 0 0]
    rwa [size_al] at this
  have HSZ : Hid (((w.alloc (.cells #[.int .i64 gc, .string gn, .slice A n c] 48)).alloc (.cells #[.int .i64 0, .string ⟨#[]⟩, .slice none 0 0] 48)).heap.size = w.heap.size + 2) := by show _ = _; rw [size_al, size_al]
  have CP := Lib.hid (fun W (hW : Below w.heap.size w W) => copied_any (h.keep (Kept.all hW R) (fun _ h _ => h)) hsh hn)
  go_enter Try.func42, Try.ntmps42
  go_upto_region 1 with fail
  generalize (w.alloc (.cells #[.int .i64 gc, .string gn, .slice A n c] 48)).alloc (.cells #[.int .i64 0, .string ⟨#[]⟩, .slice none 0 0] 48) = W1 at *
  have KO : Hid (∀ W, Below W1.heap.size W1 W → W.cell? ⟨w.heap.size, 0, none⟩ = some (.int .i64 gc) ∧ W.cell? ⟨w.heap.size, 1, none⟩ = some (.string gn) ∧ W.cell? ⟨w.heap.size, 2, none⟩ = some (.slice A n c)) := by
    show ∀ W, _ → _
    intro W hb
    have o := OB.below hb (by have := HSZ.out; omega)
    exact ⟨o.cell 0, o.cell 1, o.cell 2⟩
  have HOR := Lib.hid OR
  clear OB OR h
  refine wp_region_held_tail (fun w' => Below W1.heap.size W1 w') 9 (by kernel_rfl) (by kernel_rfl) ?_
  intro G
  change HeadW _ _ _ _ _ _ _ _ _ _ (W1.drewN 1)
  have S0 := Lib.hid (below_drewN (Below.refl W1.heap.size W1) 1)
  generalize W1.drewN 1 = v0 at *
  refine HeadW_take (i := 0) (v := ?_) G rfl (by kernel_rfl) (by kernel_rfl) (by kernel_rfl) (fun _ _ _ h => h) (Or.inl ⟨by rfl, ?_⟩) S0.out ?_
  rotate_left
  · intro wz hS
    go_simp
    try with_reducible rfl
  refine HeadW_take (i := 1) (v := ?_) G rfl (by kernel_rfl) (by kernel_rfl) (by kernel_rfl) (fun _ _ _ h => h) (Or.inl ⟨by rfl, ?_⟩) S0.out ?_
  rotate_left
  · intro wz hS
    have hk1 := (KO.out _ hS).1
    go_simp
    try with_reducible rfl
  refine HeadW_take (i := 2) (v := ?_) G rfl (by kernel_rfl) (by kernel_rfl) (by kernel_rfl) (fun _ _ _ h => h) (Or.inl ⟨by rfl, ?_⟩) S0.out ?_
  rotate_left
  · intro wz hS
    go_simp
    try with_reducible rfl
  refine HeadW_take (i := 3) (v := ?_) G rfl (by kernel_rfl) (by kernel_rfl) (by kernel_rfl) (fun _ _ _ h => h) (Or.inl ⟨by rfl, ?_⟩) S0.out ?_
  rotate_left
  · intro wz hS
    have hk1 := (KO.out _ hS).2.1
    go_simp
    try with_reducible rfl
  refine HeadW_take (i := 5) (v := ?_) G rfl (by kernel_rfl) (by kernel_rfl) (by kernel_rfl) (fun _ _ _ h => h) (Or.inl ⟨by rfl, ?_⟩) S0.out ?_
  rotate_left
  · intro wz hS
    go_simp
    try with_reducible rfl
  refine HeadW_take (i := 6) (v := ?_) G rfl (by kernel_rfl) (by kernel_rfl) (by kernel_rfl) (fun _ _ _ h => h) (Or.inl ⟨by rfl, ?_⟩) S0.out ?_
  rotate_left
  · intro wz hS
    have hk1 := (KO.out _ hS).2.2
    go_simp
    try with_reducible rfl
  refine HeadW_ready (rs := [4]) (by kernel_rfl) rfl rfl ?_
  refine AllW.cons rfl (fun K hK => ?_) AllW.nil
  go_simp
  refine (HCL.out _).mono ?_
  rintro e v2 ⟨rfl, hb⟩
  have S2 := Lib.hid (S0.out.trans (hb.mono S0.out.size))
  refine hK _ _ S2.out ?_
  clear hK K hb
  refine HeadW_ready (rs := [7]) (by kernel_rfl) rfl rfl ?_
  refine AllW.cons rfl (fun K hK => ?_) AllW.nil
  go_simp
  refine (CP.out _ (B0.out.trans (S2.out.mono B0.out.size))).mono ?_
  rintro e v3 ⟨A3, c3, rfl, hb, hv⟩
  have S3 := Lib.hid (S2.out.trans (hb.mono S2.out.size))
  have V3 := Lib.hid hv
  have Z2 := Lib.hid S2.out.size
  refine hK _ _ S3.out ?_
  clear hK K hb hv
  refine HeadW_ready (rs := [8]) (by kernel_rfl) rfl rfl ?_
  refine AllW.cons rfl (fun K hK => ?_) AllW.nil
  go_simp
  refine hK _ _ S3.out ?_
  clear hK K
  intro _
  refine ⟨by kernel_rfl, ?_⟩
  simp only [List.drop_succ_cons, List.drop_zero]
  have OR3 := HOR.out.below S3.out (by have := HSZ.out; omega)
  have P1 := OR3.put 0 (.int .i64 gc)
  have P2 := P1.put 1 (.string gn)
  have P3 := Lib.hid (P2.put 2 (.slice A3 n c3))
  have f0 := OR3.frozen 0
  have f1 := P1.frozen 1
  have f2 := P2.frozen 2
  have z0 := OR3.cell 0
  have z1 := P1.cell 1
  have z2 := P2.cell 2
  clear OR3 P1 P2
  go_wp2_with fail
  refine bodyPost_ret (giv_ret rfl rfl (by simpa using P3.out)) rfl ?_
  have hsz := HSZ.out
  have hsz3 := S3.out.size
  have hlow : Below w.heap.size w v3 := B0.out.trans (S3.out.mono B0.out.size)
  refine ⟨A3, c3, rfl, ((hlow.setCell (p := ⟨w.heap.size + 1, 0, none⟩) (by show _ ≤ w.heap.size + 1; omega) _).setCell (p := ⟨w.heap.size + 1, 1, none⟩) (by show _ ≤ w.heap.size + 1; omega) _).setCell (p := ⟨w.heap.size + 1, 2, none⟩) (by show _ ≤ w.heap.size + 1; omega) _, ?_⟩
  refine V3.out.keep ⟨by simp [World.setCell], fun b hb _ => ?_⟩ (fun b hb _ => ?_)
  · have hb' : v2.heap.size ≤ b := hb
    have := Z2.out
    rw [Below.heap_setCell _ _ _ _ (by show b ≠ w.heap.size + 1; omega), Below.heap_setCell _ _ _ _ (by show b ≠ w.heap.size + 1; omega), Below.heap_setCell _ _ _ _ (by show b ≠ w.heap.size + 1; omega)]
  · have hb' : v2.heap.size ≤ b := hb
    have := Z2.out
    show w.heap.size ≤ b
    omega
end Go.Proofs.Ytjpkemamfccfdaa
/- A store of an attribute into a row of the call's own. -/
namespace Go.Proofs.Ytjpkemamfccfdaa
set_option linter.unusedVariables false
open Go.RowKit

theorem flatten_set3 {a b c : Value} : ∀ {raw : List (List Value)} {j : Nat}, (∀ y ∈ raw, y.length = 3) → j < raw.length → (raw.set j [a, b, c]).flatten = ((raw.flatten.set (j * 3) a).set (j * 3 + 1) b).set (j * 3 + 2) c
  | [], _, _, h => by simp at h
  | y :: raw, 0, hk, _ => by
    have := hk y (by simp)
    match y, this with
    | [y0, y1, y2], _ => rfl
  | y :: raw, j + 1, hk, h => by
    have hy := hk y (by simp)
    have ih := flatten_set3 (a := a) (b := b) (c := c) (raw := raw) (j := j) (fun z hz => hk z (by simp [hz])) (by simpa using h)
    match y, hy with
    | [y0, y1, y2], _ =>
      rw [List.set_cons_succ, List.flatten_cons, ih, List.flatten_cons, show (j + 1) * 3 = j * 3 + 1 + 1 + 1 by omega]
      rfl
/-- What lies from a higher block on lies from a lower one on. -/
theorem Gr.less {w : World} {base base' n c : Nat} {A : Option Addr} {l : List Giv} (h : Gr 3 GivAt w base 48 A n c l) (hb : base' ≤ base) : Gr 3 GivAt w base' 48 A n c l := by
  obtain ⟨⟨raw, ⟨h0, h1⟩, h2, h3, h4, h5⟩, hbs⟩ := h
  refine ⟨⟨raw, ⟨h0, ?_⟩, h2, h3, h4, fun j vs x a b => (h5 j vs x a b).keep (Kept.refl _ _) (fun k hk _ => ⟨Nat.le_trans hb hk.1, hk.2⟩)⟩, Nat.le_trans hb hbs⟩
  rcases h1 with h1 | ⟨g, cap, cur, a, b, r⟩
  · exact .inl h1
  · exact .inr ⟨g, cap, cur, a, Nat.le_trans hb b, r⟩
/-- Another attribute in the place of one. -/
theorem Gr.put_giv {w : World} {base n c : Nat} {A : Option Addr} {l : List Giv} {A1 : Option Addr} {n1 c1 j : Nat} {g : Giv} (h : Gr 3 GivAt w base 48 A n c l) (hj : j < n) (hok : g.ok) (hx : Vls w (Nb base (.slice A n c)) A1 n1 c1 g.bag) :
    ∃ b u0 u1 u2, A = some ⟨b, 0, none⟩ ∧ base ≤ b ∧ b < w.heap.size ∧ (w.cell? ⟨b, j * 3, none⟩ = some u0 ∧ (w.setCell ⟨b, j * 3, none⟩ (.int .i64 g.cat)).cell? ⟨b, j * 3 + 1, none⟩ = some u1 ∧ ((w.setCell ⟨b, j * 3, none⟩ (.int .i64 g.cat)).setCell ⟨b, j * 3 + 1, none⟩ (.string g.name)).cell? ⟨b, j * 3 + 2, none⟩ = some u2) ∧
      (w.frozen? ⟨b, j * 3, none⟩ = false ∧ (w.setCell ⟨b, j * 3, none⟩ (.int .i64 g.cat)).frozen? ⟨b, j * 3 + 1, none⟩ = false ∧ ((w.setCell ⟨b, j * 3, none⟩ (.int .i64 g.cat)).setCell ⟨b, j * 3 + 1, none⟩ (.string g.name)).frozen? ⟨b, j * 3 + 2, none⟩ = false) ∧
      Only b w (((w.setCell ⟨b, j * 3, none⟩ (.int .i64 g.cat)).setCell ⟨b, j * 3 + 1, none⟩ (.string g.name)).setCell ⟨b, j * 3 + 2, none⟩ (.slice A1 n1 c1)) ∧
      Gr 3 GivAt (((w.setCell ⟨b, j * 3, none⟩ (.int .i64 g.cat)).setCell ⟨b, j * 3 + 1, none⟩ (.string g.name)).setCell ⟨b, j * 3 + 2, none⟩ (.slice A1 n1 c1)) base 48 A n c (l.set j g) := by
  obtain ⟨⟨raw, h1, h2, h3, h4, h5⟩, hbs⟩ := h
  rcases h1.2 with ⟨hv, hn⟩ | ⟨b, cap, cur, hv, hb, hg, hnc, hcm, hcs, ht⟩
  · omega
  · injection hv with e1 e2 e3
    subst e1 e3
    have hlt : b < w.heap.size := by
      rcases Nat.lt_or_ge b w.heap.size with hlt | hge
      · exact hlt
      · rw [Array.getElem?_eq_none hge] at hg; cases hg
    have hr : raw[j]? = some raw[j] := List.getElem?_eq_getElem (by omega)
    have hlen := h4 _ (List.getElem_mem (show j < raw.length by omega))
    have hfl : raw.flatten.length = n * 3 := by rw [flatten_len h4, h2]
    have hob : Ob w b 48 cur := hg
    have hcu : ∀ i : Nat, i < n * 3 → i < cur.size := fun i hi => by
      have := h1.cells (g := b) rfl i _ (List.getElem?_eq_getElem (by rw [hfl]; exact hi))
      have add : (⟨b, 0, none⟩ : Addr).add i = ⟨b, i, none⟩ := by by_cases hi0 : i = 0 <;> simp [Addr.add, hi0]
      rw [add, hob.cell] at this
      exact (Array.getElem?_eq_some_iff.1 this).1
    obtain ⟨s1, t1⟩ := h1.stored (j * 3) (.int .i64 g.cat)
    obtain ⟨s2, t2⟩ := s1.stored (j * 3 + 1) (.string g.name)
    obtain ⟨s3, t3⟩ := s2.stored (j * 3 + 2) (.slice A1 n1 c1)
    have o1 := hob.put (j * 3) (.int .i64 g.cat)
    have o2 := o1.put (j * 3 + 1) (.string g.name)
    have hon : Only b w (((w.setCell ⟨b, j * 3, none⟩ (.int .i64 g.cat)).setCell ⟨b, j * 3 + 1, none⟩ (.string g.name)).setCell ⟨b, j * 3 + 2, none⟩ (.slice A1 n1 c1)) := ((Only.refl.setCell (p := ⟨b, j * 3, none⟩) rfl _).setCell (p := ⟨b, j * 3 + 1, none⟩) rfl _).setCell (p := ⟨b, j * 3 + 2, none⟩) rfl _
    have K : Kept (Nb base (.slice (some ⟨b, 0, none⟩) n c)) w (((w.setCell ⟨b, j * 3, none⟩ (.int .i64 g.cat)).setCell ⟨b, j * 3 + 1, none⟩ (.string g.name)).setCell ⟨b, j * 3 + 2, none⟩ (.slice A1 n1 c1)) :=
      ⟨hon.le, fun k hk hl => hon.heap hl (fun e => hk.2 (by rw [e]; rfl))⟩
    have c0 := hcu (j * 3) (by omega)
    have c1' := hcu (j * 3 + 1) (by omega)
    have c2' := hcu (j * 3 + 2) (by omega)
    refine ⟨b, cur[j * 3], _, _, rfl, hb, hlt, ⟨by rw [hob.cell]; exact Array.getElem?_eq_getElem c0, (o1.cell _).trans (Array.getElem?_eq_getElem (by simpa using c1')), (o2.cell _).trans (Array.getElem?_eq_getElem (by simpa using c2'))⟩, ⟨hob.frozen _, o1.frozen _, o2.frozen _⟩, hon, ⟨raw.set j [.int .i64 g.cat, .string g.name, .slice A1 n1 c1], ?_, by rw [List.length_set]; exact h2, by rw [List.length_set]; exact h3, fun z hz => ?_, fun i vs x a b' => ?_⟩, Nat.le_trans hbs hon.le⟩
    · rw [flatten_set3 h4 (by omega)]; exact s3
    · rcases List.mem_or_eq_of_mem_set hz with hz | hz
      · exact h4 z hz
      · rw [hz]; rfl
    · by_cases hij : j = i
      · subst hij
        rw [List.getElem?_set_self (by omega)] at a b'
        obtain rfl := Option.some.inj a
        obtain rfl := Option.some.inj b'
        exact ⟨A1, n1, c1, rfl, hok, hx.keep K (fun _ h _ => h)⟩
      · rw [List.getElem?_set_ne hij] at a b'
        exact (h5 i vs x a b').keep K (fun _ h _ => h)
end Go.Proofs.Ytjpkemamfccfdaa
/- With: a request with one more attribute, or another one in its place. -/
namespace Go.Proofs.Ytjpkemamfccfdaa
set_option linter.unusedVariables false
open Go.RowKit

/-- Names that aren't long. -/
def ShortN (l : List Giv) : Prop := ∀ g ∈ l, g.name.size ≤ 1000000
set_option maxRecDepth 100000 in
set_option maxHeartbeats 4000000 in
theorem awith_any {w : World} {R R1 : Nat → Prop} {A A1 : Option Addr} {n c n1 c1 : Nat} {l : List Giv} (g : Giv) (h : Gvs w R A n c l) (hs : ShortG l) (hm : ShortN l) (hn : n ≤ 100000) (hok : g.ok) (hg : Vls w R1 A1 n1 c1 g.bag) (hgs : Shorts g.bag) (hgn : n1 ≤ 100000) (hgm : g.name.size ≤ 1000000) :
    Calls Try.prog 22 #[.slice A n c, .agg #[.int .i64 g.cat, .string g.name, .slice A1 n1 c1]] w fun e w' => ∃ A' n' c', e = .returned (.slice A' n' c') ∧ Below w.heap.size w w' ∧ n' ≤ n + 1 ∧ Gr 3 GivAt w' w.heap.size 48 A' n' c' (withA l g) := by
  obtain ⟨gc, gn, gb⟩ := g
  have hle := Rw.le h
  have hcap := Rw.cap h
  have HL := Lib.hid (Rw.len h)
  unfold maxLen at hcap
  have HAL := Lib.hid ((Below.refl w.heap.size w).alloc (Nat.le_refl _) (.cells #[.int .i64 gc, .string gn, .slice A1 n1 c1] 48))
  have HOB := Lib.hid (Ob.made w 48 #[.int .i64 gc, .string gn, .slice A1 n1 c1])
  have HK := Lib.hid (fun W (hW : Below w.heap.size w W) => h.keep (Kept.all hW R) (fun _ h _ => h))
  have HP := Lib.hid (fun W (hW : Below w.heap.size w W) => place_any gc gn (h.keep (Kept.all hW R) (fun _ h _ => h)))
  have HA := Lib.hid (fun W (hW : Below w.heap.size w W) => apart_any (w := W) ⟨gc, gn, gb⟩ hgm (hg.keep (Kept.all hW R1) (fun _ h _ => h)) hgs hgn)
  have HOKG : Hid (Giv.ok ⟨gc, gn, gb⟩) := hok
  have HS := Lib.hid hs
  have HM := Lib.hid hm
  clear h hs hm hok hg hgs hgn hgm
  simp only at HA
  go_enter Try.func22, Try.ntmps22
  go_wp2
  go_loopw [5, 11] (fun out i wr => ∃ (k : Nat) (A' : Option Addr) (c' : Nat), k ≤ n ∧ i = .int .i64 k ∧ out = .slice A' k c' ∧ Gr 3 GivAt wr (w.heap.size + 1) 48 A' k c' (l.take k) ∧ Below (w.heap.size + 1) (w.alloc (.cells #[.int .i64 gc, .string gn, .slice A1 n1 c1] 48)) wr) (fun out i _ => n - (intOf i).toNat)
  case atStart => exact ⟨0, none, 0, Nat.zero_le _, rfl, rfl, Gr.nil _ _ (by rw [size_al]; omega), Below.refl _ _⟩
  case round =>
    obtain ⟨k, A', c', hk, rfl, rfl, ho, hb⟩ := hrel
    have HO := Lib.hid ho
    have HB := Lib.hid hb
    have HW := Lib.hid (HAL.out.trans (hb.mono (Nat.le_succ _)))
    have OBr := Lib.hid (HOB.out.below hb (Nat.lt_succ_self _))
    clear ho hb
    by_cases hlt : k < n
    · obtain ⟨b, o, x, Ax, nx, cx, rfl, hRb, hbl, hx, hok, ⟨x0, x1, x2⟩, hin⟩ := (HK.out wr HW.out).at_ hlt
      have HX := Lib.hid hx
      have HOK := Lib.hid hok
      obtain ⟨hsx, hbx⟩ := HS.out x (List.mem_of_getElem? hx)
      have hmx := HM.out x (List.mem_of_getElem? hx)
      have hlim : nx ≤ 100000 := by have := Rw.len hin; omega
      obtain ⟨xc, xn, xb⟩ := x
      simp only at x0 x1 x2 hin hmx hsx
      have D0 := Lib.hid ((Below.refl wr.heap.size wr).alloc (Nat.le_refl _) (.cells #[.int .i64 xc, .string xn, .slice Ax nx cx] 48))
      have AP := apart_any (w := wr.alloc (.cells #[.int .i64 xc, .string xn, .slice Ax nx cx] 48)) ⟨xc, xn, xb⟩ hmx (hin.keep (Kept.all D0.out R) (fun _ h _ => h)) hsx hlim
      simp only at AP
      have AP := Lib.hid AP
      clear hx hok hin hmx hsx hbx
      go_wp2_with (first
        | (go_at_call 42; refine AP.out.mono ?_; rintro e w1 ⟨A5, c5, rfl, hb1, hv1⟩
           have d1 := below_step D0.out hb1
           obtain ⟨A2, c2, w2, r2, o2, b2⟩ := push_giv (g := ⟨xc, xn, xb⟩) (Gr.below keeps_giv HO.out d1) HOK.out (hv1.keep (Kept.refl _ _) (fun b hb _ => HO.out.apart b (Nat.le_trans D0.out.size hb))) (by omega)
           simp only at r2
           have R2 := Lib.hid r2
           have O2 := Lib.hid o2
           have B2 := Lib.hid (HB.out.trans ((d1.mono (Nat.le_trans (by rw [size_al]; exact Nat.le_refl _) HB.out.size)).trans b2))
           clear hb1 hv1 d1 r2 o2 b2)
        | (at_builtin; refine wpList_append_run (o := ⟨some 19, _, _, _, _, _⟩) rfl _ _ _ _ rfl rfl rfl R2.out ?_))
      go_roundw
      case rel => exact ⟨k + 1, A2, c2, by omega, by go_num, rfl, by rw [take_one HX.out]; exact O2.out, B2.out⟩
      case measure => simp [intOf]; omega
    · obtain rfl : k = n := by omega
      have hg := HO.out
      rw [List.take_of_length_le (by have := HL.out; omega)] at hg
      have HGR := Lib.hid hg
      have b0 := OBr.out.cell 0
      have b1 := OBr.out.cell 1
      have b2 := OBr.out.cell 2
      clear hg
      by_cases hi : idxA l gc gn < l.length
      · have hp : placeI l gc gn = (idxA l gc gn : Int) := place_pos hi
        rw [hp] at HP
        have hin : idxA l gc gn < k := by have := HL.out; omega
        have HE : Hid (withA l ⟨gc, gn, gb⟩ = l.set (idxA l gc gn) ⟨gc, gn, gb⟩) := withA_pos hi
        obtain ⟨j, hj⟩ : ∃ j, j = idxA l gc gn := ⟨_, rfl⟩
        rw [← hj] at HP hin HE
        clear hj
        clear hp hi
        obtain ⟨bo, hbo⟩ : ∃ bo, A' = some ⟨bo, 0, none⟩ := by
          obtain ⟨bo, _, _, _, e, _⟩ := HGR.out.put_giv hin HOKG.out (A1 := none) (n1 := 0) (c1 := 0) (g := ⟨gc, gn, []⟩) (Rw.nil_ _ _ _ _)
          exact ⟨bo, e⟩
        subst hbo
        have hkc' : k ≤ c' := by
          have := Rw.le (Gr.rw keeps_giv HGR.out (by omega)); exact this
        go_wp2_with (first
          | (go_at_call 43; (with_reducible refine (HP.out _ HW.out).mono ?_); rintro e w1 ⟨rfl, hb1⟩
             have W1 := Lib.hid (HW.out.trans (hb1.mono HW.out.size))
             have OB1 := Lib.hid (OBr.out.below hb1 (Ob.lt OBr.out))
             have p0 := OB1.out.cell 0
             have p1 := OB1.out.cell 1
             have p2 := OB1.out.cell 2
             have G1 := Lib.hid (Gr.below keeps_giv HGR.out hb1)
             clear hb1)
          | (go_at_call 42; (with_reducible refine (HA.out _ W1.out).mono ?_); rintro e w2 ⟨A5, c5, rfl, hb2, hv2⟩
             have W2 := Lib.hid (W1.out.trans (hb2.mono W1.out.size))
             obtain ⟨b', u0, u1, u2, ha, hbb, hblt, ⟨t0, t1, t2⟩, ⟨f0, f1, f2⟩, hon, hset⟩ := (Gr.below keeps_giv G1.out hb2).put_giv hin HOKG.out (A1 := A5) (n1 := n1) (c1 := c5) (hv2.keep (Kept.refl _ _) (fun b hb _ => G1.out.apart b hb))
             injection ha with ha
             injection ha with ha
             subst ha
             simp only at t1 t2 f1 f2 hon hset
             have HON := Lib.hid hon
             have HSET := Lib.hid hset
             have HBB := Lib.hid hbb
             clear hb2 hv2 hon hset hbb))
        go_ret
        exact ⟨some ⟨bo, 0, none⟩, k, c', rfl, W2.out.trans (HON.out.below W2.out.size (by have := HBB.out; omega)), Nat.le_succ _, by rw [HE.out]; exact HSET.out.less (Nat.le_succ _)⟩
      · have hp : placeI l gc gn = -1 := place_neg hi
        rw [hp] at HP
        have HE : Hid (withA l ⟨gc, gn, gb⟩ = l ++ [⟨gc, gn, gb⟩]) := if_neg hi
        clear hp hi
        go_wp2_with (first
          | (go_at_call 43; (with_reducible refine (HP.out _ HW.out).mono ?_); rintro e w1 ⟨rfl, hb1⟩
             have W1 := Lib.hid (HW.out.trans (hb1.mono HW.out.size))
             have OB1 := Lib.hid (OBr.out.below hb1 (Ob.lt OBr.out))
             have p0 := OB1.out.cell 0
             have p1 := OB1.out.cell 1
             have p2 := OB1.out.cell 2
             have G1 := Lib.hid (Gr.below keeps_giv HGR.out hb1)
             clear hb1)
          | (go_at_call 42; (with_reducible refine (HA.out _ W1.out).mono ?_); rintro e w2 ⟨A5, c5, rfl, hb2, hv2⟩
             have W2 := Lib.hid (W1.out.trans (hb2.mono W1.out.size))
             obtain ⟨A6, c6, w6, r6, o6, b6⟩ := push_giv (g := ⟨gc, gn, gb⟩) (Gr.below keeps_giv G1.out hb2) HOKG.out (hv2.keep (Kept.refl _ _) (fun b hb _ => G1.out.apart b hb)) (by omega)
             simp only at r6
             have R6 := Lib.hid r6
             have O6 := Lib.hid o6
             have B6 := Lib.hid (W2.out.trans (b6.mono (Nat.le_succ _)))
             clear hb2 hv2 r6 o6 b6)
          | (at_builtin; refine wpList_append_run (o := ⟨some 33, _, _, _, _, _⟩) rfl _ _ _ _ rfl rfl rfl R6.out ?_))
        go_ret
        exact ⟨A6, k + 1, c6, rfl, B6.out, Nat.le_refl _, by rw [HE.out]; exact O6.out.less (Nat.le_succ _)⟩
end Go.Proofs.Ytjpkemamfccfdaa
/- Requests that may be gone through in a while: none of their parts is long. -/
namespace Go.Proofs.Ytjpkemamfccfdaa
set_option linter.unusedVariables false
open Go.RowKit

theorem few_short {l : List Giv} (h : fewC l ≤ 1200) : ShortG l := fun g hg => by
  obtain ⟨h1, h2, h3⟩ := few_each h hg
  exact ⟨fun v hv => by have := h3 v hv; omega, by omega⟩
theorem few_bags {l : List Giv} (h : fewC l ≤ 1200) : FewB l := fun g hg => by
  obtain ⟨h1, h2, h3⟩ := few_each h hg
  omega
theorem few_names {l : List Giv} (h : fewC l ≤ 1200) : ShortN l := fun g hg => by
  obtain ⟨h1, h2, h3⟩ := few_each h hg
  omega
/-- An attribute alone, laid as a literal. -/
theorem one_giv {w : World} {R : Nat → Prop} {A : Option Addr} {n c : Nat} (g : Giv) (hok : g.ok) (h : Vls w R A n c g.bag) : Gvs (w.alloc (.cells #[.int .i64 g.cat, .string g.name, .slice A n c] 48)) (fun _ => True) (some ⟨w.heap.size, 0, none⟩) 1 1 [g] := by
  have a1 : Below w.heap.size w (w.alloc (.cells #[.int .i64 g.cat, .string g.name, .slice A n c] 48)) := (Below.refl _ _).alloc (Nat.le_refl _) _
  have := Rw.lit (P := GivAt (w.alloc (.cells #[.int .i64 g.cat, .string g.name, .slice A n c] 48)) (fun _ => True)) (R := fun _ => True) w 48 (fun _ => [.int .i64 g.cat, .string g.name, .slice A n c]) [g] (n := 1) rfl (by omega) trivial (fun _ _ => rfl) (fun y hy => by simp at hy; subst hy; exact GivAt.keep ⟨A, n, c, rfl, hok, h⟩ (Kept.all a1 _) (fun _ _ _ => trivial))
  exact this
theorem Gr.gvs {w : World} {base n c : Nat} {A : Option Addr} {l : List Giv} (h : Gr 3 GivAt w base 48 A n c l) (hn : n ≤ 1000000) : Gvs w (fun b => base ≤ b) A n c l := Gr.rw keeps_giv h (by omega)
theorem with_short {l : List Giv} {g : Giv} (h : ShortG l) (hg : Shorts g.bag ∧ g.bag.length ≤ 100000) : ShortG (withA l g) := fun x hx => by
  rcases with_mem hx with rfl | hx
  · exact hg
  · exact h x hx
theorem with_names {l : List Giv} {g : Giv} (h : ShortN l) (hg : g.name.size ≤ 1000000) : ShortN (withA l g) := fun x hx => by
  rcases with_mem hx with rfl | hx
  · exact hg
  · exact h x hx
theorem right_one {g : Giv} (h : rightA [g] = 0) : attrB ⟨g.cat, g.name, false⟩ = true ∧ bagB g.bag = true := (right_iff.1 h).2.1 g (by simp)
theorem with_getE {l : List Giv} {g : Giv} {a : Atr} (h : ¬ (a.cat = g.cat ∧ a.name = g.name)) : getE (withA l g) a = getE l a := by
  unfold getE getB
  rw [with_other h]
theorem with_getR {l : List Giv} {g : Giv} {a : Atr} (h : ¬ (a.cat = g.cat ∧ a.name = g.name)) : getR (withA l g) a = getR l a := by
  unfold getR
  rw [with_getE h]
  unfold getB
  rw [with_other h]
theorem with_get {l : List Giv} {g : Giv} : getE (withA l g) ⟨g.cat, g.name, false⟩ = 0 ∧ getR (withA l g) ⟨g.cat, g.name, false⟩ = g.bag := by
  have e : getE (withA l g) ⟨g.cat, g.name, false⟩ = 0 := by unfold getE; simp
  refine ⟨e, ?_⟩
  unfold getR
  rw [if_pos e]
  exact with_idx.2.1
end Go.Proofs.Ytjpkemamfccfdaa
/- TargetRuns, and the helpers of stage 13's statements. -/
namespace Go.Proofs.Ytjpkemamfccfdaa
set_option linter.unusedVariables false
open Go.RowKit

theorem tgbox_ret {fn : Func} {p : Tmp} {tmps : Array Value} {w : World} {g : Nat} {k n : Int} {s : ByteArray} (h : fn.results = #[.cell p 25]) (hp : tmps.getD p undef = .pointer (some ⟨g, 0, none⟩)) (hg : Bx w g k n s) :
    (results fn tmps).run Try.prog w = .ok (.agg #[.int .i64 k, .int .i64 n, .string s]) w :=
  results_cell_row h tmps w g _ _ (0, 0) _ hp hg Try.underlying25 rfl (by kernel_rfl)
theorem tgnum_any (m : Int) (w : World) : Calls Try.prog 11 #[.int .i64 m] w fun e w' => e = .returned (.agg #[.int .i64 2, .int .i64 m, .string ⟨#[]⟩]) ∧ Below w.heap.size w w' := by
  go_enter Try.func11, Try.ntmps11
  go_wp2_with fail
  try simp only [Exit.inBlock, Exit.then]
  refine bodyPost_ret (tgbox_ret rfl rfl (Bx.made _ _ _ _)) rfl ?_
  exact ⟨rfl, (Below.refl _ _).alloc (Nat.le_refl _) _⟩
/-- One attribute: the case's x. -/
def xG (l : List Vl) : Giv := ⟨3, ⟨#[120]⟩, l⟩
theorem xG_ok (l : List Vl) : (xG l).ok := ⟨(by decide : InI 3), (by decide : (⟨#[120]⟩ : ByteArray).size ≤ maxLen)⟩
theorem tgx_any {w : World} {R : Nat → Prop} {A : Option Addr} {n c : Nat} {l : List Vl} (h : Vls w R A n c l) :
    Calls Try.prog 13 #[.slice A n c] w fun e w' => ∃ A', e = .returned (.slice A' 1 1) ∧ Below w.heap.size w w' ∧ Gvs w' (fun _ => True) A' 1 1 [xG l] := by
  have HX := Lib.hid (one_giv (xG l) (xG_ok l) h)
  clear h
  go_enter Try.func13, Try.ntmps13
  go_wp2_with fail
  go_ret
  exact ⟨_, rfl, (Below.refl _ _).alloc (Nat.le_refl _) _, HX.out⟩
def mX (u : Bool) : Mat := ⟨⟨3, ⟨#[120]⟩, u⟩, 1, ⟨2, 1, ⟨#[]⟩⟩⟩
def nV (x : Int) : Vl := ⟨2, x, ⟨#[]⟩⟩
theorem tgruns_1 : matchI [] (mX false) = 0 := by decide +kernel
theorem tgruns_2 : matchI [xG [nV 2, nV 1]] (mX false) = 2 := by decide +kernel
theorem tgruns_3 : matchI [xG [⟨3, 0, ⟨#[97]⟩⟩]] (mX false) = 1 := by decide +kernel
theorem tgruns_4 : matchI [] (mX true) = 1 := by decide +kernel
theorem tgmatch_is {w : World} {R : Nat → Prop} {A : Option Addr} {n c : Nat} {l : List Giv} {r : Int} (m : Mat) (hr : matchI l m = r) (hm : m.v.s.size ≤ maxLen) (h : Gvs w R A n c l) (hs : ShortG l) :
    Calls Try.prog 12 #[m.val, .slice A n c] w fun e w' => e = .returned (.int .i64 r) ∧ Below w.heap.size w w' := by
  have := tgmatch_any m hm h hs
  rwa [hr] at this
theorem vls_lit (w : World) (l : List Vl) (hn : l.length ≤ 1000) (hok : ∀ x ∈ l, x.ok) : Vls (w.alloc (.cells (l.flatMap Vl.cells).toArray 25)) (fun _ => True) (some ⟨w.heap.size, 0, none⟩) l.length l.length l :=
  Rw.lit w _ Vl.cells l rfl (by omega) trivial (fun _ _ => rfl) fun x hx => ⟨rfl, hok x hx⟩
theorem nV_ok {x : Int} (h : -9223372036854775808 ≤ x ∧ x ≤ 9223372036854775807) : (nV x).ok := ⟨(by decide : InI 2), h, (by decide : (⟨#[]⟩ : ByteArray).size ≤ maxLen)⟩
theorem aV_ok : (⟨3, 0, ⟨#[97]⟩⟩ : Vl).ok := ⟨(by decide : InI 3), (by decide : InI 0), (by decide : (⟨#[97]⟩ : ByteArray).size ≤ maxLen)⟩
theorem xG_short {l : List Vl} (h : ∀ v ∈ l, v.s.size ≤ 100) (hn : l.length ≤ 100) : ShortG [xG l] := fun g hg => by
  simp at hg
  subst hg
  exact ⟨fun v hv => by have := h v hv; omega, by show l.length ≤ 100000; omega⟩
theorem mx_size (u : Bool) : (mX u).v.s.size ≤ maxLen := (by decide : (⟨#[]⟩ : ByteArray).size ≤ maxLen)

theorem Ob.c7 {w : World} {g : Nat} {t : TypeId} {a b c d e f h : Value} (H : Ob w g t #[a, b, c, d, e, f, h]) :
    w.cell? ⟨g, 0, none⟩ = some a ∧ w.cell? ⟨g, 1, none⟩ = some b ∧ w.cell? ⟨g, 2, none⟩ = some c ∧ w.cell? ⟨g, 3, none⟩ = some d ∧ w.cell? ⟨g, 4, none⟩ = some e ∧ w.cell? ⟨g, 5, none⟩ = some f ∧ w.cell? ⟨g, 6, none⟩ = some h :=
  ⟨H.cell 0, H.cell 1, H.cell 2, H.cell 3, H.cell 4, H.cell 5, H.cell 6⟩
set_option maxRecDepth 100000 in
set_option maxHeartbeats 3200000 in
theorem tgruns_any (w : World) : Calls Try.prog 3 #[] w fun e w' => e = .returned (.bool true) ∧ Below w.heap.size w w' := by
  have E0 : ∀ (V : World) (u : Bool) (r : Int), matchI [] (mX u) = r → Calls Try.prog 12 #[(mX u).val, .slice none 0 0] V fun e w' => e = .returned (.int .i64 r) ∧ Below V.heap.size V w' := fun V u r hr => tgmatch_is (R := fun _ => True) (mX u) hr (mx_size u) (Rw.nil_ _ _ _ _) (fun g hg => by cases hg)
  have E0 := Lib.hid E0
  go_enter Try.func3, Try.ntmps3
  go_upto_region 4 with (go_at_call 11; refine (tgnum_any 1 _).mono ?_; rintro e w1 ⟨rfl, hb1⟩; have B1 := Lib.hid hb1; clear hb1)
  have O1 : Hid (Ob ((w1.alloc (.cells #[.int .i64 3, .string ⟨#[120]⟩, .bool false, .int .i64 1, .int .i64 2, .int .i64 1, .string ⟨#[]⟩] 28)).alloc (.cells #[.int .i64 3, .string ⟨#[120]⟩, .bool true, .int .i64 1, .int .i64 2, .int .i64 1, .string ⟨#[]⟩] 28)) w1.heap.size 28 #[.int .i64 3, .string ⟨#[120]⟩, .bool false, .int .i64 1, .int .i64 2, .int .i64 1, .string ⟨#[]⟩]) := (Ob.made w1 28 #[.int .i64 3, .string ⟨#[120]⟩, .bool false, .int .i64 1, .int .i64 2, .int .i64 1, .string ⟨#[]⟩]).keep (Below.heap_alloc _ _ _ (by rw [size_al]; omega))
  have O2 : Hid (Ob ((w1.alloc (.cells #[.int .i64 3, .string ⟨#[120]⟩, .bool false, .int .i64 1, .int .i64 2, .int .i64 1, .string ⟨#[]⟩] 28)).alloc (.cells #[.int .i64 3, .string ⟨#[120]⟩, .bool true, .int .i64 1, .int .i64 2, .int .i64 1, .string ⟨#[]⟩] 28)) (w1.heap.size + 1) 28 #[.int .i64 3, .string ⟨#[120]⟩, .bool true, .int .i64 1, .int .i64 2, .int .i64 1, .string ⟨#[]⟩]) := by
    have := Ob.made (w1.alloc (.cells #[.int .i64 3, .string ⟨#[120]⟩, .bool false, .int .i64 1, .int .i64 2, .int .i64 1, .string ⟨#[]⟩] 28)) 28 #[.int .i64 3, .string ⟨#[120]⟩, .bool true, .int .i64 1, .int .i64 2, .int .i64 1, .string ⟨#[]⟩]
    rw [size_al] at this
    exact this
  have B2 : Hid (Below w.heap.size w ((w1.alloc (.cells #[.int .i64 3, .string ⟨#[120]⟩, .bool false, .int .i64 1, .int .i64 2, .int .i64 1, .string ⟨#[]⟩] 28)).alloc (.cells #[.int .i64 3, .string ⟨#[120]⟩, .bool true, .int .i64 1, .int .i64 2, .int .i64 1, .string ⟨#[]⟩] 28))) := (B1.out.alloc B1.out.size _).alloc (by rw [size_al]; have := B1.out.size; omega) _
  obtain ⟨W1, hW1⟩ : ∃ W1, (w1.alloc (.cells #[.int .i64 3, .string ⟨#[120]⟩, .bool false, .int .i64 1, .int .i64 2, .int .i64 1, .string ⟨#[]⟩] 28)).alloc (.cells #[.int .i64 3, .string ⟨#[120]⟩, .bool true, .int .i64 1, .int .i64 2, .int .i64 1, .string ⟨#[]⟩] 28) = W1 := ⟨_, rfl⟩
  rw [hW1] at O1 O2 B2
  rw [hW1]
  clear hW1
  have OB1 := Lib.hid (fun V (hV : Below W1.heap.size W1 V) => (O1.out.below hV O1.out.lt).c7)
  have OB2 := Lib.hid (fun V (hV : Below W1.heap.size W1 V) => (O2.out.below hV O2.out.lt).c7)
  have S0 : Hid (Below W1.heap.size W1 W1) := Below.refl _ _
  refine wp_region_held_tail (fun w' => Below W1.heap.size W1 w') 25 (by kernel_rfl) (by kernel_rfl) ?_
  intro G
  change HeadW _ _ _ _ _ _ _ _ _ _ (W1.drewN 1)
  have S := Lib.hid (below_drewN S0.out 1)
  generalize W1.drewN 1 = y0 at *
  refine HeadW_take (i := 0) (v := ?_) G rfl (by kernel_rfl) (by kernel_rfl) (by kernel_rfl) (fun _ _ _ h => h) (Or.inl ⟨by rfl, ?_⟩) S.out ?_
  rotate_left
  · intro wz hS
    have hk := OB1.out _ hS
    go_simp
    try with_reducible rfl
  refine HeadW_ready (rs := [1]) (by kernel_rfl) rfl rfl ?_
  refine AllW.cons rfl (fun K hK => ?_) AllW.nil
  go_simp
  refine (E0.out _ false 0 tgruns_1).mono ?_
  rintro e y1 ⟨rfl, hb⟩
  have S := Lib.hid (S.out.trans (hb.mono S.out.size))
  refine hK _ _ S.out ?_
  clear hK K hb
  refine HeadW_take (i := 2) (v := ?_) G rfl (by kernel_rfl) (by kernel_rfl) (by kernel_rfl) (fun _ _ _ h => h) (Or.inl ⟨by rfl, ?_⟩) S.out ?_
  rotate_left
  · intro wz hS
    go_simp
    try with_reducible rfl
  refine HeadW_take (i := 3) (v := ?_) G rfl (by kernel_rfl) (by kernel_rfl) (by kernel_rfl) (fun _ _ _ h => h) (Or.inl ⟨by rfl, ?_⟩) S.out ?_
  rotate_left
  · intro wz hS
    go_simp
    try with_reducible rfl
  refine HeadW_take (i := 4) (v := ?_) G rfl (by kernel_rfl) (by kernel_rfl) (by kernel_rfl) (fun _ _ _ h => h) (Or.inl ⟨by rfl, ?_⟩) S.out ?_
  rotate_left
  · intro wz hS
    have hk := OB1.out _ hS
    go_simp
    try with_reducible rfl
  refine HeadW_ready (rs := [5]) (by kernel_rfl) rfl rfl ?_
  refine AllW.cons rfl (fun K hK => ?_) AllW.nil
  go_simp
  refine (tgnum_any 2 _).mono ?_
  rintro e y2 ⟨rfl, hb⟩
  have S := Lib.hid (S.out.trans (hb.mono S.out.size))
  refine hK _ _ S.out ?_
  clear hK K hb
  refine HeadW_ready (rs := [6]) (by kernel_rfl) rfl rfl ?_
  refine AllW.cons rfl (fun K hK => ?_) AllW.nil
  go_simp
  refine (tgnum_any 1 _).mono ?_
  rintro e y3 ⟨rfl, hb⟩
  have S := Lib.hid (S.out.trans (hb.mono S.out.size))
  refine hK _ _ S.out ?_
  clear hK K hb
  refine HeadW_ready (rs := [7]) (by kernel_rfl) rfl rfl ?_
  refine AllW.cons rfl (fun K hK => ?_) AllW.nil
  go_simp
  have hb : Below y3.heap.size y3 (y3.alloc (.cells #[.int .i64 2, .int .i64 2, .string ⟨#[]⟩, .int .i64 2, .int .i64 1, .string ⟨#[]⟩] 25)) := (Below.refl _ _).alloc (Nat.le_refl _) _
  have HV : Hid (Vls (y3.alloc (.cells #[.int .i64 2, .int .i64 2, .string ⟨#[]⟩, .int .i64 2, .int .i64 1, .string ⟨#[]⟩] 25)) (fun _ => True) (some ⟨y3.heap.size, 0, none⟩) 2 2 [nV 2, nV 1]) := vls_lit y3 [nV 2, nV 1] (by decide) (fun x hx => by simp at hx; rcases hx with rfl | rfl; exact nV_ok (by omega); exact nV_ok (by omega))
  have S := Lib.hid (S.out.trans (hb.mono S.out.size))
  refine hK _ _ S.out ?_
  clear hK K hb
  generalize y3.alloc (.cells #[.int .i64 2, .int .i64 2, .string ⟨#[]⟩, .int .i64 2, .int .i64 1, .string ⟨#[]⟩] 25) = y4 at *
  refine HeadW_ready (rs := [8]) (by kernel_rfl) rfl rfl ?_
  refine AllW.cons rfl (fun K hK => ?_) AllW.nil
  go_simp
  refine (tgx_any HV.out).mono ?_
  rintro e y5 ⟨A7, rfl, hb, hg⟩
  have HG := Lib.hid hg
  have S := Lib.hid (S.out.trans (hb.mono S.out.size))
  refine hK _ _ S.out ?_
  clear hK K hb
  clear hg
  refine HeadW_ready (rs := [9]) (by kernel_rfl) rfl rfl ?_
  refine AllW.cons rfl (fun K hK => ?_) AllW.nil
  go_simp
  refine (tgmatch_is (mX false) tgruns_2 (mx_size _) HG.out (xG_short (by decide) (by decide))).mono ?_
  rintro e y6 ⟨rfl, hb⟩
  have S := Lib.hid (S.out.trans (hb.mono S.out.size))
  refine hK _ _ S.out ?_
  clear hK K hb
  clear HV HG
  refine HeadW_take (i := 10) (v := ?_) G rfl (by kernel_rfl) (by kernel_rfl) (by kernel_rfl) (fun _ _ _ h => h) (Or.inl ⟨by rfl, ?_⟩) S.out ?_
  rotate_left
  · intro wz hS
    go_simp
    try with_reducible rfl
  refine HeadW_take (i := 11) (v := ?_) G rfl (by kernel_rfl) (by kernel_rfl) (by kernel_rfl) (fun _ _ _ h => h) (Or.inl ⟨by rfl, ?_⟩) S.out ?_
  rotate_left
  · intro wz hS
    go_simp
    try with_reducible rfl
  refine HeadW_take (i := 12) (v := ?_) G rfl (by kernel_rfl) (by kernel_rfl) (by kernel_rfl) (fun _ _ _ h => h) (Or.inl ⟨by rfl, ?_⟩) S.out ?_
  rotate_left
  · intro wz hS
    go_simp
    try with_reducible rfl
  refine HeadW_take (i := 13) (v := ?_) G rfl (by kernel_rfl) (by kernel_rfl) (by kernel_rfl) (fun _ _ _ h => h) (Or.inl ⟨by rfl, ?_⟩) S.out ?_
  rotate_left
  · intro wz hS
    have hk := OB1.out _ hS
    go_simp
    try with_reducible rfl
  refine HeadW_take (i := 14) (v := ?_) G rfl (by kernel_rfl) (by kernel_rfl) (by kernel_rfl) (fun _ _ _ h => h) (Or.inl ⟨by rfl, ?_⟩) S.out ?_
  rotate_left
  · intro wz hS
    go_simp
    try with_reducible rfl
  refine HeadW_ready (rs := [15]) (by kernel_rfl) rfl rfl ?_
  refine AllW.cons rfl (fun K hK => ?_) AllW.nil
  go_simp
  have hb : Below y6.heap.size y6 (y6.alloc (.cells #[.int .i64 3, .int .i64 0, .string ⟨#[97]⟩] 25)) := (Below.refl _ _).alloc (Nat.le_refl _) _
  have HV : Hid (Vls (y6.alloc (.cells #[.int .i64 3, .int .i64 0, .string ⟨#[97]⟩] 25)) (fun _ => True) (some ⟨y6.heap.size, 0, none⟩) 1 1 [⟨3, 0, ⟨#[97]⟩⟩]) := vls_lit y6 [⟨3, 0, ⟨#[97]⟩⟩] (by decide) (fun x hx => by simp at hx; subst hx; exact aV_ok)
  have S := Lib.hid (S.out.trans (hb.mono S.out.size))
  refine hK _ _ S.out ?_
  clear hK K hb
  generalize y6.alloc (.cells #[.int .i64 3, .int .i64 0, .string ⟨#[97]⟩] 25) = y7 at *
  refine HeadW_ready (rs := [16]) (by kernel_rfl) rfl rfl ?_
  refine AllW.cons rfl (fun K hK => ?_) AllW.nil
  go_simp
  refine (tgx_any HV.out).mono ?_
  rintro e y8 ⟨A8, rfl, hb, hg⟩
  have HG := Lib.hid hg
  have S := Lib.hid (S.out.trans (hb.mono S.out.size))
  refine hK _ _ S.out ?_
  clear hK K hb
  clear hg
  refine HeadW_ready (rs := [17]) (by kernel_rfl) rfl rfl ?_
  refine AllW.cons rfl (fun K hK => ?_) AllW.nil
  go_simp
  refine (tgmatch_is (mX false) tgruns_3 (mx_size _) HG.out (xG_short (by decide) (by decide))).mono ?_
  rintro e y9 ⟨rfl, hb⟩
  have S := Lib.hid (S.out.trans (hb.mono S.out.size))
  refine hK _ _ S.out ?_
  clear hK K hb
  clear HV HG
  refine HeadW_take (i := 18) (v := ?_) G rfl (by kernel_rfl) (by kernel_rfl) (by kernel_rfl) (fun _ _ _ h => h) (Or.inl ⟨by rfl, ?_⟩) S.out ?_
  rotate_left
  · intro wz hS
    go_simp
    try with_reducible rfl
  refine HeadW_take (i := 19) (v := ?_) G rfl (by kernel_rfl) (by kernel_rfl) (by kernel_rfl) (fun _ _ _ h => h) (Or.inl ⟨by rfl, ?_⟩) S.out ?_
  rotate_left
  · intro wz hS
    go_simp
    try with_reducible rfl
  refine HeadW_take (i := 20) (v := ?_) G rfl (by kernel_rfl) (by kernel_rfl) (by kernel_rfl) (fun _ _ _ h => h) (Or.inl ⟨by rfl, ?_⟩) S.out ?_
  rotate_left
  · intro wz hS
    go_simp
    try with_reducible rfl
  refine HeadW_take (i := 21) (v := ?_) G rfl (by kernel_rfl) (by kernel_rfl) (by kernel_rfl) (fun _ _ _ h => h) (Or.inl ⟨by rfl, ?_⟩) S.out ?_
  rotate_left
  · intro wz hS
    have hk := OB2.out _ hS
    go_simp
    try with_reducible rfl
  refine HeadW_ready (rs := [22]) (by kernel_rfl) rfl rfl ?_
  refine AllW.cons rfl (fun K hK => ?_) AllW.nil
  go_simp
  refine (E0.out _ true 1 tgruns_4).mono ?_
  rintro e y10 ⟨rfl, hb⟩
  have S := Lib.hid (S.out.trans (hb.mono S.out.size))
  refine hK _ _ S.out ?_
  clear hK K hb
  refine HeadW_take (i := 23) (v := ?_) G rfl (by kernel_rfl) (by kernel_rfl) (by kernel_rfl) (fun _ _ _ h => h) (Or.inl ⟨by rfl, ?_⟩) S.out ?_
  rotate_left
  · intro wz hS
    go_simp
    try with_reducible rfl
  refine HeadW_take (i := 24) (v := ?_) G rfl (by kernel_rfl) (by kernel_rfl) (by kernel_rfl) (fun _ _ _ h => h) (Or.inl ⟨by rfl, ?_⟩) S.out ?_
  rotate_left
  · intro wz hS
    go_simp
    try with_reducible rfl
  intro _
  refine ⟨by kernel_rfl, ?_⟩
  simp only [List.drop_succ_cons, List.drop_zero]
  go_wp2_with fail
  go_ret
  exact ⟨rfl, below_step B2.out S.out⟩
theorem targetRuns_walk (w : World) : Calls Try.prog 3 #[] w fun e w' => e = .returned (.bool true) ∧ Below w.heap.size w w' := tgruns_any w
end Go.Proofs.Ytjpkemamfccfdaa
/- bailiffkeep: how much of a policy may be gone through: obls. -/
namespace Go.Proofs.Ytjpkemamfccfdaa
set_option linter.unusedVariables false
open Go.RowKit

def dutC (o : Dut) : Nat := textC o.arg
def dutsC (l : List Dut) : Nat := l.length + sumC dutC l
def matC (m : Mat) : Nat := textC m.a.name + textC m.v.s
def allC (l : List Mat) : Nat := 1 + l.length + sumC matC l
def anyC (l : List (List Mat)) : Nat := 1 + l.length + sumC allC l
def tgC (t : Tgt) : Nat := 1 + t.length + sumC anyC t


set_option maxHeartbeats 1600000 in
theorem kobls_any {w : World} {R : Nat → Prop} {g m n c : Nat} {A : Option Addr} {l : List Dut} (hl : Lf w g m) (hm : m ≤ 3000) (hR : ∀ b, R b → b ≠ g) (h : Dus w R A n c l) :
    Taking 72 #[.pointer (some ⟨g, 0, none⟩), .slice A n c] w g m (dutsC l) := by
  have hle := Rw.le h
  have hcap := Rw.cap h
  have HL := Lib.hid (Rw.len h)
  have HT := Lib.hid (takes_any (n := n) hl hm (by omega))
  have H := Lib.hid h
  have HR := Lib.hid hR
  have HM := Lib.hid hm
  unfold maxLen at hcap
  unfold Taking at HT ⊢
  have HC : Hid (dutsC l = n + sumC dutC l) := by show dutsC l = _; unfold dutsC; rw [HL.out]
  generalize hcc : dutsC l = cc at *
  clear hcc h hl hR hm
  by_cases h1 : n ≤ m
  · rw [decide_eq_true h1] at HT
    have H1 := Lib.hid h1
    clear h1
    go_enter Try.func72, Try.ntmps72
    go_wp2_with (go_at_call 37; refine HT.out.mono ?_; rintro e w1 ⟨rfl, hb, hw⟩; have B1 := Lib.hid hb; have W1 := Lib.hid (hw H1.out); clear hb hw)
    go_loopw [14] (fun i wr => ∃ k mk : Nat, k ≤ n ∧ i = .int .i64 k ∧ sumC dutC (l.take k) + mk = m - n ∧ Lf wr g mk ∧ Only g w wr) (fun i _ => n - (intOf i).toNat)
    case atStart => exact ⟨0, m - n, Nat.zero_le _, rfl, by rw [sumC_zero]; omega, W1.out, B1.out⟩
    case round =>
      obtain ⟨k, mk, hk, rfl, hs, hlf, hb⟩ := hrel
      have HS := Lib.hid hs
      have HB := Lib.hid hb
      have HF := Lib.hid hlf
      clear hs hb hlf
      by_cases hlt : k < n
      · obtain ⟨b, o, x, rfl, hRb, hbl, hx, hok, c0, c1, c2⟩ := (H.out.keep (HB.out.kept HR.out) (fun _ h _ => h)).at_ hlt
        have HX := Lib.hid hx
        have HXT := Lib.hid (ktext_any x.arg (HF.out.alloc (.cells #[.int .i64 x.on, .int .i64 x.kind, .string x.arg] 116)) (by have := HS.out; have := HM.out; omega) hok.2.2)
        unfold Taking at HXT
        clear hx hok
        by_cases h2 : textC x.arg ≤ mk
        · rw [decide_eq_true h2] at HXT
          have H2 := Lib.hid h2
          clear h2
          go_wp2_with (go_at_call 38; refine HXT.out.mono ?_; rintro e w2 ⟨rfl, hb, hw⟩; have B2 := Lib.hid hb; have W2 := Lib.hid (hw H2.out); clear hb hw)
          go_roundw
          case rel => exact ⟨k + 1, mk - textC x.arg, by omega, by go_num, by rw [sumC_take HX.out]; have := HS.out; have := H2.out; show _ + textC x.arg + _ = _; omega, W2.out, HB.out.trans ((Only.alloc _ _ _).trans B2.out)⟩
          case measure => simp [intOf]; omega
        · rw [decide_eq_false h2] at HXT
          have H2 := Lib.hid h2
          clear h2
          go_wp2_with (go_at_call 38; refine HXT.out.mono ?_; rintro e w2 ⟨rfl, hb, hw⟩; have B2 := Lib.hid hb; clear hb hw)
          go_ret
          have hbad : ¬ cc ≤ m := by
            have := sumC_le (f := dutC) HX.out
            have := HC.out; have := HS.out; have := H1.out; have := H2.out
            have e : dutC x = textC x.arg := rfl
            omega
          exact ⟨ret_bool (decide_eq_false hbad).symm, HB.out.trans ((Only.alloc _ _ _).trans B2.out), fun h => absurd h hbad⟩
      · obtain rfl : k = n := by omega
        go_wp2
        go_ret
        have hs := HS.out
        rw [sumC_all HL.out] at hs
        have := HC.out
        have := H1.out
        exact ⟨ret_bool (decide_eq_true (by omega)).symm, HB.out, fun _ => by rw [show m - cc = mk by omega]; exact HF.out⟩
  · rw [decide_eq_false h1] at HT
    have H1 := Lib.hid h1
    clear h1
    go_enter Try.func72, Try.ntmps72
    go_wp2_with (go_at_call 37; refine HT.out.mono ?_; rintro e w1 ⟨rfl, hb, hw⟩; have B1 := Lib.hid hb; clear hb hw)
    go_ret
    have hbad : ¬ cc ≤ m := by have := HC.out; have := H1.out; omega
    exact ⟨ret_bool (decide_eq_false hbad).symm, B1.out, fun h => absurd h hbad⟩
end Go.Proofs.Ytjpkemamfccfdaa
