/- Several texts in one: CellRows, MarkApp, PolOw, Gr, EvalMem, Make, Clone, EvalOn, VApp. -/
import Derived.Test.YtmoglaknmlhpgaaGreatDoorOnlG
import Derived.Maps.AppendAt
import Derived.Deep.RegionLaw
import Derived.Test.YtmoglaknmlhpgaaGreatDoorOnlF
import Derived.Test.YtmoglaknmlhpgaaGreatDoorOnlA
import Derived.Lib.Strings
import Derived.Lib.Walk
import Derived.Lib.BufferWrite
import Derived.Lib.UnsafeStr
import Derived.Laws.MakeOwn
import Derived.Test.YtmoglaknmlhpgaaGreatDoorOnlB
import Derived.Laws.OwnMore
/- append of many cells, one each, to a row of the call's own; what it leaves alone. -/
namespace Go.Proofs.YtmoglaknmlhpgaaGreatDoor
set_option linter.unusedVariables false
open Go.RowKit

theorem append_cells {P : Program} {T E : TypeId} {i : TypeInfo} {z : Value} {by_ : Nat} (ht : P.underlying T = some (.slice E)) (hi : P.info? E = some i) (hz : i.zero = some z) (hz1 : z.oneCell' = true) (hs : i.size = 1) (hb : i.bytes = by_) (hby : by_ ≤ 1000)
  {w : World} {base B n c m c2 ty : Nat} {A A2 : Option Addr} {xs ys : List Value} (h : w.ownsRow base E 1 (.slice A n c) n xs) (hy : Sl w B A2 m c2 ys) (h1 : ∀ v ∈ ys, v.oneCell' = true)
  (hn : n + m ≤ 1000000) (hbase : base ≤ w.heap.size) :
  ∃ A' c' w', (Builtin.append_ #[T, T] ty #[.slice A n c, .slice A2 m c2]).run P w = .ok (.slice A' (n + m) c') w' ∧
   w'.ownsRow base E 1 (.slice A' (n + m) c') (n + m) (xs ++ ys) ∧ Below base w w' ∧ w.grownBy w' (Value.slice A n c).ownBlock ∧
   ((Value.slice A' (n + m) c').ownBlock = (Value.slice A n c).ownBlock ∨ (Value.slice A' (n + m) c').ownBlock = some w.heap.size) := by
 have hlen := hy.len
 have fin : ∀ (ad : Addr), A2 = some ad → (∀ j u, ys[j]? = some u → w.cell? (ad.add j) = some u) → ∃ A' c' w', (Builtin.append_ #[T, T] ty #[.slice A n c, .slice A2 m c2]).run P w = .ok (.slice A' (n + m) c') w' ∧
   w'.ownsRow base E 1 (.slice A' (n + m) c') (n + m) (xs ++ ys) ∧ Below base w w' ∧ w.grownBy w' (Value.slice A n c).ownBlock ∧
   ((Value.slice A' (n + m) c').ownBlock = (Value.slice A n c).ownBlock ∨ (Value.slice A' (n + m) c').ownBlock = some w.heap.size) := by
  rintro ad rfl hc
  have hb2 : (n + m) * by_ ≤ 1000000 * 1000 := Nat.mul_le_mul hn hby
  obtain ⟨v', w', hrun, h2, h3, h4, h5⟩ := run_append_own_at (P := P) w base T ty E i z 1 by_ ht hi hz hs hb (by cases z <;> first | rfl | cases hz1) (by omega) (.slice A n c) n xs h
   ad m c2 ys (by omega) hc h1 (by unfold maxLen; omega) (by omega) hbase
  have hform : ∃ A' c', v' = .slice A' (n + m) c' := by
   rcases h2.2 with ⟨hv, hz⟩ | ⟨g, cap, cur, hv, _⟩
   ·exact ⟨_, _, by rw [hv, hz]⟩
   ·exact ⟨_, _, hv⟩
  obtain ⟨A', c', rfl⟩ := hform
  exact ⟨A', c', w', hrun, h2, (Below.refl base w).grown h3 hbase (fun k hk => (h.lt k hk).1), h3, h5⟩
 rcases hy.2.2.2 with h0 | ⟨b, o, e, hb', hc⟩
 ·subst h0
  obtain rfl : ys = [] := List.eq_nil_of_length_eq_zero hlen
  rcases A2 with _ | ad
  ·exact ⟨A, c, w, append_nil_src ht hi h, by simpa using h, Below.refl _ _, ⟨rfl, rfl, rfl, Nat.le_refl _, fun _ _ _ => rfl⟩, .inl rfl⟩
  ·exact fin ad rfl (fun j u hu => by simp at hu)
 ·refine fin _ e fun j u hu => ?_
  have := hc j u hu
  by_cases hj : j = 0
  ·subst hj; simpa [Addr.add] using this
  ·simpa [Addr.add, hj] using this

theorem Sl.keep1 {w w' : World} {B n c : Nat} {A : Option Addr} {xs : List Value} (h : Sl w B A n c xs) (hk : ∀ ad, A = some ad → w'.heap[ad.block]? = w.heap[ad.block]?) : Sl w' B A n c xs := by
 obtain ⟨h1, h2, h3, h4⟩ := h
 refine ⟨h1, h2, h3, ?_⟩
 rcases h4 with h4 | ⟨b, o, e, hb, hc⟩
 ·exact .inl h4
 ·have hk' : w'.heap[b]? = w.heap[b]? := hk _ e
  exact .inr ⟨b, o, e, hb, fun j u hu => (World.cell?_of_block (a := ⟨b, o + j, none⟩) hk').trans (hc j u hu)⟩
theorem Sl.grown {w w' : World} {n c : Nat} {A : Option Addr} {xs : List Value} {v : Value} (h : Sl w w.heap.size A n c xs) (g : w.grownBy w' v.ownBlock) (hne : ∀ ad, A = some ad → v.ownBlock ≠ some ad.block) : Sl w' w'.heap.size A n c xs := by
 rcases Nat.eq_zero_or_pos n with h0 | h0
 ·subst h0
  exact ⟨h.1, h.2.1, h.2.2.1, .inl rfl⟩
 ·refine (h.keep1 fun ad e => g.block ad.block ?_ ?_).more g.size
  ·obtain ⟨b, o, u, e', hb, _⟩ := h.at_ h0
   rw [e] at e'
   injection e' with e'
   subst e'
   exact hb
  ·exact fun hh => hne ad e hh.symm
end Go.Proofs.YtmoglaknmlhpgaaGreatDoor
/- Rows of marks of the call's own: append of many. -/
namespace Go.Proofs.YtmoglaknmlhpgaaGreatDoor
set_option linter.unusedVariables false
open Go.RowKit

theorem append_marks {w : World} {base B n c m c2 ty : Nat} {A A2 : Option Addr} {xs ys : List Mk} (h : w.ownsRow base 42 1 (.slice A n c) n (mv xs)) (hy : Sl w B A2 m c2 (mv ys)) (hn : n + m ≤ 1000000) (hbase : base ≤ w.heap.size) :
  ∃ A' c' w', (Builtin.append_ #[133, 133] ty #[.slice A n c, .slice A2 m c2]).run Tryz.prog w = .ok (.slice A' (n + m) c') w' ∧
   w'.ownsRow base 42 1 (.slice A' (n + m) c') (n + m) (mv (xs ++ ys)) ∧ Below base w w' ∧ w.grownBy w' (Value.slice A n c).ownBlock ∧
   ((Value.slice A' (n + m) c').ownBlock = (Value.slice A n c).ownBlock ∨ (Value.slice A' (n + m) c').ownBlock = some w.heap.size) := by
 obtain ⟨i, hi, hz0, hz1, hz2⟩ := info_parts markinfo
 rw [mv_app]
 exact append_cells Tryz.underlying133 hi hz0 rfl hz1 hz2 (by decide) h hy one_mv hn hbase
end Go.Proofs.YtmoglaknmlhpgaaGreatDoor
/- Rows of the call's own whose elements lead to memory: append. -/
namespace Go.Proofs.YtmoglaknmlhpgaaGreatDoor
set_option linter.unusedVariables false
open Go.RowKit

def Ow {α : Type} (k : Nat) (P : List Value → α → Prop) (w : World) (base : Nat) (E : TypeId) (A : Option Addr) (n c : Nat) (l : List α) : Prop :=
 ∃ raw : List (List Value), w.ownsRow base E k (.slice A n c) n raw.flatten ∧ raw.length = n ∧ l.length = n ∧ (∀ y ∈ raw, y.length = k) ∧ ∀ (j : Nat) (vs : List Value) (x : α), raw[j]? = some vs → l[j]? = some x → P vs x
section
variable {α : Type} {k : Nat} {P P' : List Value → α → Prop} {w w' : World} {base : Nat} {E : TypeId} {A : Option Addr} {n c : Nat} {l : List α}
theorem Ow.len (h : Ow k P w base E A n c l) : l.length = n := by obtain ⟨_, _, _, h, _⟩ := h; exact h
theorem Ow.made (k : Nat) (P : List Value → α → Prop) (w : World) (E : TypeId) : Ow k P (w.alloc (.cells #[] E)) w.heap.size E (some ⟨w.heap.size, 0, none⟩) 0 0 [] :=
 ⟨[], own_none w E k, rfl, rfl, by simp, by simp⟩
theorem Ow.nil (k : Nat) (P : List Value → α → Prop) (w : World) (base : Nat) (E : TypeId) : Ow k P w base E none 0 0 [] :=
 ⟨[], ⟨by simp, .inl ⟨rfl, rfl⟩⟩, rfl, rfl, by simp, by simp⟩
theorem Ow.mapP (h : Ow k P w base E A n c l) (hP : ∀ vs x, x ∈ l → P vs x → P' vs x) : Ow k P' w base E A n c l := by
 obtain ⟨raw, h1, h2, h3, h4, h5⟩ := h
 exact ⟨raw, h1, h2, h3, h4, fun j vs x a b => hP vs x (List.mem_of_getElem? b) (h5 j vs x a b)⟩
theorem Ow.grown (h : Ow k P w base E A n c l) {row : Option Nat} (hg : w.grownBy w' row) (hne : (Value.slice A n c).ownBlock = none ∨ (Value.slice A n c).ownBlock ≠ row) : Ow k P w' base E A n c l := by
 obtain ⟨raw, h1, h2, h3, h4, h5⟩ := h
 exact ⟨raw, h1.kept (row := row) hg hne, h2, h3, h4, h5⟩
theorem Ow.below (h : Ow k P w base E A n c l) (hb : Below w.heap.size w w') : Ow k P w' base E A n c l := by
 refine h.grown (row := none) ⟨hb.os, hb.tape, hb.output, hb.size, fun k hk _ => hb.block k hk⟩ ?_
 by_cases hv : (Value.slice A n c).ownBlock = none
 ·exact .inl hv
 ·exact .inr hv
theorem Ow.alloc (h : Ow k P w base E A n c l) (o : Obj) : Ow k P (w.alloc o) base E A n c l := h.below ((Below.refl _ _).alloc (Nat.le_refl _) _)
theorem Ow.rw {R : Nat → Prop} (h : Ow k P w base E A n c l) (hbig : n ≤ 140737488351232) (hR : ∀ ad, A = some ad → base ≤ ad.block → R ad.block) : Rw k P w R A n c l := by
 obtain ⟨raw, h1, h2, h3, h4, h5⟩ := h
 exact Rw.of_own h1 hbig h2 h3 h4 h5 hR
theorem Ow.app {Pg : Program} {T : TypeId} {i : TypeInfo} {z : Value} {by_ : Nat} (ht : Pg.underlying T = some (.slice E)) (hi : Pg.info? E = some i) (hz : i.zero = some z) (hs : i.size = k) (hb : i.bytes = by_) (hzs : z.cells.size = k) (hk : 0 < k) (hby : by_ ≤ 1000)
  {m c2 ty : Nat} {A2 : Option Addr} {R : Nat → Prop} {ys : List α} (h : Ow k P w base E A n c l) (hy : Rw k P w R A2 m c2 ys) (h1 : ∀ vs x, P vs x → ∀ v ∈ vs, v.oneCell' = true) (hn : n + m ≤ 1000000) (hbase : base ≤ w.heap.size) :
  ∃ A' c' w', (Builtin.append_ #[T, T] ty #[.slice A n c, .slice A2 m c2]).run Pg w = .ok (.slice A' (n + m) c') w' ∧ Ow k P w' base E A' (n + m) c' (l ++ ys) ∧ Below base w w' ∧ w.grownBy w' (Value.slice A n c).ownBlock ∧
   ((Value.slice A' (n + m) c').ownBlock = (Value.slice A n c).ownBlock ∨ (Value.slice A' (n + m) c').ownBlock = some w.heap.size) := by
 obtain ⟨raw, o1, o2, o3, o4, o5⟩ := h
 obtain ⟨raw2, r1, r2, r3, r4⟩ := hy.fl hk h1
 obtain ⟨A', c', w', hrun, hown, hbel, hg, ha⟩ := append_rows (ty := ty) (c2 := c2) ht hi hz hs hb hzs hk hby o1 r4 hn hbase
 refine ⟨A', c', w', hrun, ⟨raw ++ raw2, by rw [List.flatten_append]; exact hown, by rw [List.length_append, o2, r1], by rw [List.length_append, o3, hy.1], fun y hy => (List.mem_append.1 hy).elim (o4 y) (r2 y), fun j vs x a b => ?_⟩, hbel, hg, ha⟩
 by_cases hj : j < n
 ·rw [List.getElem?_append_left (by omega)] at a b
  exact o5 j vs x a b
 ·rw [List.getElem?_append_right (by omega)] at a b
  rw [o2] at a
  rw [o3] at b
  exact r3 (j - n) vs x a b
end

def AlP (w : World) (R : Nat → Prop) (vs : List Value) (l : List Mat) : Prop := ∃ A n c, vs = [.slice A n c] ∧ Ms w R A n c l
def AnP (w : World) (R : Nat → Prop) (vs : List Value) (l : List (List Mat)) : Prop := ∃ A n c, vs = [.slice A n c] ∧ Als w R A n c l
theorem AlP.one {w : World} {R : Nat → Prop} (vs : List Value) (l : List Mat) (h : AlP w R vs l) : ∀ v ∈ vs, v.oneCell' = true := by
 obtain ⟨A, n, c, rfl, _⟩ := h
 intro v hv
 simp at hv
 subst hv
 rfl
theorem AnP.one {w : World} {R : Nat → Prop} (vs : List Value) (l : List (List Mat)) (h : AnP w R vs l) : ∀ v ∈ vs, v.oneCell' = true := by
 obtain ⟨A, n, c, rfl, _⟩ := h
 intro v hv
 simp at hv
 subst hv
 rfl
theorem AnP.keep {w w' : World} {R R' : Nat → Prop} {vs : List Value} {l : List (List Mat)} (h : AnP w R vs l) (hk : Kept R w w') (hR : ∀ b, R b → b < w.heap.size → R' b) : AnP w' R' vs l := by
 obtain ⟨A, n, c, e, h⟩ := h
 exact ⟨A, n, c, e, h.keep hk hR⟩
theorem AlP.keep {w w' : World} {R R' : Nat → Prop} {vs : List Value} {l : List Mat} (h : AlP w R vs l) (hk : Kept R w w') (hR : ∀ b, R b → b < w.heap.size → R' b) : AlP w' R' vs l := by
 obtain ⟨A, n, c, e, h⟩ := h
 exact ⟨A, n, c, e, h.keep hk hR⟩
theorem s1info : (Tryz.prog.info? 113).map (fun i => (i.zero, i.size, i.bytes)) = some (some (.slice none 0 0), 1, 24) := by kernel_rfl
theorem s0info : (Tryz.prog.info? 114).map (fun i => (i.zero, i.size, i.bytes)) = some (some (.slice none 0 0), 1, 24) := by kernel_rfl
end Go.Proofs.YtmoglaknmlhpgaaGreatDoor
/- Rows of the call's own that grow by one, whose elements lead to memory apart from the row itself. -/
namespace Go.Proofs.YtmoglaknmlhpgaaGreatDoor
set_option linter.unusedVariables false
open Go.RowKit

def Nb (base : Nat) (v : Value) (b : Nat) : Prop := base ≤ b ∧ some b ≠ v.ownBlock
def Keeps {α : Type} (P : World → (Nat → Prop) → List Value → α → Prop) : Prop :=
 ∀ (w w' : World) (R R' : Nat → Prop) vs x, P w R vs x → Kept R w w' → (∀ b, R b → b < w.heap.size → R' b) → P w' R' vs x
def Gr {α : Type} (k : Nat) (P : World → (Nat → Prop) → List Value → α → Prop) (w : World) (base : Nat) (E : TypeId) (A : Option Addr) (n c : Nat) (l : List α) : Prop :=
 Ow k (P w (Nb base (.slice A n c))) w base E A n c l ∧ base ≤ w.heap.size

section
variable {α : Type} {k : Nat} {P : World → (Nat → Prop) → List Value → α → Prop} {w w' : World} {base : Nat} {E : TypeId} {A : Option Addr} {n c : Nat} {l : List α}
theorem Ow.lt {P : List Value → α → Prop} (h : Ow k P w base E A n c l) : ∀ b, (Value.slice A n c).ownBlock = some b → base ≤ b ∧ b < w.heap.size := by
 obtain ⟨raw, h1, _⟩ := h
 exact h1.lt
theorem Gr.nil (w : World) (base : Nat) (hb : base ≤ w.heap.size) : Gr k P w base E none 0 0 [] := ⟨Ow.nil _ _ _ _ _, hb⟩
theorem Gr.len (h : Gr k P w base E A n c l) : l.length = n := h.1.len
theorem Gr.below (hP : Keeps P) (h : Gr k P w base E A n c l) (hb : Below w.heap.size w w') : Gr k P w' base E A n c l :=
 ⟨(h.1.mapP (fun vs x _ hp => hP _ _ _ _ vs x hp (Kept.all hb _) (fun _ h _ => h))).below hb, Nat.le_trans h.2 hb.size⟩
theorem Gr.rw (hP : Keeps P) (h : Gr k P w base E A n c l) (hbig : n ≤ 140737488351232) : Rw k (P w (fun b => base ≤ b)) w (fun b => base ≤ b) A n c l :=
 (h.1.mapP (fun vs x _ hp => hP _ _ _ (fun b => base ≤ b) vs x hp (Kept.refl _ _) (fun _ h _ => h.1))).rw hbig (fun _ _ h => h)
theorem Gr.push {Pg : Program} {T : TypeId} {i : TypeInfo} {z : Value} {by_ : Nat} (ht : Pg.underlying T = some (.slice E)) (hi : Pg.info? E = some i) (hz : i.zero = some z) (hs : i.size = k) (hb : i.bytes = by_) (hzs : z.cells.size = k) (hk : 0 < k) (hby : by_ ≤ 1000)
  {ty : Nat} {vs : List Value} {x : α} (hP : Keeps P) (h : Gr k P w base E A n c l) (hx : P w (Nb base (.slice A n c)) vs x) (hl : vs.length = k) (h1 : ∀ w R vs (x : α), P w R vs x → ∀ v ∈ vs, v.oneCell' = true) (hn : n < 1000000) :
  ∃ A' c' w', (Builtin.append_ #[T, T] ty #[.slice A n c, .slice (some ⟨w.heap.size, 0, none⟩) 1 1]).run Pg (w.alloc (.cells vs.toArray E)) = .ok (.slice A' (n + 1) c') w' ∧ Gr k P w' base E A' (n + 1) c' (l ++ [x]) ∧ Below base w w' := by
 have hbase := h.2
 have a1 : Below w.heap.size w (w.alloc (.cells vs.toArray E)) := (Below.refl _ _).alloc (Nat.le_refl _) _
 have h' := Gr.below hP h a1
 have hlit : Rw k (P (w.alloc (.cells vs.toArray E)) (Nb base (.slice A n c))) (w.alloc (.cells vs.toArray E)) (fun _ => True) (some ⟨w.heap.size, 0, none⟩) 1 1 [x] := by
  have := Rw.lit (P := P (w.alloc (.cells vs.toArray E)) (Nb base (.slice A n c))) (R := fun _ => True) w E (fun _ => vs) [x] (n := 1) rfl (by omega) trivial (fun _ _ => hl) (fun y hy => by simp at hy; subst hy; exact hP _ _ _ _ _ _ hx (Kept.all a1 _) (fun _ h _ => h))
  simpa using this
 obtain ⟨A', c', w', hrun, hown, hbel, hg, hob⟩ := Ow.app (ty := ty) ht hi hz hs hb hzs hk hby h'.1 hlit (h1 _ _) (by omega) h'.2
 refine ⟨A', c', w', hrun, ⟨hown.mapP fun vs x _ hp => hP _ _ _ _ vs x hp ⟨hg.size, fun b hR hlt => hg.block b hlt hR.2⟩ (fun b hR hlt => ⟨hR.1, ?_⟩), Nat.le_trans h'.2 hbel.size⟩, (a1.mono hbase).trans hbel⟩
 rcases hob with e | e
 ·rw [e]; exact hR.2
 ·rw [e]
  intro he
  injection he with he
  omega
end
theorem keeps_alp : Keeps AlP := fun _ _ _ _ _ _ h hk hR => h.keep hk hR
theorem keeps_anp : Keeps AnP := fun _ _ _ _ _ _ h hk hR => h.keep hk hR
theorem keeps_rul : Keeps RulAt := fun _ _ _ _ _ _ h hk hR => h.keep hk hR
theorem keeps_pol (d : Nat) : Keeps (fun w R => PolAt w R d) := fun _ _ _ _ _ _ h hk hR => PolAt.keep hk hR h
theorem matinfo : (Tryz.prog.info? 116).map (fun i => (i.zero, i.size, i.bytes)) = some (some (.agg #[.int .i64 0, .string ⟨#[]⟩, .bool false, .int .i64 0, .int .i64 0, .int .i64 0, .string ⟨#[]⟩]), 7, 72) := by kernel_rfl
theorem push_all {w : World} {base n c : Nat} {A : Option Addr} {l : List (List Mat)} {A1 : Option Addr} {n1 c1 : Nat} {x : List Mat} (h : Gr 1 AlP w base 114 A n c l) (hx : Ms w (Nb base (.slice A n c)) A1 n1 c1 x) (hn : n < 1000000) :
  ∃ A' c' w', (Builtin.append_ #[113, 113] 113 #[.slice A n c, .slice (some ⟨w.heap.size, 0, none⟩) 1 1]).run Tryz.prog (w.alloc (.cells #[.slice A1 n1 c1] 114)) = .ok (.slice A' (n + 1) c') w' ∧ Gr 1 AlP w' base 114 A' (n + 1) c' (l ++ [x]) ∧ Below base w w' := by
 obtain ⟨i, hi, hz, hs, hb⟩ := info_of s0info
 exact Gr.push (vs := [.slice A1 n1 c1]) (x := x) Tryz.underlying113 hi hz hs hb rfl (by omega) (by omega) keeps_alp h ⟨A1, n1, c1, rfl, hx⟩ rfl (fun _ _ _ _ => AlP.one _ _) hn
theorem Gr.apart {α : Type} {k : Nat} {P : World → (Nat → Prop) → List Value → α → Prop} {w : World} {base : Nat} {E : TypeId} {A : Option Addr} {n c : Nat} {l : List α} (h : Gr k P w base E A n c l) : ∀ b, w.heap.size ≤ b → Nb base (.slice A n c) b := fun b hb => by
 refine ⟨Nat.le_trans h.2 hb, fun e => ?_⟩
 have := (h.1.lt b e.symm).2
 omega
end Go.Proofs.YtmoglaknmlhpgaaGreatDoor
/- Decisions in memory: rows of duties of the call's own, rows of results. -/
namespace Go.Proofs.YtmoglaknmlhpgaaGreatDoor
set_option linter.unusedVariables false
open Go.RowKit

def OwD (w : World) (base : Nat) (A : Option Addr) (n c : Nat) (l : List Dut) : Prop :=
 w.ownsRow base 65 3 (.slice A n c) n (l.flatMap Dut.cells) ∧ l.length = n ∧ (∀ x ∈ l, x.ok) ∧ base ≤ w.heap.size
section
variable {w w' : World} {base n c : Nat} {A : Option Addr} {l : List Dut}
theorem OwD.nil (w : World) (base : Nat) (hb : base ≤ w.heap.size) : OwD w base none 0 0 [] := ⟨⟨by simp, .inl ⟨rfl, rfl⟩⟩, rfl, by simp, hb⟩
theorem OwD.below (h : OwD w base A n c l) (hb : Below w.heap.size w w') : OwD w' base A n c l :=
 ⟨h.1.kept (row := none) ⟨hb.os, hb.tape, hb.output, hb.size, fun k hk _ => hb.block k hk⟩ (by
  by_cases hv : (Value.slice A n c).ownBlock = none
  ·exact .inl hv
  ·exact .inr hv), h.2.1, h.2.2.1, Nat.le_trans h.2.2.2 hb.size⟩
theorem OwD.dus (h : OwD w base A n c l) (hn : n ≤ 1000000) : Dus w (fun b => base ≤ b) A n c l := Rw.flat_own h.1 (by omega) h.2.1 (fun _ => rfl) h.2.2.1 (fun _ _ h => h)
theorem OwD.app {m c2 : Nat} {R : Nat → Prop} {A2 : Option Addr} {ys : List Dut} (h : OwD w base A n c l) (hy : Dus w R A2 m c2 ys) (hn : n + m ≤ 1000000) (ty : Nat) :
  ∃ A' c' w', (Builtin.append_ #[26, 26] ty #[.slice A n c, .slice A2 m c2]).run Tryz.prog w = .ok (.slice A' (n + m) c') w' ∧ OwD w' base A' (n + m) c' (l ++ ys) ∧ Below base w w' := by
 obtain ⟨A', c', w', r, o, b, _, _⟩ := append_duts (ty := ty) h.1 hy hn h.2.2.2
 exact ⟨A', c', w', r, ⟨o, by rw [List.length_append, h.2.1, Rw.len hy], fun x hx => (List.mem_append.1 hx).elim (h.2.2.1 x) (Rw.all hy x), Nat.le_trans h.2.2.2 b.size⟩, b⟩
theorem OwD.push {x : Dut} (h : OwD w base A n c l) (hx : x.ok) (hn : n < 1000000) (ty : Nat) :
  ∃ A' c' w', (Builtin.append_ #[26, 26] ty #[.slice A n c, .slice (some ⟨w.heap.size, 0, none⟩) 1 1]).run Tryz.prog (w.alloc (.cells #[.int .i64 x.on, .int .i64 x.kind, .string x.arg] 65)) = .ok (.slice A' (n + 1) c') w' ∧ OwD w' base A' (n + 1) c' (l ++ [x]) ∧ Below base w w' := by
 have a1 : Below w.heap.size w (w.alloc (.cells #[.int .i64 x.on, .int .i64 x.kind, .string x.arg] 65)) := (Below.refl _ _).alloc (Nat.le_refl _) _
 have hl := Dus.lit w (R := fun _ => True) [x] (n := 1) rfl (by omega) trivial (fun y hy => by simp at hy; subst hy; exact hx)
 obtain ⟨A', c', w', r, o, b⟩ := (h.below a1).app (show Dus (w.alloc (.cells #[.int .i64 x.on, .int .i64 x.kind, .string x.arg] 65)) (fun _ => True) (some ⟨w.heap.size, 0, none⟩) 1 1 [x] by simpa [Dut.cells] using hl) (by omega) ty
 exact ⟨A', c', w', r, o, (a1.mono h.2.2.2).trans b⟩
end

def ResAt (w : World) (R : Nat → Prop) (vs : List Value) (r : Res) : Prop := ∃ A n c, vs = [mcell r.m, .slice A n c] ∧ Dus w R A n c r.ob
def Rss (w : World) (R : Nat → Prop) := Rw 2 (ResAt w R) w R
section
variable {w w' : World} {R R' : Nat → Prop} {A : Option Addr} {n c : Nat}
theorem ResAt.keep {vs : List Value} {r : Res} (h : ResAt w R vs r) (hk : Kept R w w') (hR : ∀ b, R b → b < w.heap.size → R' b) : ResAt w' R' vs r := by
 obtain ⟨A, n, c, e, h1⟩ := h
 exact ⟨A, n, c, e, h1.keep hk hR⟩
theorem keeps_res : Keeps ResAt := fun _ _ _ _ _ _ h hk hR => h.keep hk hR
theorem Rss.keep {l : List Res} (h : Rss w R A n c l) (hk : Kept R w w') (hR : ∀ b, R b → b < w.heap.size → R' b) : Rss w' R' A n c l := Rw.keep h hk hR fun _ _ _ h => h.keep hk hR
theorem ResAt.one {w : World} {R : Nat → Prop} (vs : List Value) (r : Res) (h : ResAt w R vs r) : ∀ v ∈ vs, v.oneCell' = true := by
 obtain ⟨A, n, c, rfl, _⟩ := h
 intro v hv
 simp at hv
 rcases hv with rfl | rfl <;> rfl
theorem Rss.at_ {l : List Res} (h : Rss w R A n c l) {j : Nat} (hj : j < n) : ∃ b o r A' n' c', A = some ⟨b, o, none⟩ ∧ R b ∧ b < w.heap.size ∧ l[j]? = some r ∧
  (w.cell? ⟨b, o + j * 2, none⟩ = some (.complex .f64 (fl r.m.1) (fl r.m.2)) ∧ w.cell? ⟨b, o + j * 2 + 1, none⟩ = some (.slice A' n' c')) ∧ Dus w R A' n' c' r.ob := by
 obtain ⟨b, o, g, vs, e, hb, hlt, hm, hl, hv, A', n', c', rfl, hin⟩ := Rw.at_ h hj
 exact ⟨b, o, g, A', n', c', e, hb, hlt, hm, ⟨hv 0 _ rfl, hv 1 _ rfl⟩, hin⟩
end
theorem resinfo : (Tryz.prog.info? 44).map (fun i => (i.zero, i.size, i.bytes)) = some (some (.agg #[.complex .f64 0 0, .slice none 0 0]), 2, 40) := by kernel_rfl
theorem push_res {w : World} {base n c : Nat} {A : Option Addr} {l : List Res} {A1 : Option Addr} {n1 c1 : Nat} {r : Res} (h : Gr 2 ResAt w base 44 A n c l) (hx : Dus w (Nb base (.slice A n c)) A1 n1 c1 r.ob) (hn : n < 1000000) :
  ∃ A' c' w', (Builtin.append_ #[88, 88] 88 #[.slice A n c, .slice (some ⟨w.heap.size, 0, none⟩) 1 1]).run Tryz.prog (w.alloc (.cells #[.complex .f64 (fl r.m.1) (fl r.m.2), .slice A1 n1 c1] 44)) = .ok (.slice A' (n + 1) c') w' ∧ Gr 2 ResAt w' base 44 A' (n + 1) c' (l ++ [r]) ∧ Below base w w' := by
 obtain ⟨i, hi, hz, hs, hb⟩ := info_of resinfo
 exact Gr.push (vs := [mcell r.m, .slice A1 n1 c1]) (x := r) Tryz.underlying88 hi hz hs hb rfl (by omega) (by omega) keeps_res h ⟨A1, n1, c1, rfl, hx⟩ rfl (fun _ _ _ _ => ResAt.one _ _) hn

def OwM (w : World) (base : Nat) (A : Option Addr) (n c : Nat) (l : List Mk) : Prop := w.ownsRow base 42 1 (.slice A n c) n (mv l) ∧ l.length = n ∧ base ≤ w.heap.size
theorem OwM.nil (w : World) (base : Nat) (hb : base ≤ w.heap.size) : OwM w base none 0 0 [] := ⟨⟨by simp [mv], .inl ⟨rfl, rfl⟩⟩, rfl, hb⟩
theorem OwM.below {w w' : World} {base n c : Nat} {A : Option Addr} {l : List Mk} (h : OwM w base A n c l) (hb : Below w.heap.size w w') : OwM w' base A n c l :=
 ⟨h.1.kept (row := none) ⟨hb.os, hb.tape, hb.output, hb.size, fun k hk _ => hb.block k hk⟩ (by
  by_cases hv : (Value.slice A n c).ownBlock = none
  ·exact .inl hv
  ·exact .inr hv), h.2.1, Nat.le_trans h.2.2 hb.size⟩
theorem OwM.sl {w : World} {base n c : Nat} {A : Option Addr} {l : List Mk} (h : OwM w base A n c l) : Sl w w.heap.size A n c (mv l) := Sl.of_own h.1
theorem OwM.push {w : World} {base n c : Nat} {A : Option Addr} {l : List Mk} {m : Mk} (h : OwM w base A n c l) (hn : n < 1000000) (ty : Nat) :
  ∃ A' c' w', (Builtin.append_ #[133, 133] ty #[.slice A n c, .slice (some ⟨w.heap.size, 0, none⟩) 1 1]).run Tryz.prog (w.alloc (.cells #[.complex .f64 (fl m.1) (fl m.2)] 42)) = .ok (.slice A' (n + 1) c') w' ∧ OwM w' base A' (n + 1) c' (l ++ [m]) ∧ Below base w w' := by
 have a1 : Below w.heap.size w (w.alloc (.cells #[.complex .f64 (fl m.1) (fl m.2)] 42)) := (Below.refl _ _).alloc (Nat.le_refl _) _
 have h' := h.below a1
 have hs : Sl (w.alloc (.cells #[.complex .f64 (fl m.1) (fl m.2)] 42)) (w.heap.size + 1) (some ⟨w.heap.size, 0, none⟩) 1 1 (mv [m]) := Sl.lit w 42 (mv [m]) 1 rfl (by unfold maxLen; omega)
 obtain ⟨A', c', w', r, o, b, _, _⟩ := append_marks (ty := ty) h'.1 hs (by omega) h'.2.2
 exact ⟨A', c', w', r, ⟨o, by rw [List.length_append, h.2.1]; rfl, Nat.le_trans h'.2.2 b.size⟩, (a1.mono h.2.2).trans b⟩
end Go.Proofs.YtmoglaknmlhpgaaGreatDoor
/- Rows of bytes in new memory: what a byte's type is, and make. -/
namespace Go.Proofs.YtmoglaknmlhpgaaGreatDoor
open Go.RowKit

theorem u8info : (Tryz.prog.info? 5).map (fun i => (i.zero, i.size, i.bytes)) = some (some (.int .u8 0), 1, 1) := by kernel_rfl

end Go.Proofs.YtmoglaknmlhpgaaGreatDoor
/- strings.Clone. -/
namespace Go.Proofs.YtmoglaknmlhpgaaGreatDoor
set_option linter.unusedVariables false
open Go.RowKit

set_option maxRecDepth 10000 in
set_option maxHeartbeats 4000000 in
theorem slclone_any (s : ByteArray) (w : World) (hlim : s.size ≤ 1000000) :
  Calls Tryz.prog 73 #[.string s] w fun e w' => e = .returned (.string s) ∧ Below w.heap.size w w' := by
 by_cases h0 : s.size = 0
 ·have hs : s = ⟨#[]⟩ := by
   apply ByteArray.ext
   exact Array.eq_empty_of_size_eq_zero h0
  subst hs
  clear h0 hlim
  go_enter Tryz.func73, Tryz.ntmps73
  go_wp2_with fail
  go_ret
  exact ⟨rfl, Below.refl _ _⟩
 ·obtain ⟨i0, hi, hz0, hz1, hz2⟩ := info_parts u8info
  have hinfo : (Tryz.prog.info? 5).map (·.size) = some 1 := by rw [hi]; simp [hz1]
  have hco : Tryz.prog.cellsOf 5 = 1 := by simp [Program.cellsOf, hi, hz1]
  obtain ⟨M, hM⟩ : ∃ M, M = madeCells (Value.int .u8 0).cells (((s.size : Nat) : Int).toNat * i0.size) := ⟨_, rfl⟩
  have hMs : M.size = s.size := by rw [hM, size_madeCells, hz1]; simp
  have hmk : ∀ W : World, (Instr.makeSlice 95 (.int .i64 (s.size : Int)) (.int .i64 (s.size : Int))).run Tryz.prog W = .ok (.slice (some ⟨W.heap.size, 0, none⟩) s.size s.size) (W.alloc (.cells M 5)) := fun W => by
   have h := run_make (P := Tryz.prog) W 95 5 i0 (.int .u8 0) Tryz.underlying95 hi hz0 .i64 .i64 (s.size : Int) (s.size : Int) (by omega) (by omega) (by rw [hz2]; omega) (by omega)
   rw [← hM] at h
   simpa using h
  clear hM
  have hcp := Lib.run_copy_row_string (P := Tryz.prog) (w.alloc (.cells M 5)) 95 9 3 5 w.heap.size 0 s.size s.size s M 5 Tryz.underlying95 hinfo (heap_alloc_new w _) (Nat.le_refl _) (by omega)
  obtain ⟨Y, hY⟩ : ∃ Y, Y = (M.toList.take 0 ++ Lib.byteCells s.data.toList ++ M.toList.drop (0 + s.size)).toArray := ⟨_, rfl⟩
  rw [← hY] at hcp
  have hYl : Y.toList = Lib.byteCells s.data.toList := by
   rw [hY, List.toList_toArray, List.take_zero, List.nil_append, List.drop_of_length_le (by rw [Array.length_toList]; omega), List.append_nil]
  have hYs : Y.size = s.size := by rw [← Array.length_toList, hYl, Lib.byteCells_length, ← Lib.size_eq]
  have hgY : ((w.alloc (.cells M 5)).setRow w.heap.size Y).heap[w.heap.size]? = some (.cells Y 5 (0, 0)) := setRow_heap _ _ M _ 5 (0, 0) (heap_alloc_new w _)
  have hne : s.data.toList ≠ [] := fun e => h0 (by rw [Lib.size_eq, e]; rfl)
  have hUS := Lib.run_unsafeString_row (P := Tryz.prog) ((w.alloc (.cells M 5)).setRow w.heap.size Y) 137 3 9 5 Tryz.underlying137 hco w.heap.size Y.size (by unfold World.shape?; rw [hgY]) s.data.toList hne (by rw [← Lib.size_eq]; omega) (by rw [← Lib.size_eq]; omega)
   (fun j x hx => Lib.cells_of_row hgY Y.size j _ (by rw [List.take_of_length_le (by rw [Array.length_toList]; exact Nat.le_refl _), hYl]; simp [Lib.byteCells, hx]))
  rw [← Lib.size_eq] at hUS
  have H0 := Lib.hid hYl
  have H1 := Lib.hid hne
  have H2 := Lib.hid hgY
  clear hY hYl hne hgY hco hinfo hi hz0 hz1 hz2
  go_enter Tryz.func73, Tryz.ntmps73
  go_wp2_with fail
  go_ret
  have hb1 : Below w.heap.size w (w.alloc (.cells M 5)) := (Below.refl _ w).alloc (Nat.le_refl _) _
  have hb2 : Below w.heap.size (w.alloc (.cells M 5)) ((w.alloc (.cells M 5)).setRow w.heap.size Y) := ⟨rfl, rfl, rfl, by simp, fun k hk => setRow_other _ _ _ _ (by omega)⟩
  exact ⟨rfl, Lib.below_freeze (hb1.trans hb2) (p := ⟨w.heap.size, 0, none⟩) (Nat.le_refl _) _⟩

set_option maxHeartbeats 800000 in
theorem clone_any (s : ByteArray) (w : World) (hlim : s.size ≤ 1000000) :
  Calls Tryz.prog 45 #[.string s] w fun e w' => e = .returned (.string s) ∧ Below w.heap.size w w' := by
 have H := Lib.hid (slclone_any s w hlim)
 clear hlim
 go_enter Tryz.func45, Tryz.ntmps45
 go_wp2_with (go_at_call 73; refine H.out.mono ?_; rintro e w' ⟨rfl, hb⟩)
 go_ret
 exact ⟨rfl, hb⟩
end Go.Proofs.YtmoglaknmlhpgaaGreatDoor
/- Package eval: on, Duties. -/
namespace Go.Proofs.YtmoglaknmlhpgaaGreatDoor
set_option linter.unusedVariables false
open Go.RowKit
attribute [local go_sem] eq0 feq2 eq4 fgt0 gt2 ord_eq ord_gt ord_lt

theorem filter_step {l : List Dut} {k : Nat} {x : Dut} (f : Dut → Bool) (h : l[k]? = some x) : (l.take (k + 1)).filter f = (l.take k).filter f ++ if f x = true then [x] else [] := by
 obtain ⟨hk, e⟩ := List.getElem?_eq_some_iff.1 h
 rw [List.take_succ_eq_append_getElem hk, e, List.filter_append]
 congr 1
 by_cases hf : f x = true
 ·rw [if_pos hf, List.filter_cons_of_pos hf]; rfl
 ·rw [if_neg hf, List.filter_cons_of_neg hf]; rfl
set_option maxRecDepth 100000 in
set_option maxHeartbeats 1600000 in
theorem on_any {w : World} {R : Nat → Prop} {A : Option Addr} {n c : Nat} {l : List Dut} (d : Int) (h : Dus w R A n c l) (hs : ∀ o ∈ l, o.arg.size ≤ 1000000) (hn : n ≤ 500000) :
  Calls Tryz.prog 66 #[.slice A n c, .int .i64 d] w fun e w' => ∃ A' n' c', e = .returned (.slice A' n' c') ∧ Below w.heap.size w w' ∧ OwD w' w.heap.size A' n' c' (l.filter (fun o => decide (o.on = d))) := by
 have hle := Rw.le h
 have hcap := Rw.cap h
 have HL := Lib.hid (Rw.len h)
 unfold maxLen at hcap
 have H := Lib.hid h
 have HS := Lib.hid hs
 clear h hs
 go_enter Tryz.func66, Tryz.ntmps66
 go_wp2
 go_loopw [5, 10] (fun out i wr => ∃ (k : Nat) (A' : Option Addr) (n' c' : Nat), k ≤ n ∧ i = .int .i64 k ∧ out = .slice A' n' c' ∧ n' ≤ k ∧ OwD wr w.heap.size A' n' c' ((l.take k).filter (fun o => decide (o.on = d))) ∧ Below w.heap.size w wr) (fun out i _ => n - (intOf i).toNat)
 case atStart => exact ⟨0, none, 0, 0, Nat.zero_le _, rfl, rfl, Nat.le_refl _, OwD.nil _ _ (Nat.le_refl _), Below.refl _ _⟩
 case round =>
  obtain ⟨k, A', n', c', hk, rfl, rfl, hnk, ho, hb⟩ := hrel
  have HO := Lib.hid ho
  have HB := Lib.hid hb
  clear ho hb
  by_cases hlt : k < n
  ·obtain ⟨b, o, x, rfl, hRb, hbl, hx, hok, x0, x1, x2⟩ := (H.out.keep (Kept.all HB.out R) (fun _ h _ => h)).at_ hlt
   have HX := Lib.hid hx
   have HK := Lib.hid hok
   have HA := Lib.hid (HS.out x (List.mem_of_getElem? hx))
   have HF := Lib.hid (filter_step (fun o => decide (o.on = d)) hx)
   obtain ⟨xo, xk, xa⟩ := x
   simp only at x0 x1 x2
   clear hx hok
   by_cases hd : xo = d
   ·have hdb : (xo == d) = true := by rw [beq_iff_eq]; exact hd
    have D0 := (Below.refl wr.heap.size wr).alloc (Nat.le_refl _) (.cells #[.int .i64 xo, .int .i64 xk, .string xa] 65)
    have HC : Hid (Calls Tryz.prog 45 #[.string xa] (wr.alloc (.cells #[.int .i64 xo, .int .i64 xk, .string xa] 65)) fun e w' => e = .returned (.string xa) ∧ Below (wr.alloc (.cells #[.int .i64 xo, .int .i64 xk, .string xa] 65)).heap.size (wr.alloc (.cells #[.int .i64 xo, .int .i64 xk, .string xa] 65)) w') := clone_any xa _ HA.out
    have HD := Lib.hid hd
    have B2 := Lib.hid D0
    clear hd D0
    go_wp2_with fail
    refine HC.out.mono ?_
    rintro e w2 ⟨rfl, hb⟩
    have q1 := Ob.below (Ob.made wr 65 #[.int .i64 xo, .int .i64 xk, .string xa]) hb (by rw [size_al]; omega)
    have q4 := q1.frozen 2
    have z0 := q1.cell 0
    have z1 := q1.cell 1
    have z2 := q1.cell 2
    have d1 : Below wr.heap.size wr (w2.setCell ⟨wr.heap.size, 2, none⟩ (.string xa)) := (below_step B2.out hb).setCell (Nat.le_refl _) _
    have hz : (w2.setCell ⟨wr.heap.size, 2, none⟩ (.string xa)).heap.size = w2.heap.size := by simp [World.setCell]
    obtain ⟨A2, c2, w3, r3, o3, b3⟩ := (HO.out.below d1).push (x := ⟨xo, xk, xa⟩) HK.out (by omega) 26
    rw [hz] at r3
    simp only at r3
    have R3 := Lib.hid r3
    have O3 := Lib.hid o3
    have B3 := Lib.hid (HB.out.trans ((d1.mono HB.out.size).trans b3))
    clear hb d1 hz r3 o3 b3 q1
    go_wp2_with (first
     | (at_builtin; refine wpList_append_run (o := ⟨some 25, _, _, _, _, _⟩) rfl _ _ _ _ rfl rfl rfl R3.out ?_))
    go_roundw
    case rel => exact ⟨k + 1, A2, n' + 1, c2, by omega, by go_num, rfl, by omega, by rw [HF.out, if_pos (by simpa using HD.out)]; exact O3.out, B3.out⟩
    case measure => simp [intOf]; omega
   ·have hdb : (xo == d) = false := by rw [beq_eq_false_iff_ne]; exact hd
    have HD := Lib.hid hd
    clear hd
    go_wp2_with fail
    go_roundw
    case rel =>
     have a1 : Below wr.heap.size wr (wr.alloc (.cells #[.int .i64 xo, .int .i64 xk, .string xa] 65)) := (Below.refl _ _).alloc (Nat.le_refl _) _
     exact ⟨k + 1, A', n', c', by omega, by go_num, rfl, by omega, by rw [HF.out, if_neg (by simpa using HD.out), List.append_nil]; exact HO.out.below a1, below_step HB.out a1⟩
    case measure => simp [intOf]; omega
  ·obtain rfl : k = n := by omega
   go_wp2
   go_ret
   have ho := HO.out
   rw [List.take_of_length_le (by have := HL.out; omega)] at ho
   exact ⟨A', n', c', rfl, HB.out, ho⟩
set_option maxHeartbeats 1600000 in
theorem duties_any {w : World} {R : Nat → Prop} {A : Option Addr} {n c : Nat} {l : List Dut} (p d : Fin 5) (h : Dus w R A n c l) (hs : ∀ o ∈ l, o.arg.size ≤ 1000000) (hn : n ≤ 500000) :
  Calls Tryz.prog 37 #[.slice A n c, .complex .f64 (fl p) (fl d)] w fun e w' => ∃ A' n' c', e = .returned (.slice A' n' c') ∧ Below w.heap.size w w' ∧ OwD w' w.heap.size A' n' c' (dutsM l (p, d)) := by
 have H1 := Lib.hid (on_any (w := w) 1 h hs hn)
 have H2 := Lib.hid (on_any (w := w) 2 h hs hn)
 have HE : Hid (dutsM l (p, d) = if (p, d) = ((4, 0) : Mk) then l.filter (fun o => decide (o.on = 1)) else if (p, d) = ((0, 4) : Mk) then l.filter (fun o => decide (o.on = 2)) else []) := rfl
 generalize dutsM l (p, d) = out at *
 clear h hs
 by_cases h1 : (p, d) = ((4, 0) : Mk)
 ·obtain ⟨rfl, rfl⟩ := Prod.mk.inj h1
  have HQ : Hid (out = l.filter (fun o => decide (o.on = 1))) := HE.out.trans (if_pos rfl)
  clear h1 HE
  go_enter Tryz.func37, Tryz.ntmps37
  go_wp2_with fail
  refine H1.out.mono ?_
  rintro e w1 ⟨A', n', c', rfl, hb, ho⟩
  have B1 := Lib.hid hb
  have O1 := Lib.hid ho
  clear hb ho
  go_wp2_with fail
  go_ret
  exact ⟨A', n', c', rfl, B1.out, by rw [HQ.out]; exact O1.out⟩
 ·by_cases h2 : (p, d) = ((0, 4) : Mk)
  ·obtain ⟨rfl, rfl⟩ := Prod.mk.inj h2
   have HQ : Hid (out = l.filter (fun o => decide (o.on = 2))) := HE.out.trans (if_neg h1 |>.trans (if_pos rfl))
   clear h1 h2 HE
   go_enter Tryz.func37, Tryz.ntmps37
   go_wp2_with fail
   refine H2.out.mono ?_
   rintro e w1 ⟨A', n', c', rfl, hb, ho⟩
   have B1 := Lib.hid hb
   have O1 := Lib.hid ho
   clear hb ho
   go_wp2_with fail
   go_ret
   exact ⟨A', n', c', rfl, B1.out, by rw [HQ.out]; exact O1.out⟩
  ·have HQ : Hid (out = []) := HE.out.trans (if_neg h1 |>.trans (if_neg h2))
   have e1 : (p == 4 && d == 0) = false := by
    rw [Bool.eq_false_iff]
    intro h
    rw [Bool.and_eq_true, beq_iff_eq, beq_iff_eq] at h
    exact h1 (by rw [h.1, h.2])
   have e2 : (p == 0 && d == 4) = false := by
    rw [Bool.eq_false_iff]
    intro h
    rw [Bool.and_eq_true, beq_iff_eq, beq_iff_eq] at h
    exact h2 (by rw [h.1, h.2])
   clear h1 h2 HE H1 H2
   go_enter Tryz.func37, Tryz.ntmps37
   go_wp2_with fail
   go_ret
   exact ⟨none, 0, 0, rfl, Below.refl _ _, by rw [HQ.out]; exact OwD.nil _ _ (Nat.le_refl _)⟩
end Go.Proofs.YtmoglaknmlhpgaaGreatDoor
/- Lists of values of the call's own: append. -/
namespace Go.Proofs.YtmoglaknmlhpgaaGreatDoor
set_option linter.unusedVariables false
open Go.RowKit

def cells3 : List Vl → List Value
 | [] => []
 | v :: r => .int .i64 v.k :: .int .i64 v.n :: .string v.s :: cells3 r
theorem cells3_len (l : List Vl) : (cells3 l).length = l.length * 3 := by
 induction l with
 | nil => rfl
 | cons v r ih => simp [cells3, ih]; omega
theorem cells3_app (l m : List Vl) : cells3 (l ++ m) = cells3 l ++ cells3 m := by
 induction l with
 | nil => rfl
 | cons v r ih => simp [cells3, ih]
theorem cells3_one {l : List Vl} : ∀ v ∈ cells3 l, v.oneCell' = true := by
 induction l with
 | nil => intro v hv; cases hv
 | cons x r ih =>
  intro v hv
  simp only [cells3, List.mem_cons] at hv
  rcases hv with rfl | rfl | rfl | hv
  ·rfl
  ·rfl
  ·rfl
  ·exact ih v hv
theorem cells3_at {l : List Vl} {j : Nat} {v : Vl} (h : l[j]? = some v) : (cells3 l)[j * 3]? = some (.int .i64 v.k) ∧ (cells3 l)[j * 3 + 1]? = some (.int .i64 v.n) ∧ (cells3 l)[j * 3 + 2]? = some (.string v.s) := by
 induction l generalizing j with
 | nil => simp at h
 | cons x r ih =>
  cases j with
  | zero => simp at h; subst h; exact ⟨rfl, rfl, rfl⟩
  | succ j =>
   simp at h
   obtain ⟨a, b, c⟩ := ih h
   have e : (j + 1) * 3 = j * 3 + 1 + 1 + 1 := by omega
   rw [e]
   exact ⟨by simpa [cells3] using a, by simpa [cells3] using b, by simpa [cells3] using c⟩
theorem cells3_of {l : List Vl} {i : Nat} {u : Value} (h : (cells3 l)[i]? = some u) : ∃ j v, l[j]? = some v ∧ (i = j * 3 ∧ u = .int .i64 v.k ∨ i = j * 3 + 1 ∧ u = .int .i64 v.n ∨ i = j * 3 + 2 ∧ u = .string v.s) := by
 have hi : i < l.length * 3 := by rw [← cells3_len]; exact (List.getElem?_eq_some_iff.1 h).1
 have hj : i / 3 < l.length := by omega
 obtain ⟨a, b, c⟩ := cells3_at (List.getElem?_eq_getElem hj)
 refine ⟨i / 3, l[i / 3], List.getElem?_eq_getElem hj, ?_⟩
 have hm : i = i / 3 * 3 ∨ i = i / 3 * 3 + 1 ∨ i = i / 3 * 3 + 2 := by omega
 rcases hm with e | e | e
 ·rw [← e, h] at a; exact .inl ⟨e, Option.some.inj a⟩
 ·rw [← e, h] at b; exact .inr (.inl ⟨e, Option.some.inj b⟩)
 ·rw [← e, h] at c; exact .inr (.inr ⟨e, Option.some.inj c⟩)

theorem valinfo : (Tryz.prog.info? 31).map (fun i => (i.zero, i.size, i.bytes)) = some (some (.agg #[.int .i64 0, .int .i64 0, .string ⟨#[]⟩]), 3, 32) := by kernel_rfl
theorem val_parts : ∃ i, Tryz.prog.info? 31 = some i ∧ i.zero = some (.agg #[.int .i64 0, .int .i64 0, .string ⟨#[]⟩]) ∧ i.size = 3 ∧ i.bytes = 32 := by
 have h := valinfo
 cases hi : Tryz.prog.info? 31 with
 | none => rw [hi] at h; cases h
 | some i =>
  rw [hi] at h
  simp only [Option.map_some, Option.some.injEq, Prod.mk.injEq] at h
  exact ⟨i, rfl, h.1, h.2.1, h.2.2⟩

theorem Vs.of_own {w : World} {base n c : Nat} {A : Option Addr} {l : List Vl} (h : w.ownsRow base 31 3 (.slice A n c) n (cells3 l)) (hok : ∀ v ∈ l, v.ok) : Vs w w.heap.size A n c l := by
 have hl : l.length = n := by have := h.1; rw [cells3_len] at this; omega
 rcases h.2 with ⟨hv, hn⟩ | ⟨g, cap, cur, hv, hb, hg, hnc, hcm, hcs, ht⟩
 ·injection hv with h1 h2 h3
  subst h1 h2 h3
  exact ⟨hl, Nat.le_refl _, by simp [maxLen], .inl rfl, hok⟩
 ·injection hv with h1 h2 h3
  subst h1 h3
  refine ⟨hl, hnc, hcm, .inr ⟨g, 0, rfl, ?_, fun j v hv => ?_⟩, hok⟩
  ·rcases Nat.lt_or_ge g w.heap.size with hlt | hge
   ·exact hlt
   ·rw [Array.getElem?_eq_none hge] at hg; cases hg
  ·have add : ∀ j : Nat, (⟨g, 0, none⟩ : Addr).add j = ⟨g, 0 + j, none⟩ := fun j => by by_cases hj : j = 0 <;> simp [Addr.add, hj]
   obtain ⟨a, b, c⟩ := cells3_at hv
   have h1 := h.cells (g := g) rfl (j * 3) _ a
   have h2 := h.cells (g := g) rfl (j * 3 + 1) _ b
   have h3 := h.cells (g := g) rfl (j * 3 + 2) _ c
   rw [add] at h1 h2 h3
   exact ⟨h1, h2, h3⟩

theorem append_vals {w : World} {base B n c m c2 ty : Nat} {A A2 : Option Addr} {xs ys : List Vl} (h : w.ownsRow base 31 3 (.slice A n c) n (cells3 xs)) (hy : Vs w B A2 m c2 ys) (hn : n + m ≤ 1000000) (hbase : base ≤ w.heap.size) :
  ∃ A' c' w', (Builtin.append_ #[32, 32] ty #[.slice A n c, .slice A2 m c2]).run Tryz.prog w = .ok (.slice A' (n + m) c') w' ∧
   w'.ownsRow base 31 3 (.slice A' (n + m) c') (n + m) (cells3 (xs ++ ys)) ∧ Below base w w' ∧ w.grownBy w' (Value.slice A n c).ownBlock := by
 obtain ⟨i, hi, hz, hs, hb⟩ := val_parts
 have hlen := hy.1
 have fin : ∀ (ad : Addr), A2 = some ad → (∀ j u, (cells3 ys)[j]? = some u → w.cell? (ad.add j) = some u) → ∃ A' c' w', (Builtin.append_ #[32, 32] ty #[.slice A n c, .slice A2 m c2]).run Tryz.prog w = .ok (.slice A' (n + m) c') w' ∧
   w'.ownsRow base 31 3 (.slice A' (n + m) c') (n + m) (cells3 (xs ++ ys)) ∧ Below base w w' ∧ w.grownBy w' (Value.slice A n c).ownBlock := by
  rintro ad rfl hc
  obtain ⟨v', w', hrun, h2, h3, h4⟩ := run_append_own (P := Tryz.prog) w base 32 ty 31 i _ 3 32 Tryz.underlying32 hi hz hs hb rfl (by omega) (.slice A n c) n (cells3 xs) h
   ad m c2 (cells3 ys) (by rw [cells3_len, hlen]) hc cells3_one (by unfold maxLen; omega) (by omega) hbase
  have hform : ∃ A' c', v' = .slice A' (n + m) c' := by
   rcases h2.2 with ⟨hv, hz⟩ | ⟨g, cap, cur, hv, _⟩
   ·exact ⟨_, _, by rw [hv, hz]⟩
   ·exact ⟨_, _, hv⟩
  obtain ⟨A', c', rfl⟩ := hform
  exact ⟨A', c', w', hrun, by rw [cells3_app]; exact h2, (Below.refl base w).grown h3 hbase (fun k hk => (h.lt k hk).1), h3⟩
 rcases hy.2.2.2.1 with h0 | ⟨b, o, e, hb', hc⟩
 ·subst h0
  obtain rfl : ys = [] := List.eq_nil_of_length_eq_zero hlen
  rcases A2 with _ | ad
  ·exact ⟨A, c, w, append_nil_src Tryz.underlying32 hi h, by simpa using h, Below.refl _ _, ⟨rfl, rfl, rfl, Nat.le_refl _, fun _ _ _ => rfl⟩⟩
  ·exact fin ad rfl (fun j u hu => by simp [cells3] at hu)
 ·refine fin _ e fun j u hu => ?_
  have add : ∀ j : Nat, (⟨b, o, none⟩ : Addr).add j = ⟨b, o + j, none⟩ := fun j => by by_cases hj : j = 0 <;> simp [Addr.add, hj]
  rw [add]
  obtain ⟨i', v, hv, hcase⟩ := cells3_of hu
  obtain ⟨c0, c1, c2⟩ := hc i' v hv
  rcases hcase with ⟨rfl, rfl⟩ | ⟨rfl, rfl⟩ | ⟨rfl, rfl⟩
  ·exact c0
  ·exact c1
  ·exact c2

theorem Vs.keep1 {w w' : World} {B n c b o : Nat} {l : List Vl} (h : Vs w B (some ⟨b, o, none⟩) n c l) (hk : w'.heap[b]? = w.heap[b]?) : Vs w' B (some ⟨b, o, none⟩) n c l := by
 obtain ⟨h1, h2, h3, h4, h5⟩ := h
 refine ⟨h1, h2, h3, ?_, h5⟩
 rcases h4 with h4 | ⟨b', o', e, hb, hc⟩
 ·exact .inl h4
 ·injection e with e
  injection e with e1 e2
  subst e1 e2
  refine .inr ⟨b, o, rfl, hb, fun j v hv => ?_⟩
  obtain ⟨a1, a2, a3⟩ := hc j v hv
  exact ⟨(World.cell?_of_block hk).trans a1, (World.cell?_of_block hk).trans a2, (World.cell?_of_block hk).trans a3⟩

theorem own_then {w w' : World} {base size n : Nat} {e : TypeId} {v : Value} {xs : List Value} (h : w.ownsRow base e size v n xs) (hb : Below w.heap.size w w') : w'.ownsRow base e size v n xs :=
 h.kept (row := none) ⟨hb.os, hb.tape, hb.output, hb.size, fun k hk _ => hb.block k hk⟩ (by by_cases hv : v.ownBlock = none; exact .inl hv; exact .inr hv)
end Go.Proofs.YtmoglaknmlhpgaaGreatDoor
