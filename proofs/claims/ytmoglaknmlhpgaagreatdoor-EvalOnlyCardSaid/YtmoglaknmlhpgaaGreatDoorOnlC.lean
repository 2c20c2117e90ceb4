/- Several texts in one: FunSpec, PolMem, PolLeaf, PolCut, PolEq, PolHolds. -/
import Derived.Test.YtmoglaknmlhpgaaGreatDoorOnlB
import Derived.Test.YtmoglaknmlhpgaaGreatDoorOnlA
/- Functions of values, plainly. -/
namespace Go.Proofs.YtmoglaknmlhpgaaGreatDoor
set_option linter.unusedVariables false
open Go.RowKit

def truthN (b : Bool) : Int := if b then 1 else 0
def truthV (b : Bool) : Vl := ⟨1, truthN b, ⟨#[]⟩⟩
def numV (n : Int) : Vl := ⟨2, n, ⟨#[]⟩⟩
def noneV : Vl := ⟨0, 0, ⟨#[]⟩⟩
def sameV (a b : Vl) : Vl × Int := if a.k = b.k then (truthV (veq a b), 0) else (noneV, 2)
def lessV (a b : Vl) : Vl × Int := if (lessOf a b).2 = 0 then (truthV (lessOf a b).1, 0) else (noneV, (lessOf a b).2)
def opF (op a b : Int) : Int := if op = 8 then a + b else if op = 9 then a - b else a * b
def numF (p : Int × Int) : Vl × Int := if p.2 = 0 then (numV p.1, 0) else (noneV, p.2)
def reckV (op : Int) (a b : Vl) : Vl × Int := if a.k = 2 ∧ b.k = 2 then numF (fits (opF op a.n b.n)) else (noneV, 2)
def notV (a : Vl) : Vl × Int := if a.k = 1 then (truthV (decide (a.n = 0)), 0) else (noneV, 2)
def bothV (op : Int) (a b : Vl) : Vl × Int := if a.k = 1 ∧ b.k = 1 then (truthV (if op = 12 then decide (a.n = 1) && decide (b.n = 1) else decide (a.n = 1) || decide (b.n = 1)), 0) else (noneV, 2)
def allR (l : List Vl) : Bool := l.all fun v => decide v.right
def needs (op : Int) : Nat := if op = 11 then 1 else 2
def callTwo (op : Int) (a b : Vl) : Vl × Int := if op = 6 then sameV a b else if op = 7 then lessV a b else if op = 12 ∨ op = 13 then bothV op a b else reckV op a b
def callOf (op : Int) : List Vl → Vl × Int
 | [a] => notV a
 | [a, b] => callTwo op a b
 | _ => (noneV, 1)
def callV (op : Int) (l : List Vl) : Vl × Int := if allR l = true ∧ (6 ≤ op ∧ op ≤ 13) ∧ l.length = needs op then callOf op l else (noneV, 1)

theorem allR_iff {l : List Vl} : allR l = true ↔ ∀ v ∈ l, v.right := by simp [allR]
theorem call_bad {op : Int} {l : List Vl} (h : allR l = false) : callV op l = (noneV, 1) := if_neg fun hh => by rw [h] at hh; cases hh.1
theorem call_op {op : Int} {l : List Vl} (h : ¬ (6 ≤ op ∧ op ≤ 13)) : callV op l = (noneV, 1) := if_neg fun hh => h hh.2.1
theorem call_len {op : Int} {l : List Vl} (h : l.length ≠ needs op) : callV op l = (noneV, 1) := if_neg fun hh => h hh.2.2
theorem call_ok {op : Int} {l : List Vl} (h1 : allR l = true) (h2 : 6 ≤ op ∧ op ≤ 13) (h3 : l.length = needs op) : callV op l = callOf op l := if_pos ⟨h1, h2, h3⟩
theorem truth_n {v : Vl} (h : v.right) (hk : v.k = 1) : v.n = 0 ∨ v.n = 1 := by
 have := rv1 (n := v.n) (l := v.l)
 unfold Vl.right at h
 rw [hk] at h
 exact (this.1 h).2

def sumL : List Vl → Int
 | [] => 0
 | v :: r => v.n + sumL r
theorem sumL_app (l m : List Vl) : sumL (l ++ m) = sumL l + sumL m := by
 induction l with
 | nil => simp [sumL]
 | cons v r ih => simp [sumL, ih]; omega
def kindsB (l : List Vl) : Bool := l.all fun v => decide (v.k = 1)
def judgeL (op : Int) (l : List Vl) : Vl × Int :=
 if kindsB l = true then (truthV (if op = 11 then decide (sumL l = 0) else if op = 12 then decide (sumL l = (l.length : Int)) else decide (0 < sumL l)), 0) else (noneV, 2)
theorem judge_one {a : Vl} (ha : a.right) : judgeL 11 [a] = notV a := by
 unfold judgeL notV
 simp [kindsB, sumL]
theorem judge_two {op : Int} {a b : Vl} (h : op = 12 ∨ op = 13) (ha : a.right) (hb : b.right) : judgeL op [a, b] = bothV op a b := by
 unfold judgeL bothV
 by_cases h1 : a.k = 1
 ·by_cases h2 : b.k = 1
  ·have na := truth_n ha h1
   have nb := truth_n hb h2
   have hk : kindsB [a, b] = true := by simp [kindsB, h1, h2]
   rw [if_pos hk, if_pos (show a.k = 1 ∧ b.k = 1 from ⟨h1, h2⟩)]
   rcases h with rfl | rfl <;> rcases na with e | e <;> rcases nb with f | f <;> simp [sumL, e, f]
  ·simp [kindsB, h2]
 ·simp [kindsB, h1]
def RightTo (l : List Vl) (k : Nat) : Prop := ∀ j x, l[j]? = some x → j < k → x.right
theorem RightTo.step {l : List Vl} {x : Vl} {k : Nat} (h : RightTo l k) (hx : l[k]? = some x) (hr : x.right) : RightTo l (k + 1) := fun j y hy hj => by
 by_cases e : j = k
 ·subst e
  obtain rfl := Option.some.inj (hx.symm.trans hy)
  exact hr
 ·exact h j y hy (by omega)
theorem RightTo.all {l : List Vl} {n : Nat} (h : RightTo l n) (hn : l.length = n) : allR l = true := allR_iff.2 fun x hx => by
 obtain ⟨j, hj, e⟩ := List.getElem_of_mem hx
 exact h j x (by rw [List.getElem?_eq_getElem hj, e]) (by omega)
theorem allR_bad {l : List Vl} {x : Vl} {k : Nat} (hx : l[k]? = some x) (h : ¬ x.right) : allR l = false := by
 rw [← Bool.not_eq_true, allR_iff]
 exact fun hh => h (hh x (List.mem_of_getElem? hx))
def KindTo (l : List Vl) (k : Nat) (m : Int) : Prop := kindsB (l.take k) = true ∧ sumL (l.take k) = m ∧ 0 ≤ m ∧ m ≤ (k : Int)
theorem take_more {l : List Vl} {x : Vl} {k : Nat} (hx : l[k]? = some x) : l.take (k + 1) = l.take k ++ [x] := by
 obtain ⟨hk, e⟩ := List.getElem?_eq_some_iff.1 hx
 rw [List.take_succ_eq_append_getElem hk, e]
theorem KindTo.step {l : List Vl} {x : Vl} {k : Nat} {m : Int} (h : KindTo l k m) (hx : l[k]? = some x) (hr : x.right) (hk : x.k = 1) : KindTo l (k + 1) (m + x.n) := by
 obtain ⟨h1, h2, h3, h4⟩ := h
 have hn := truth_n hr hk
 refine ⟨?_, ?_, by omega, by omega⟩
 ·rw [take_more hx]
  unfold kindsB at h1 ⊢
  rw [List.all_append, h1]
  simp [hk]
 ·rw [take_more hx, sumL_app, h2]
  simp [sumL]
theorem kinds_bad {l : List Vl} {x : Vl} {k : Nat} (hx : l[k]? = some x) (h : ¬ x.k = 1) : kindsB l = false := by
 unfold kindsB
 rw [List.all_eq_false]
 exact ⟨x, List.mem_of_getElem? hx, by simpa using h⟩
theorem judge_bad {op : Int} {l : List Vl} (h : kindsB l = false) : judgeL op l = (noneV, 2) := if_neg (by rw [h]; simp)
theorem judge_ok {op m : Int} {l : List Vl} {n : Nat} (h : KindTo l n m) (hn : l.length = n) : judgeL op l = (truthV (if op = 11 then decide (m = 0) else if op = 12 then decide (m = (n : Int)) else decide (0 < m)), 0) := by
 obtain ⟨h1, h2, _, _⟩ := h
 rw [List.take_of_length_le (by omega)] at h1 h2
 unfold judgeL
 rw [if_pos h1, h2, hn]
end Go.Proofs.YtmoglaknmlhpgaaGreatDoor
/- Policies in memory: rows of structs, of lists, of policies. -/
namespace Go.Proofs.YtmoglaknmlhpgaaGreatDoor
set_option linter.unusedVariables false
open Go.RowKit

def Rw {α : Type} (k : Nat) (P : List Value → α → Prop) (w : World) (R : Nat → Prop) (A : Option Addr) (n c : Nat) (l : List α) : Prop :=
 l.length = n ∧ n ≤ c ∧ (c ≤ maxLen ∧ n ≤ 140737488351232) ∧ (n = 0 ∨ ∃ b o, A = some ⟨b, o, none⟩ ∧ R b ∧ b < w.heap.size ∧ ∀ j x, l[j]? = some x → ∃ vs : List Value, vs.length = k ∧ (∀ i v, vs[i]? = some v → w.cell? ⟨b, o + j * k + i, none⟩ = some v) ∧ P vs x)

def Kept (R : Nat → Prop) (w w' : World) : Prop := w.heap.size ≤ w'.heap.size ∧ ∀ b, R b → b < w.heap.size → w'.heap[b]? = w.heap[b]?
theorem Kept.refl (R : Nat → Prop) (w : World) : Kept R w w := ⟨Nat.le_refl _, fun _ _ _ => rfl⟩
theorem Kept.below {w w' : World} {B : Nat} (h : Below B w w') {R : Nat → Prop} (hR : ∀ b, R b → b < w.heap.size → b < B) : Kept R w w' := ⟨h.size, fun b hb hlt => h.block b (hR b hb hlt)⟩
theorem Kept.all {w w' : World} (h : Below w.heap.size w w') (R : Nat → Prop) : Kept R w w' := Kept.below h fun _ _ h => h
theorem Kept.trans {R : Nat → Prop} {a b c : World} (h1 : Kept R a b) (h2 : Kept R b c) : Kept R a c :=
 ⟨Nat.le_trans h1.1 h2.1, fun k hk hl => (h2.2 k hk (Nat.lt_of_lt_of_le hl h1.1)).trans (h1.2 k hk hl)⟩

section
variable {α : Type} {k : Nat} {P P' : List Value → α → Prop} {w w' : World} {R R' : Nat → Prop} {A : Option Addr} {n c : Nat} {l : List α}
theorem Rw.len (h : Rw k P w R A n c l) : l.length = n := h.1
theorem Rw.le (h : Rw k P w R A n c l) : n ≤ c := h.2.1
theorem Rw.cap (h : Rw k P w R A n c l) : c ≤ maxLen := h.2.2.1.1
theorem Rw.big (h : Rw k P w R A n c l) : n ≤ 140737488351232 := h.2.2.1.2
theorem Rw.nil_ (k : Nat) (P : List Value → α → Prop) (w : World) (R : Nat → Prop) : Rw k P w R none 0 0 [] := ⟨rfl, Nat.le_refl _, ⟨by simp [maxLen], by omega⟩, .inl rfl⟩
theorem Rw.keep (h : Rw k P w R A n c l) (hk : Kept R w w') (hR : ∀ b, R b → b < w.heap.size → R' b) (hP : ∀ vs x, x ∈ l → P vs x → P' vs x) : Rw k P' w' R' A n c l := by
 obtain ⟨h1, h2, h3, h4⟩ := h
 refine ⟨h1, h2, h3, ?_⟩
 rcases h4 with h4 | ⟨b, o, e, hb, hlt, hc⟩
 ·exact .inl h4
 ·refine .inr ⟨b, o, e, hR b hb hlt, Nat.lt_of_lt_of_le hlt hk.1, fun j x hx => ?_⟩
  obtain ⟨vs, hl, hv, hp⟩ := hc j x hx
  exact ⟨vs, hl, fun i v hi => (World.cell?_of_block (hk.2 b hb hlt)).trans (hv i v hi), hP vs x (List.mem_of_getElem? hx) hp⟩
theorem Rw.at_ (h : Rw k P w R A n c l) {j : Nat} (hj : j < n) : ∃ b o x vs, A = some ⟨b, o, none⟩ ∧ R b ∧ b < w.heap.size ∧ l[j]? = some x ∧ vs.length = k ∧ (∀ i v, vs[i]? = some v → w.cell? ⟨b, o + j * k + i, none⟩ = some v) ∧ P vs x := by
 obtain ⟨h1, h2, h3, h4⟩ := h
 rcases h4 with h4 | ⟨b, o, e, hb, hlt, hc⟩
 ·omega
 ·have hl : j < l.length := by omega
  obtain ⟨vs, a1, a2, a3⟩ := hc j l[j] (List.getElem?_eq_getElem hl)
  exact ⟨b, o, l[j], vs, e, hb, hlt, List.getElem?_eq_getElem hl, a1, a2, a3⟩
theorem Rw.take (h : Rw k P w R A n c l) {m : Nat} (hm : m ≤ n) : Rw k P w R A m c (l.take m) := by
 obtain ⟨h1, h2, h3, h4⟩ := h
 refine ⟨by rw [List.length_take]; omega, by omega, ⟨h3.1, by have := h3.2; omega⟩, ?_⟩
 rcases h4 with h4 | ⟨b, o, e, hb, hlt, hc⟩
 ·left; omega
 ·refine .inr ⟨b, o, e, hb, hlt, fun j x hx => hc j x ?_⟩
  rw [List.getElem?_take] at hx
  split at hx
  ·exact hx
  ·cases hx
end

def Atr.cells (a : Atr) : List Value := [.int .i64 a.cat, .string a.name, .bool a.must]
def Atr.val (a : Atr) : Value := .agg #[.int .i64 a.cat, .string a.name, .bool a.must]
def Mat.cells (m : Mat) : List Value := [.int .i64 m.a.cat, .string m.a.name, .bool m.a.must, .int .i64 m.op, .int .i64 m.v.k, .int .i64 m.v.n, .string m.v.s]
def Mat.val (m : Mat) : Value := .agg #[.int .i64 m.a.cat, .string m.a.name, .bool m.a.must, .int .i64 m.op, .int .i64 m.v.k, .int .i64 m.v.n, .string m.v.s]
def Nod.cells (m : Nod) : List Value := [.int .i64 m.op, .int .i64 m.v.k, .int .i64 m.v.n, .string m.v.s, .int .i64 m.a.cat, .string m.a.name, .bool m.a.must]
def Nod.val (m : Nod) : Value := .agg #[.int .i64 m.op, .int .i64 m.v.k, .int .i64 m.v.n, .string m.v.s, .int .i64 m.a.cat, .string m.a.name, .bool m.a.must]
def Dut.cells (m : Dut) : List Value := [.int .i64 m.on, .int .i64 m.kind, .string m.arg]
def Dut.val (m : Dut) : Value := .agg #[.int .i64 m.on, .int .i64 m.kind, .string m.arg]

def Ms (w : World) (R : Nat → Prop) := Rw 7 (fun vs (m : Mat) => vs = m.cells ∧ m.ok) w R
def Als (w : World) (R : Nat → Prop) := Rw 1 (fun vs (l : List Mat) => ∃ A n c, vs = [.slice A n c] ∧ Ms w R A n c l) w R
def Tg (w : World) (R : Nat → Prop) := Rw 1 (fun vs (l : List (List Mat)) => ∃ A n c, vs = [.slice A n c] ∧ Als w R A n c l) w R
def Nds (w : World) (R : Nat → Prop) := Rw 7 (fun vs (m : Nod) => vs = m.cells ∧ m.ok) w R
def Dus (w : World) (R : Nat → Prop) := Rw 3 (fun vs (m : Dut) => vs = m.cells ∧ m.ok) w R
def RulAt (w : World) (R : Nat → Prop) (vs : List Value) (r : Rul) : Prop :=
 ∃ A1 n1 c1 A2 n2 c2 A3 n3 c3, vs = [.string r.id, .bool r.deny, .slice A1 n1 c1, .slice A2 n2 c2, .slice A3 n3 c3] ∧ r.id.size ≤ maxLen ∧ Tg w R A1 n1 c1 r.tg ∧ Nds w R A2 n2 c2 r.cond ∧ Dus w R A3 n3 c3 r.ob
def Rus (w : World) (R : Nat → Prop) := Rw 5 (RulAt w R) w R
def PolAt (w : World) (R : Nat → Prop) : Nat → List Value → Pol → Prop
 | 0, _, _ => False
 | d + 1, vs, p => ∃ A1 n1 c1 A2 n2 c2 A3 n3 c3 A4 n4 c4, vs = [.string p.id, .bool p.set, .int .i64 p.alg, .slice A1 n1 c1, .slice A2 n2 c2, .slice A3 n3 c3, .slice A4 n4 c4] ∧ p.id.size ≤ maxLen ∧ InI p.alg ∧
   Tg w R A1 n1 c1 p.tg ∧ Rus w R A2 n2 c2 p.rules ∧ Rw 7 (PolAt w R d) w R A3 n3 c3 p.kids ∧ Dus w R A4 n4 c4 p.ob
def Pls (w : World) (R : Nat → Prop) (d : Nat) := Rw 7 (PolAt w R d) w R

section
variable {w w' : World} {R R' : Nat → Prop} {A : Option Addr} {n c : Nat}
theorem Ms.keep {l : List Mat} (h : Ms w R A n c l) (hk : Kept R w w') (hR : ∀ b, R b → b < w.heap.size → R' b) : Ms w' R' A n c l := Rw.keep h hk hR fun _ _ _ h => h
theorem Nds.keep {l : List Nod} (h : Nds w R A n c l) (hk : Kept R w w') (hR : ∀ b, R b → b < w.heap.size → R' b) : Nds w' R' A n c l := Rw.keep h hk hR fun _ _ _ h => h
theorem Dus.keep {l : List Dut} (h : Dus w R A n c l) (hk : Kept R w w') (hR : ∀ b, R b → b < w.heap.size → R' b) : Dus w' R' A n c l := Rw.keep h hk hR fun _ _ _ h => h
theorem Als.keep {l : List (List Mat)} (h : Als w R A n c l) (hk : Kept R w w') (hR : ∀ b, R b → b < w.heap.size → R' b) : Als w' R' A n c l :=
 Rw.keep h hk hR fun _ _ _ ⟨a, b, c, e, h⟩ => ⟨a, b, c, e, h.keep hk hR⟩
theorem Tg.keep {l : Tgt} (h : Tg w R A n c l) (hk : Kept R w w') (hR : ∀ b, R b → b < w.heap.size → R' b) : Tg w' R' A n c l :=
 Rw.keep h hk hR fun _ _ _ ⟨a, b, c, e, h⟩ => ⟨a, b, c, e, h.keep hk hR⟩
theorem RulAt.keep {vs : List Value} {r : Rul} (h : RulAt w R vs r) (hk : Kept R w w') (hR : ∀ b, R b → b < w.heap.size → R' b) : RulAt w' R' vs r := by
 obtain ⟨A1, n1, c1, A2, n2, c2, A3, n3, c3, e, h0, h1, h2, h3⟩ := h
 exact ⟨A1, n1, c1, A2, n2, c2, A3, n3, c3, e, h0, h1.keep hk hR, h2.keep hk hR, h3.keep hk hR⟩
theorem Rus.keep {l : List Rul} (h : Rus w R A n c l) (hk : Kept R w w') (hR : ∀ b, R b → b < w.heap.size → R' b) : Rus w' R' A n c l := Rw.keep h hk hR fun _ _ _ h => h.keep hk hR
theorem PolAt.keep (hk : Kept R w w') (hR : ∀ b, R b → b < w.heap.size → R' b) : ∀ {d : Nat} {vs : List Value} {p : Pol}, PolAt w R d vs p → PolAt w' R' d vs p
 | 0, _, _, h => h
 | d + 1, _, _, ⟨A1, n1, c1, A2, n2, c2, A3, n3, c3, A4, n4, c4, e, h0, h00, h1, h2, h3, h4⟩ =>
  ⟨A1, n1, c1, A2, n2, c2, A3, n3, c3, A4, n4, c4, e, h0, h00, h1.keep hk hR, h2.keep hk hR, Rw.keep h3 hk hR fun _ _ _ h => PolAt.keep hk hR h, h4.keep hk hR⟩
theorem Pls.keep {d : Nat} {l : List Pol} (h : Pls w R d A n c l) (hk : Kept R w w') (hR : ∀ b, R b → b < w.heap.size → R' b) : Pls w' R' d A n c l := Rw.keep h hk hR fun _ _ _ h => PolAt.keep hk hR h
theorem PolAt.more : ∀ {d d' : Nat} {vs : List Value} {p : Pol}, d ≤ d' → PolAt w R d vs p → PolAt w R d' vs p
 | 0, _, _, _, _, h => h.elim
 | d + 1, 0, _, _, hd, _ => by omega
 | d + 1, d' + 1, _, _, hd, ⟨A1, n1, c1, A2, n2, c2, A3, n3, c3, A4, n4, c4, e, h0, h00, h1, h2, h3, h4⟩ =>
  ⟨A1, n1, c1, A2, n2, c2, A3, n3, c3, A4, n4, c4, e, h0, h00, h1, h2, Rw.keep h3 (Kept.refl _ _) (fun _ h _ => h) fun _ _ _ h => PolAt.more (by omega) h, h4⟩

theorem Ms.at_ {l : List Mat} (h : Ms w R A n c l) {j : Nat} (hj : j < n) : ∃ b o m, A = some ⟨b, o, none⟩ ∧ R b ∧ b < w.heap.size ∧ l[j]? = some m ∧ m.ok ∧
  (w.cell? ⟨b, o + j * 7, none⟩ = some (.int .i64 m.a.cat) ∧ w.cell? ⟨b, o + j * 7 + 1, none⟩ = some (.string m.a.name) ∧ w.cell? ⟨b, o + j * 7 + 2, none⟩ = some (.bool m.a.must) ∧ w.cell? ⟨b, o + j * 7 + 3, none⟩ = some (.int .i64 m.op) ∧
   w.cell? ⟨b, o + j * 7 + 4, none⟩ = some (.int .i64 m.v.k) ∧ w.cell? ⟨b, o + j * 7 + 5, none⟩ = some (.int .i64 m.v.n) ∧ w.cell? ⟨b, o + j * 7 + 6, none⟩ = some (.string m.v.s)) := by
 obtain ⟨b, o, m, vs, e, hb, hlt, hm, hl, hv, rfl, hok⟩ := Rw.at_ h hj
 exact ⟨b, o, m, e, hb, hlt, hm, hok, hv 0 _ rfl, hv 1 _ rfl, hv 2 _ rfl, hv 3 _ rfl, hv 4 _ rfl, hv 5 _ rfl, hv 6 _ rfl⟩
theorem Nds.at_ {l : List Nod} (h : Nds w R A n c l) {j : Nat} (hj : j < n) : ∃ b o m, A = some ⟨b, o, none⟩ ∧ R b ∧ b < w.heap.size ∧ l[j]? = some m ∧ m.ok ∧
  (w.cell? ⟨b, o + j * 7, none⟩ = some (.int .i64 m.op) ∧ w.cell? ⟨b, o + j * 7 + 1, none⟩ = some (.int .i64 m.v.k) ∧ w.cell? ⟨b, o + j * 7 + 2, none⟩ = some (.int .i64 m.v.n) ∧ w.cell? ⟨b, o + j * 7 + 3, none⟩ = some (.string m.v.s) ∧
   w.cell? ⟨b, o + j * 7 + 4, none⟩ = some (.int .i64 m.a.cat) ∧ w.cell? ⟨b, o + j * 7 + 5, none⟩ = some (.string m.a.name) ∧ w.cell? ⟨b, o + j * 7 + 6, none⟩ = some (.bool m.a.must)) := by
 obtain ⟨b, o, m, vs, e, hb, hlt, hm, hl, hv, rfl, hok⟩ := Rw.at_ h hj
 exact ⟨b, o, m, e, hb, hlt, hm, hok, hv 0 _ rfl, hv 1 _ rfl, hv 2 _ rfl, hv 3 _ rfl, hv 4 _ rfl, hv 5 _ rfl, hv 6 _ rfl⟩
theorem Dus.at_ {l : List Dut} (h : Dus w R A n c l) {j : Nat} (hj : j < n) : ∃ b o m, A = some ⟨b, o, none⟩ ∧ R b ∧ b < w.heap.size ∧ l[j]? = some m ∧ m.ok ∧
  (w.cell? ⟨b, o + j * 3, none⟩ = some (.int .i64 m.on) ∧ w.cell? ⟨b, o + j * 3 + 1, none⟩ = some (.int .i64 m.kind) ∧ w.cell? ⟨b, o + j * 3 + 2, none⟩ = some (.string m.arg)) := by
 obtain ⟨b, o, m, vs, e, hb, hlt, hm, hl, hv, rfl, hok⟩ := Rw.at_ h hj
 exact ⟨b, o, m, e, hb, hlt, hm, hok, hv 0 _ rfl, hv 1 _ rfl, hv 2 _ rfl⟩
theorem Als.at_ {l : List (List Mat)} (h : Als w R A n c l) {j : Nat} (hj : j < n) : ∃ b o x A' n' c', A = some ⟨b, o, none⟩ ∧ R b ∧ b < w.heap.size ∧ l[j]? = some x ∧ w.cell? ⟨b, o + j, none⟩ = some (.slice A' n' c') ∧ Ms w R A' n' c' x := by
 obtain ⟨b, o, x, vs, e, hb, hlt, hm, hl, hv, A', n', c', rfl, h'⟩ := Rw.at_ h hj
 have := hv 0 _ rfl
 rw [Nat.mul_one] at this
 exact ⟨b, o, x, A', n', c', e, hb, hlt, hm, this, h'⟩
theorem Tg.at_ {l : Tgt} (h : Tg w R A n c l) {j : Nat} (hj : j < n) : ∃ b o x A' n' c', A = some ⟨b, o, none⟩ ∧ R b ∧ b < w.heap.size ∧ l[j]? = some x ∧ w.cell? ⟨b, o + j, none⟩ = some (.slice A' n' c') ∧ Als w R A' n' c' x := by
 obtain ⟨b, o, x, vs, e, hb, hlt, hm, hl, hv, A', n', c', rfl, h'⟩ := Rw.at_ h hj
 have := hv 0 _ rfl
 rw [Nat.mul_one] at this
 exact ⟨b, o, x, A', n', c', e, hb, hlt, hm, this, h'⟩
theorem Rus.at_ {l : List Rul} (h : Rus w R A n c l) {j : Nat} (hj : j < n) : ∃ b o r A1 n1 c1 A2 n2 c2 A3 n3 c3, A = some ⟨b, o, none⟩ ∧ R b ∧ b < w.heap.size ∧ l[j]? = some r ∧ r.id.size ≤ maxLen ∧
  (w.cell? ⟨b, o + j * 5, none⟩ = some (.string r.id) ∧ w.cell? ⟨b, o + j * 5 + 1, none⟩ = some (.bool r.deny) ∧ w.cell? ⟨b, o + j * 5 + 2, none⟩ = some (.slice A1 n1 c1) ∧ w.cell? ⟨b, o + j * 5 + 3, none⟩ = some (.slice A2 n2 c2) ∧ w.cell? ⟨b, o + j * 5 + 4, none⟩ = some (.slice A3 n3 c3)) ∧
  Tg w R A1 n1 c1 r.tg ∧ Nds w R A2 n2 c2 r.cond ∧ Dus w R A3 n3 c3 r.ob := by
 obtain ⟨b, o, r, vs, e, hb, hlt, hm, hl, hv, A1, n1, c1, A2, n2, c2, A3, n3, c3, rfl, h0, h1, h2, h3⟩ := Rw.at_ h hj
 exact ⟨b, o, r, A1, n1, c1, A2, n2, c2, A3, n3, c3, e, hb, hlt, hm, h0, ⟨hv 0 _ rfl, hv 1 _ rfl, hv 2 _ rfl, hv 3 _ rfl, hv 4 _ rfl⟩, h1, h2, h3⟩
theorem Pls.at_ {d : Nat} {l : List Pol} (h : Pls w R d A n c l) {j : Nat} (hj : j < n) : ∃ b o p d' A1 n1 c1 A2 n2 c2 A3 n3 c3 A4 n4 c4, A = some ⟨b, o, none⟩ ∧ R b ∧ b < w.heap.size ∧ l[j]? = some p ∧ d = d' + 1 ∧ (p.id.size ≤ maxLen ∧ InI p.alg) ∧
  (w.cell? ⟨b, o + j * 7, none⟩ = some (.string p.id) ∧ w.cell? ⟨b, o + j * 7 + 1, none⟩ = some (.bool p.set) ∧ w.cell? ⟨b, o + j * 7 + 2, none⟩ = some (.int .i64 p.alg) ∧ w.cell? ⟨b, o + j * 7 + 3, none⟩ = some (.slice A1 n1 c1) ∧
   w.cell? ⟨b, o + j * 7 + 4, none⟩ = some (.slice A2 n2 c2) ∧ w.cell? ⟨b, o + j * 7 + 5, none⟩ = some (.slice A3 n3 c3) ∧ w.cell? ⟨b, o + j * 7 + 6, none⟩ = some (.slice A4 n4 c4)) ∧
  Tg w R A1 n1 c1 p.tg ∧ Rus w R A2 n2 c2 p.rules ∧ Pls w R d' A3 n3 c3 p.kids ∧ Dus w R A4 n4 c4 p.ob := by
 obtain ⟨b, o, p, vs, e, hb, hlt, hm, hl, hv, hp⟩ := Rw.at_ h hj
 match d, hp with
 | d' + 1, ⟨A1, n1, c1, A2, n2, c2, A3, n3, c3, A4, n4, c4, hvs, h0, h00, h1, h2, h3, h4⟩ =>
  subst hvs
  exact ⟨b, o, p, d', A1, n1, c1, A2, n2, c2, A3, n3, c3, A4, n4, c4, e, hb, hlt, hm, rfl, ⟨h0, h00⟩, ⟨hv 0 _ rfl, hv 1 _ rfl, hv 2 _ rfl, hv 3 _ rfl, hv 4 _ rfl, hv 5 _ rfl, hv 6 _ rfl⟩, h1, h2, h3, h4⟩
end
end Go.Proofs.YtmoglaknmlhpgaaGreatDoor
/- What a policy's smallest parts must be: attributes, matches, duties, counts (the project's). -/
namespace Go.Proofs.YtmoglaknmlhpgaaGreatDoor
set_option linter.unusedVariables false
open Go.RowKit

set_option maxHeartbeats 800000 in
theorem attr_any (a : Atr) (hok : a.ok) (w : World) :
  Calls Tryz.prog 28 #[.agg #[.int .i64 a.cat, .string a.name, .bool a.must]] w fun e w' => e = .returned (.bool (attrB a)) ∧ Below w.heap.size w w' := by
 obtain ⟨k, s, m⟩ := a
 obtain ⟨hk, hs⟩ := hok
 simp only at hk hs ⊢
 have hname := name_any s hs
 have HN := Lib.hid hname
 have HE : Hid (attrB ⟨k, s, m⟩ = (decide (1 ≤ k) && decide (k ≤ 4) && decide (Named s.data.toList))) := rfl
 clear hname hk
 unfold maxLen at hs
 generalize attrB ⟨k, s, m⟩ = r at *
 go_enter Tryz.func28, Tryz.ntmps28
 go_wp2_with (go_at_call 49; refine (HN.out _).mono ?_; rintro e w1 ⟨rfl, rfl⟩)
 all_goals
  go_ret
  refine ⟨ret_bool ?_, (Below.refl _ _).alloc (Nat.le_refl _) _⟩
  rw [HE.out]
  simp [*] <;> (intros; omega)

theorem parts_any (n : Nat) (w : World) :
  Calls Tryz.prog 110 #[.int .i64 n] w fun e w' => e = .returned (.int .i64 (partsE n)) ∧ w' = w := by
 by_cases h0 : n = 0
 ·subst h0
  go_enter Tryz.func110, Tryz.ntmps110
  go_wp2_with fail
  go_ret
  exact ⟨rfl, rfl⟩
 ·have hz : ((n : Int) == 0) = false := by rw [beq_eq_false_iff_ne]; omega
  by_cases h8 : 8 < n
  ·have hb : (8 : Int) < (n : Int) := by omega
   have H := Lib.hid (show partsE n = 6 by unfold partsE; simp [h0, h8])
   go_enter Tryz.func110, Tryz.ntmps110
   go_wp2_with fail
   go_ret
   exact ⟨ret_int H.out.symm, rfl⟩
  ·have hb : ¬ (8 : Int) < (n : Int) := by omega
   have H := Lib.hid (show partsE n = 0 by unfold partsE; simp [h0, h8])
   go_enter Tryz.func110, Tryz.ntmps110
   go_wp2_with fail
   go_ret
   exact ⟨ret_int H.out.symm, rfl⟩

set_option maxHeartbeats 800000 in
theorem match_any (m : Mat) (hok : m.ok) (w : World) :
  Calls Tryz.prog 141 #[.agg #[.int .i64 m.a.cat, .string m.a.name, .bool m.a.must, .int .i64 m.op, .int .i64 m.v.k, .int .i64 m.v.n, .string m.v.s]] w fun e w' => e = .returned (.int .i64 (matE m)) ∧ Below w.heap.size w w' := by
 obtain ⟨a, op, v⟩ := m
 obtain ⟨ha, hop, hv⟩ := hok
 simp only at ha hop hv ⊢
 have HA := Lib.hid (attr_any a ha)
 have HV := Lib.hid (right_any v.k v.n v.s hv.2.2)
 have HE : Hid (matE ⟨a, op, v⟩ = if attrB a = true ∧ 1 ≤ op ∧ op ≤ 3 ∧ decide (RightV v.k v.n v.s.data.toList) = true then 0 else 1) := by
  show matE ⟨a, op, v⟩ = _
  simp only [decide_eq_true_eq]
  rfl
 generalize matE ⟨a, op, v⟩ = r at *
 obtain ⟨c, nm, mu⟩ := a
 obtain ⟨k, n, s⟩ := v
 simp only at HA HV HE ⊢
 clear ha hop hv
 generalize hab : attrB ⟨c, nm, mu⟩ = ab at *
 generalize hrb : decide (RightV k n s.data.toList) = rb at *
 clear hab hrb
 go_enter Tryz.func141, Tryz.ntmps141
 go_wp2_with (first
  | (go_at_call 28; refine (HA.out _).mono ?_; rintro e w1 ⟨rfl, hb1⟩; have B1 := Lib.hid (Below.lit hb1); have C1 := Lib.hid (Ob.below (Ob.made _ _ _) hb1 (by simp)); have c1 := C1.out.cell 3; have c2 := C1.out.cell 4; have c3 := C1.out.cell 5; have c4 := C1.out.cell 6)
  | (go_at_call 50; refine (HV.out _).mono ?_; rintro e w2 ⟨rfl, hb2⟩; have B2 := Lib.hid hb2))
 all_goals
  go_ret
  refine ⟨ret_int ?_, by first | exact below_step B1.out B2.out | exact B1.out⟩
  rw [HE.out]
  clear HA HV HE
  cases rb <;> split <;> first | rfl | (exfalso; simp_all; done) | (exfalso; simp_all; omega)

set_option maxHeartbeats 800000 in
theorem duty_any (o : Dut) (hok : o.ok) (w : World) :
  Calls Tryz.prog 77 #[.agg #[.int .i64 o.on, .int .i64 o.kind, .string o.arg]] w fun e w' => e = .returned (.int .i64 (dutE o)) ∧ Below w.heap.size w w' := by
 obtain ⟨on, k, s⟩ := o
 obtain ⟨ho, hk, hs⟩ := hok
 simp only at ho hk hs ⊢
 have HN := Lib.hid (name_any s hs)
 have HE : Hid (dutE ⟨on, k, s⟩ = if (on = 1 ∨ on = 2) ∧ 1 ≤ k ∧ k ≤ 4 ∧ decide (Named s.data.toList) = true then 0 else 1) := by
  show dutE ⟨on, k, s⟩ = _
  simp only [decide_eq_true_eq]
  rfl
 generalize dutE ⟨on, k, s⟩ = r at *
 generalize hrb : decide (Named s.data.toList) = rb at *
 clear ho hk hrb
 unfold maxLen at hs
 go_enter Tryz.func77, Tryz.ntmps77
 go_wp2_with (go_at_call 49; refine (HN.out _).mono ?_; rintro e w1 ⟨rfl, rfl⟩)
 all_goals
  go_ret
  refine ⟨ret_int ?_, (Below.refl _ _).alloc (Nat.le_refl _) _⟩
  rw [HE.out]
  clear HN HE
  cases rb <;> split <;> first | rfl | (exfalso; simp_all; done) | (exfalso; simp_all; omega)
end Go.Proofs.YtmoglaknmlhpgaaGreatDoor
/- strings.CutSuffix, over the texts of bags and values that an expression's nodes leave. -/
namespace Go.Proofs.YtmoglaknmlhpgaaGreatDoor
set_option linter.unusedVariables false
open Go.RowKit

def ch (b : Bool) : UInt8 := if b = true then 98 else 118
def lf (st : List Bool) : ByteArray := ⟨(st.reverse.map ch).toArray⟩
theorem lf_bl (st : List Bool) : bl (lf st) = st.reverse.map ch := by simp [bl, lf]
theorem lf_size (st : List Bool) : (lf st).size = st.length := by show (st.reverse.map ch).toArray.size = _; simp
theorem ch_inj {a b : Bool} (h : ch a = ch b) : a = b := by cases a <;> cases b <;> simp_all [ch]
theorem map_ch_inj : ∀ {a b : List Bool}, a.map ch = b.map ch → a = b
 | [], [], _ => rfl
 | [], _ :: _, h => by simp at h
 | _ :: _, [], h => by simp at h
 | x :: a, y :: b, h => by
  simp only [List.map_cons, List.cons.injEq] at h
  rw [ch_inj h.1, map_ch_inj h.2]
theorem lf_inj {a b : List Bool} (h : lf a = lf b) : a = b := by
 have := congrArg bl h
 rw [lf_bl, lf_bl] at this
 have := map_ch_inj this
 simpa using congrArg List.reverse this
theorem bl_extract (s : ByteArray) (i j : Nat) : bl (s.extract i j) = ((bl s).drop i).take (j - i) := by
 show (s.extract i j).data.toList = (s.data.toList.drop i).take (j - i)
 rw [ByteArray.data_extract]
 simp [List.extract_eq_take_drop]
theorem lf_tail (st : List Bool) (m : Nat) (h : m ≤ st.length) : (lf st).extract (st.length - m) st.length = lf (st.take m) := by
 apply text_eq
 rw [bl_extract, lf_bl, lf_bl, ← List.map_drop, ← List.map_take, List.drop_reverse]
 congr 1
 rw [List.take_of_length_le (by simp)]
 congr 2
 omega
theorem lf_head (st : List Bool) (m : Nat) (h : m ≤ st.length) : (lf st).extract 0 (st.length - m) = lf (st.drop m) := by
 apply text_eq
 rw [bl_extract, lf_bl, lf_bl, List.drop_zero, Nat.sub_zero, ← List.map_take, List.take_reverse]
 congr 3
 omega
theorem lf_push (st : List Bool) (b : Bool) : lf st ++ lf [b] = lf (b :: st) := by
 apply text_eq
 show (lf st ++ lf [b]).data.toList = _
 rw [ByteArray.data_append]
 simp [lf, bl]
theorem lf_nil : lf [] = ⟨#[]⟩ := rfl

theorem hasP_eq {p st : List Bool} (h : p.length ≤ st.length) : ((lf st).extract (st.length - p.length) st.length = lf p) = (hasP p st = true) := by
 rw [lf_tail st _ h]
 unfold hasP
 rw [decide_eq_true_eq, eq_iff_iff]
 exact ⟨fun e => lf_inj e, fun e => by rw [e]⟩
theorem hasP_short {p st : List Bool} (h : ¬ p.length ≤ st.length) : hasP p st = false := by
 unfold hasP
 rw [decide_eq_false_iff_not]
 intro e
 have := congrArg List.length e
 rw [List.length_take] at this
 omega

set_option maxHeartbeats 800000 in
theorem suffix_any (s t : ByteArray) (hs : s.size ≤ maxLen) (ht : t.size ≤ maxLen) (w : World) :
  Calls Tryz.prog 157 #[.string s, .string t] w fun e w' => e = .returned (.bool (decide (t.size ≤ s.size) && decide (s.extract (s.size - t.size) s.size = t))) ∧ w' = w := by
 unfold maxLen at hs ht
 by_cases h : t.size ≤ s.size
 ·obtain ⟨k, hk⟩ : ∃ k, k = s.size - t.size := ⟨_, rfl⟩
  have e1 : (s.size : Int) - (t.size : Int) = (k : Int) := by omega
  have e2 : k ≤ s.size := by omega
  go_enter Tryz.func157, Tryz.ntmps157
  go_wp2_with fail
  go_ret
  refine ⟨ret_bool ?_, rfl⟩
  rw [decide_eq_true h, Bool.true_and, Bool.eq_iff_iff, beq_iff_eq, decide_eq_true_eq, ByteArray.toList_eq, ByteArray.toList_eq]
  exact ⟨fun e => text_eq e, fun e => by rw [e]⟩
 ·go_enter Tryz.func157, Tryz.ntmps157
  go_wp2_with fail
  go_ret
  exact ⟨ret_bool (by rw [decide_eq_false h]; rfl), rfl⟩

theorem suffix_lf (st p : List Bool) (hs : st.length ≤ 1000) (hp : p.length ≤ 1000) (w : World) :
  Calls Tryz.prog 157 #[.string (lf st), .string (lf p)] w fun e w' => e = .returned (.bool (hasP p st)) ∧ w' = w := by
 refine (suffix_any _ _ (by rw [lf_size]; simp [maxLen]; omega) (by rw [lf_size]; simp [maxLen]; omega) w).mono ?_
 rintro e w' ⟨rfl, rfl⟩
 refine ⟨ret_bool ?_, rfl⟩
 rw [lf_size, lf_size]
 by_cases h : p.length ≤ st.length
 ·rw [decide_eq_true h, Bool.true_and, Bool.eq_iff_iff, decide_eq_true_eq, hasP_eq h]
 ·rw [decide_eq_false h, hasP_short h]; rfl

set_option maxHeartbeats 800000 in
theorem cut0_any (st p : List Bool) (hs : st.length ≤ 1000) (hp : p.length ≤ 1000) (w : World) :
  Calls Tryz.prog 142 #[.string (lf st), .string (lf p)] w fun e w' => e = .returned (.tuple #[.string (if hasP p st = true then lf (st.drop p.length) else lf st), .bool (hasP p st)]) ∧ w' = w := by
 have HS := Lib.hid (suffix_lf st p hs hp)
 have z1 := lf_size st
 have z2 := lf_size p
 by_cases h : hasP p st = true
 ·have hl : p.length ≤ st.length := by
   rcases Nat.lt_or_ge st.length p.length with hlt | hge
   ·rw [hasP_short (by omega)] at h; cases h
   ·exact hge
  have hh := lf_head st p.length hl
  have HH := Lib.hid hh
  clear hh
  rw [h] at HS ⊢
  generalize lf st = s at *
  generalize lf p = t at *
  have e1 : (s.size : Int) - (t.size : Int) = ((st.length - p.length : Nat) : Int) := by omega
  have e2 : st.length - p.length ≤ s.size := by omega
  have ez : s.size - t.size = st.length - p.length := by omega
  have e3 : s.size ≤ 1000 := by omega
  have e4 : t.size ≤ s.size := by omega
  have HZ := Lib.hid ez
  clear z1 z2 h e1 e2 hl hs hp ez
  go_enter Tryz.func142, Tryz.ntmps142
  go_wp2_with (go_at_call 157; refine (HS.out _).mono ?_; rintro e w1 ⟨rfl, rfl⟩)
  go_ret2
  exact ⟨by rw [HZ.out, HH.out]; rfl, rfl⟩
 ·rw [Bool.not_eq_true] at h
  rw [h] at HS ⊢
  generalize lf st = s at *
  generalize lf p = t at *
  clear z1 z2 h hs hp
  go_enter Tryz.func142, Tryz.ntmps142
  go_wp2_with (go_at_call 157; refine (HS.out _).mono ?_; rintro e w1 ⟨rfl, rfl⟩)
  go_ret2
  exact ⟨rfl, rfl⟩

theorem cut_any (st p : List Bool) (hs : st.length ≤ 1000) (hp : p.length ≤ 1000) (w : World) :
  Calls Tryz.prog 114 #[.string (lf st), .string (lf p)] w fun e w' => e = .returned (.tuple #[.string (if hasP p st = true then lf (st.drop p.length) else lf st), .bool (hasP p st)]) ∧ w' = w := by
 have HS := Lib.hid (cut0_any st p hs hp)
 generalize lf st = s at *
 generalize lf p = t at *
 generalize (if hasP p st = true then lf (st.drop p.length) else s) = u at *
 generalize hasP p st = b at *
 clear hs hp
 go_enter Tryz.func114, Tryz.ntmps114
 go_wp2_with (go_at_call 142; refine (HS.out _).mono ?_; rintro e w1 ⟨rfl, rfl⟩)
 go_ret2
 exact ⟨rfl, rfl⟩
end Go.Proofs.YtmoglaknmlhpgaaGreatDoor
/- Attributes, nodes, matches, duties held against each other by ==. -/
namespace Go.Proofs.YtmoglaknmlhpgaaGreatDoor
set_option linter.unusedVariables false
open Go.RowKit

theorem text_same (s s' : ByteArray) : (s.toList = s'.toList) = (s = s') := propext ⟨fun c => text_eq (by show s.data.toList = s'.data.toList; rw [← ByteArray.toList_eq, ← ByteArray.toList_eq]; exact c), fun h => by rw [h]⟩

set_option maxRecDepth 100000 in
set_option maxHeartbeats 800000 in
theorem dut_eq (a b : Dut) (w : World) : (Op.equalIn 10000 65 (.agg #[.int .i64 a.on, .int .i64 a.kind, .string a.arg]) (.agg #[.int .i64 b.on, .int .i64 b.kind, .string b.arg])).run Tryz.prog w = .ok (decide (a = b)) w := by
 have u3 := Tryz.underlying3
 have a3 := Tryz.isAgg3
 have z3 := Tryz.sizeOf3
 have u9 := Tryz.underlying9
 have a9 := Tryz.isAgg9
 have z9 := Tryz.sizeOf9
 have u4 := Tryz.underlying4
 have a4 := Tryz.isAgg4
 have z4 := Tryz.sizeOf4
 have hS : Tryz.prog.underlying 65 = some (.struct (Tryz.prog.fieldsOf 65)) := by kernel_rfl
 have hp : Tryz.prog.stoodInHeld 65 = false := by kernel_rfl
 rw [show (10000 : Nat) = 9999 + 1 from rfl, run_equalIn_agg w 9999 65 _ _ hS hp]
 simp only [Program.fieldsOf, Tryz.underlying65]
 go_simp
 simp only [text_same]
 repeat' split
 all_goals first
  | (rw [decide_eq_true]; exact Dut.ext' (by assumption) (by assumption) (by assumption))
  | (rw [decide_eq_false]; rintro rfl; rename_i hne; exact hne rfl)

end Go.Proofs.YtmoglaknmlhpgaaGreatDoor
/- What a node is of, what it makes, and what it may have beside its Op. -/
namespace Go.Proofs.YtmoglaknmlhpgaaGreatDoor
set_option linter.unusedVariables false
open Go.RowKit

def ofT (op : Int) : ByteArray := lf ((patX op).getD [])
def makesT (op : Int) : ByteArray := match patX op with | none => lf [] | some _ => lf [makesX op]
set_option maxHeartbeats 1600000 in
theorem shape_any (op : Int) (w : World) :
  Calls Tryz.prog 113 #[.int .i64 op] w fun e w' => e = .returned (.tuple #[.string (ofT op), .string (makesT op)]) ∧ w' = w := by
 rcases ops_cases op with rfl | rfl | rfl | rfl | rfl | rfl | rfl | rfl | rfl | rfl | rfl | rfl | rfl | h
 case inr.inr.inr.inr.inr.inr.inr.inr.inr.inr.inr.inr.inr =>
  have HE : Hid (ofT op = ⟨#[]⟩ ∧ makesT op = ⟨#[]⟩) := by
   show ofT op = ⟨#[]⟩ ∧ makesT op = ⟨#[]⟩
   obtain ⟨h1, h2, h3, h4, h5, h6, h7, h8, h9, h10, h11, h12, h13⟩ := h
   have : patX op = none := by simp [patX, h1, h2, h3, h4, h5, h6, h7, h8, h9, h10, h11, h12, h13]
   unfold ofT makesT
   rw [this]
   exact ⟨rfl, rfl⟩
  simp only [ne_eq, ← beq_eq_false_iff_ne] at h
  obtain ⟨h1, h2, h3, h4, h5, h6, h7, h8, h9, h10, h11, h12, h13⟩ := h
  go_enter Tryz.func113, Tryz.ntmps113
  go_wp2_with fail
  go_ret2
  exact ⟨by rw [HE.out.1, HE.out.2]; rfl, rfl⟩
 all_goals
  go_enter Tryz.func113, Tryz.ntmps113
  go_wp2_with fail
  go_ret2
  exact ⟨rfl, rfl⟩

theorem empty_iff (s : ByteArray) : (s = ByteArray.empty) = (s.toList = []) := propext ⟨fun h => by rw [h, ByteArray.toList_eq]; rfl, fun h => text_eq (by show s.data.toList = []; rw [← ByteArray.toList_eq]; exact h)⟩
theorem zeroA_iff (c : Int) (nm : ByteArray) (mu : Bool) : decide ((⟨c, nm, mu⟩ : Atr) = zeroA) = (decide (c = 0) && decide (nm.toList = []) && decide (mu = false)) := by
 rw [Bool.eq_iff_iff]
 simp only [Bool.and_eq_true, decide_eq_true_eq, ← empty_iff, zeroA, Atr.mk.injEq, and_assoc]
theorem zeroV_iff (k n : Int) (s : ByteArray) : decide ((⟨k, n, s⟩ : Vl) = zeroV) = (decide (k = 0) && decide (n = 0) && decide (s.toList = [])) := by
 rw [Bool.eq_iff_iff]
 simp only [Bool.and_eq_true, decide_eq_true_eq, ← empty_iff, zeroV, Vl.mk.injEq, and_assoc]

set_option maxHeartbeats 1600000 in
theorem holds_any (x : Nod) (hok : x.ok) (w : World) :
  Calls Tryz.prog 115 #[.agg #[.int .i64 x.op, .int .i64 x.v.k, .int .i64 x.v.n, .string x.v.s, .int .i64 x.a.cat, .string x.a.name, .bool x.a.must]] w fun e w' => e = .returned (.bool (holdsB x)) ∧ Below w.heap.size w w' := by
 obtain ⟨op, ⟨k, n, s⟩, ⟨c, nm, mu⟩⟩ := x
 obtain ⟨hop, hv, ha⟩ := hok
 simp only at hop hv ha ⊢
 have HV := Lib.hid (right_any k n s hv.2.2)
 have HA := Lib.hid (attr_any ⟨c, nm, mu⟩ ha)
 have HE : Hid (holdsB ⟨op, ⟨k, n, s⟩, ⟨c, nm, mu⟩⟩ = if op = 1 then decide (RightV k n s.data.toList) && (decide (c = 0) && decide (nm.toList = []) && decide (mu = false)) else if op = 2 then (decide (k = 0) && decide (n = 0) && decide (s.toList = [])) && attrB ⟨c, nm, mu⟩
   else (decide (k = 0) && decide (n = 0) && decide (s.toList = [])) && (decide (c = 0) && decide (nm.toList = []) && decide (mu = false))) := by
  rw [← zeroA_iff, ← zeroV_iff]; exact rfl
 clear hop hv ha
 generalize decide (RightV k n s.data.toList) = rv at *
 generalize attrB ⟨c, nm, mu⟩ = ab at *
 generalize holdsB ⟨op, ⟨k, n, s⟩, ⟨c, nm, mu⟩⟩ = r at *
 have two : op = 1 ∨ op = 2 ∨ ((op == 1) = false ∧ (op == 2) = false) := by simp only [beq_eq_false_iff_ne]; omega
 rcases two with rfl | rfl | ⟨t1, t2⟩
 ·go_enter Tryz.func115, Tryz.ntmps115
  go_wp2_with (first
   | (go_at_call 50; refine (HV.out _).mono ?_; rintro e w1 ⟨rfl, hb1⟩; have B1 := Lib.hid (Below.lit hb1); have C1 := Lib.hid (Ob.below (Ob.made _ _ _) hb1 (by simp)); have c4 := C1.out.cell 4; have c5 := C1.out.cell 5; have c6 := C1.out.cell 6))
  all_goals
   go_ret
   refine ⟨ret_bool ?_, B1.out⟩
   rw [HE.out]
   clear HA HV HE B1 C1
   simp_all
 ·go_enter Tryz.func115, Tryz.ntmps115
  go_wp2_with (first
   | (go_at_call 28; refine (HA.out _).mono ?_; rintro e w1 ⟨rfl, hb1⟩; have B1 := Lib.hid (Below.lit hb1)))
  all_goals
   go_ret
   refine ⟨ret_bool ?_, by first | exact B1.out | exact (Below.refl _ _).alloc (Nat.le_refl _) _⟩
   rw [HE.out]
   clear HA HV HE
   simp_all
 ·have HT : Hid (op ≠ 1 ∧ op ≠ 2) := ⟨by simpa using t1, by simpa using t2⟩
  go_enter Tryz.func115, Tryz.ntmps115
  go_wp2_with fail
  all_goals
   go_ret
   refine ⟨ret_bool ?_, (Below.refl _ _).alloc (Nat.le_refl _) _⟩
   have ht := HT.out
   rw [HE.out]
   clear HA HV HE HT
   simp_all
end Go.Proofs.YtmoglaknmlhpgaaGreatDoor
