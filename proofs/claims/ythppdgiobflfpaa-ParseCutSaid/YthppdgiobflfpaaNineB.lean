/- Several texts in one: PolMem, VNameV, VRightV, PolLeaf, PolCut, VEq, PolEq, PolHolds, PolExpr, PolEach, PolWalk, PolOr, QTail, PolRule, PolPol. -/
import Derived.Test.YthppdgiobflfpaaNineA
import Derived.Laws.StructEq
import Derived.Laws.Tables
import Derived.Laws.Cover2
import Derived.Maps.OwnOps
import Derived.Maps.Views
import Derived.StillTail
import Derived.Lib.QuietBelow
import Derived.BigQuiet
/- Policies in memory: rows of structs, of lists, of policies. -/
namespace Go.Proofs.Ythppdgiobflfpaa
set_option linter.unusedVariables false
open Go.RowKit

/-- The slice 'A n c' reads as a row of so many cells each, which say l; they lie in blocks that R lets in. -/
def Rw {α : Type} (k : Nat) (P : List Value → α → Prop) (w : World) (R : Nat → Prop) (A : Option Addr) (n c : Nat) (l : List α) : Prop :=
  l.length = n ∧ n ≤ c ∧ (c ≤ maxLen ∧ n ≤ 140737488351232) ∧ (n = 0 ∨ ∃ b o, A = some ⟨b, o, none⟩ ∧ R b ∧ b < w.heap.size ∧ ∀ j x, l[j]? = some x → ∃ vs : List Value, vs.length = k ∧ (∀ i v, vs[i]? = some v → w.cell? ⟨b, o + j * k + i, none⟩ = some v) ∧ P vs x)

/-- What lies in R is kept. -/
def Kept (R : Nat → Prop) (w w' : World) : Prop := w.heap.size ≤ w'.heap.size ∧ ∀ b, R b → b < w.heap.size → w'.heap[b]? = w.heap[b]?
theorem Kept.refl (R : Nat → Prop) (w : World) : Kept R w w := ⟨Nat.le_refl _, fun _ _ _ => rfl⟩
theorem Kept.below {w w' : World} {B : Nat} (h : Below B w w') {R : Nat → Prop} (hR : ∀ b, R b → b < w.heap.size → b < B) : Kept R w w' := ⟨h.size, fun b hb hlt => h.block b (hR b hb hlt)⟩
theorem Kept.all {w w' : World} (h : Below w.heap.size w w') (R : Nat → Prop) : Kept R w w' := Kept.below h fun _ _ h => h
theorem Kept.trans {R : Nat → Prop} {a b c : World} (h1 : Kept R a b) (h2 : Kept R b c) : Kept R a c :=
  ⟨Nat.le_trans h1.1 h2.1, fun k hk hl => (h2.2 k hk (Nat.lt_of_lt_of_le hl h1.1)).trans (h1.2 k hk hl)⟩

section
variable {α : Type} {k : Nat} {P P' : List Value → α → Prop} {w w' : World} {R R' : Nat → Prop} {A : Option Addr} {n c : Nat} {l : List α}
theorem Rw.len (h : Rw k P w R A n c l) : l.length = n := h.1
theorem Rw.le (h : Rw k P w R A n c l) : n ≤ c := h.2.1
theorem Rw.cap (h : Rw k P w R A n c l) : c ≤ maxLen := h.2.2.1.1
theorem Rw.big (h : Rw k P w R A n c l) : n ≤ 140737488351232 := h.2.2.1.2
theorem Rw.nil_ (k : Nat) (P : List Value → α → Prop) (w : World) (R : Nat → Prop) : Rw k P w R none 0 0 [] := ⟨rfl, Nat.le_refl _, ⟨by simp [maxLen], by omega⟩, .inl rfl⟩
theorem Rw.keep (h : Rw k P w R A n c l) (hk : Kept R w w') (hR : ∀ b, R b → b < w.heap.size → R' b) (hP : ∀ vs x, x ∈ l → P vs x → P' vs x) : Rw k P' w' R' A n c l := by
  obtain ⟨h1, h2, h3, h4⟩ := h
  refine ⟨h1, h2, h3, ?_⟩
  rcases h4 with h4 | ⟨b, o, e, hb, hlt, hc⟩
  · exact .inl h4
  · refine .inr ⟨b, o, e, hR b hb hlt, Nat.lt_of_lt_of_le hlt hk.1, fun j x hx => ?_⟩
    obtain ⟨vs, hl, hv, hp⟩ := hc j x hx
    exact ⟨vs, hl, fun i v hi => (World.cell?_of_block (hk.2 b hb hlt)).trans (hv i v hi), hP vs x (List.mem_of_getElem? hx) hp⟩
theorem Rw.at_ (h : Rw k P w R A n c l) {j : Nat} (hj : j < n) : ∃ b o x vs, A = some ⟨b, o, none⟩ ∧ R b ∧ b < w.heap.size ∧ l[j]? = some x ∧ vs.length = k ∧ (∀ i v, vs[i]? = some v → w.cell? ⟨b, o + j * k + i, none⟩ = some v) ∧ P vs x := by
  obtain ⟨h1, h2, h3, h4⟩ := h
  rcases h4 with h4 | ⟨b, o, e, hb, hlt, hc⟩
  · omega
  · have hl : j < l.length := by omega
    obtain ⟨vs, a1, a2, a3⟩ := hc j l[j] (List.getElem?_eq_getElem hl)
    exact ⟨b, o, l[j], vs, e, hb, hlt, List.getElem?_eq_getElem hl, a1, a2, a3⟩
theorem Rw.take (h : Rw k P w R A n c l) {m : Nat} (hm : m ≤ n) : Rw k P w R A m c (l.take m) := by
  obtain ⟨h1, h2, h3, h4⟩ := h
  refine ⟨by rw [List.length_take]; omega, by omega, ⟨h3.1, by have := h3.2; omega⟩, ?_⟩
  rcases h4 with h4 | ⟨b, o, e, hb, hlt, hc⟩
  · left; omega
  · refine .inr ⟨b, o, e, hb, hlt, fun j x hx => hc j x ?_⟩
    rw [List.getElem?_take] at hx
    split at hx
    · exact hx
    · cases hx
end

def Atr.cells (a : Atr) : List Value := [.int .i64 a.cat, .string a.name, .bool a.must]
def Atr.val (a : Atr) : Value := .agg #[.int .i64 a.cat, .string a.name, .bool a.must]
def Mat.cells (m : Mat) : List Value := [.int .i64 m.a.cat, .string m.a.name, .bool m.a.must, .int .i64 m.op, .int .i64 m.v.k, .int .i64 m.v.n, .string m.v.s]
def Mat.val (m : Mat) : Value := .agg #[.int .i64 m.a.cat, .string m.a.name, .bool m.a.must, .int .i64 m.op, .int .i64 m.v.k, .int .i64 m.v.n, .string m.v.s]
def Nod.cells (m : Nod) : List Value := [.int .i64 m.op, .int .i64 m.v.k, .int .i64 m.v.n, .string m.v.s, .int .i64 m.a.cat, .string m.a.name, .bool m.a.must]
def Nod.val (m : Nod) : Value := .agg #[.int .i64 m.op, .int .i64 m.v.k, .int .i64 m.v.n, .string m.v.s, .int .i64 m.a.cat, .string m.a.name, .bool m.a.must]
def Dut.cells (m : Dut) : List Value := [.int .i64 m.on, .int .i64 m.kind, .string m.arg]
def Dut.val (m : Dut) : Value := .agg #[.int .i64 m.on, .int .i64 m.kind, .string m.arg]

/-- A row of matches, of AllOfs, of AnyOfs; of nodes; of duties. -/
def Ms (w : World) (R : Nat → Prop) := Rw 7 (fun vs (m : Mat) => vs = m.cells ∧ m.ok) w R
def Als (w : World) (R : Nat → Prop) := Rw 1 (fun vs (l : List Mat) => ∃ A n c, vs = [.slice A n c] ∧ Ms w R A n c l) w R
def Tg (w : World) (R : Nat → Prop) := Rw 1 (fun vs (l : List (List Mat)) => ∃ A n c, vs = [.slice A n c] ∧ Als w R A n c l) w R
def Nds (w : World) (R : Nat → Prop) := Rw 7 (fun vs (m : Nod) => vs = m.cells ∧ m.ok) w R
def Dus (w : World) (R : Nat → Prop) := Rw 3 (fun vs (m : Dut) => vs = m.cells ∧ m.ok) w R
/-- A rule's cells. -/
def RulAt (w : World) (R : Nat → Prop) (vs : List Value) (r : Rul) : Prop :=
  ∃ A1 n1 c1 A2 n2 c2 A3 n3 c3, vs = [.string r.id, .bool r.deny, .slice A1 n1 c1, .slice A2 n2 c2, .slice A3 n3 c3] ∧ r.id.size ≤ maxLen ∧ Tg w R A1 n1 c1 r.tg ∧ Nds w R A2 n2 c2 r.cond ∧ Dus w R A3 n3 c3 r.ob
def Rus (w : World) (R : Nat → Prop) := Rw 5 (RulAt w R) w R
/-- A policy's cells, of no more than so many depths. -/
def PolAt (w : World) (R : Nat → Prop) : Nat → List Value → Pol → Prop
  | 0, _, _ => False
  | d + 1, vs, p => ∃ A1 n1 c1 A2 n2 c2 A3 n3 c3 A4 n4 c4, vs = [.string p.id, .bool p.set, .int .i64 p.alg, .slice A1 n1 c1, .slice A2 n2 c2, .slice A3 n3 c3, .slice A4 n4 c4] ∧ p.id.size ≤ maxLen ∧ InI p.alg ∧
      Tg w R A1 n1 c1 p.tg ∧ Rus w R A2 n2 c2 p.rules ∧ Rw 7 (PolAt w R d) w R A3 n3 c3 p.kids ∧ Dus w R A4 n4 c4 p.ob
def Pls (w : World) (R : Nat → Prop) (d : Nat) := Rw 7 (PolAt w R d) w R

section
variable {w w' : World} {R R' : Nat → Prop} {A : Option Addr} {n c : Nat}
theorem Ms.keep {l : List Mat} (h : Ms w R A n c l) (hk : Kept R w w') (hR : ∀ b, R b → b < w.heap.size → R' b) : Ms w' R' A n c l := Rw.keep h hk hR fun _ _ _ h => h
theorem Nds.keep {l : List Nod} (h : Nds w R A n c l) (hk : Kept R w w') (hR : ∀ b, R b → b < w.heap.size → R' b) : Nds w' R' A n c l := Rw.keep h hk hR fun _ _ _ h => h
theorem Dus.keep {l : List Dut} (h : Dus w R A n c l) (hk : Kept R w w') (hR : ∀ b, R b → b < w.heap.size → R' b) : Dus w' R' A n c l := Rw.keep h hk hR fun _ _ _ h => h
theorem Als.keep {l : List (List Mat)} (h : Als w R A n c l) (hk : Kept R w w') (hR : ∀ b, R b → b < w.heap.size → R' b) : Als w' R' A n c l :=
  Rw.keep h hk hR fun _ _ _ ⟨a, b, c, e, h⟩ => ⟨a, b, c, e, h.keep hk hR⟩
theorem Tg.keep {l : Tgt} (h : Tg w R A n c l) (hk : Kept R w w') (hR : ∀ b, R b → b < w.heap.size → R' b) : Tg w' R' A n c l :=
  Rw.keep h hk hR fun _ _ _ ⟨a, b, c, e, h⟩ => ⟨a, b, c, e, h.keep hk hR⟩
theorem RulAt.keep {vs : List Value} {r : Rul} (h : RulAt w R vs r) (hk : Kept R w w') (hR : ∀ b, R b → b < w.heap.size → R' b) : RulAt w' R' vs r := by
  obtain ⟨A1, n1, c1, A2, n2, c2, A3, n3, c3, e, h0, h1, h2, h3⟩ := h
  exact ⟨A1, n1, c1, A2, n2, c2, A3, n3, c3, e, h0, h1.keep hk hR, h2.keep hk hR, h3.keep hk hR⟩
theorem Rus.keep {l : List Rul} (h : Rus w R A n c l) (hk : Kept R w w') (hR : ∀ b, R b → b < w.heap.size → R' b) : Rus w' R' A n c l := Rw.keep h hk hR fun _ _ _ h => h.keep hk hR
theorem PolAt.keep (hk : Kept R w w') (hR : ∀ b, R b → b < w.heap.size → R' b) : ∀ {d : Nat} {vs : List Value} {p : Pol}, PolAt w R d vs p → PolAt w' R' d vs p
  | 0, _, _, h => h
  | d + 1, _, _, ⟨A1, n1, c1, A2, n2, c2, A3, n3, c3, A4, n4, c4, e, h0, h00, h1, h2, h3, h4⟩ =>
    ⟨A1, n1, c1, A2, n2, c2, A3, n3, c3, A4, n4, c4, e, h0, h00, h1.keep hk hR, h2.keep hk hR, Rw.keep h3 hk hR fun _ _ _ h => PolAt.keep hk hR h, h4.keep hk hR⟩
theorem Pls.keep {d : Nat} {l : List Pol} (h : Pls w R d A n c l) (hk : Kept R w w') (hR : ∀ b, R b → b < w.heap.size → R' b) : Pls w' R' d A n c l := Rw.keep h hk hR fun _ _ _ h => PolAt.keep hk hR h
theorem PolAt.more : ∀ {d d' : Nat} {vs : List Value} {p : Pol}, d ≤ d' → PolAt w R d vs p → PolAt w R d' vs p
  | 0, _, _, _, _, h => h.elim
  | d + 1, 0, _, _, hd, _ => by omega
  | d + 1, d' + 1, _, _, hd, ⟨A1, n1, c1, A2, n2, c2, A3, n3, c3, A4, n4, c4, e, h0, h00, h1, h2, h3, h4⟩ =>
    ⟨A1, n1, c1, A2, n2, c2, A3, n3, c3, A4, n4, c4, e, h0, h00, h1, h2, Rw.keep h3 (Kept.refl _ _) (fun _ h _ => h) fun _ _ _ h => PolAt.more (by omega) h, h4⟩

theorem Ms.at_ {l : List Mat} (h : Ms w R A n c l) {j : Nat} (hj : j < n) : ∃ b o m, A = some ⟨b, o, none⟩ ∧ R b ∧ b < w.heap.size ∧ l[j]? = some m ∧ m.ok ∧
    (w.cell? ⟨b, o + j * 7, none⟩ = some (.int .i64 m.a.cat) ∧ w.cell? ⟨b, o + j * 7 + 1, none⟩ = some (.string m.a.name) ∧ w.cell? ⟨b, o + j * 7 + 2, none⟩ = some (.bool m.a.must) ∧ w.cell? ⟨b, o + j * 7 + 3, none⟩ = some (.int .i64 m.op) ∧
      w.cell? ⟨b, o + j * 7 + 4, none⟩ = some (.int .i64 m.v.k) ∧ w.cell? ⟨b, o + j * 7 + 5, none⟩ = some (.int .i64 m.v.n) ∧ w.cell? ⟨b, o + j * 7 + 6, none⟩ = some (.string m.v.s)) := by
  obtain ⟨b, o, m, vs, e, hb, hlt, hm, hl, hv, rfl, hok⟩ := Rw.at_ h hj
  exact ⟨b, o, m, e, hb, hlt, hm, hok, hv 0 _ rfl, hv 1 _ rfl, hv 2 _ rfl, hv 3 _ rfl, hv 4 _ rfl, hv 5 _ rfl, hv 6 _ rfl⟩
theorem Nds.at_ {l : List Nod} (h : Nds w R A n c l) {j : Nat} (hj : j < n) : ∃ b o m, A = some ⟨b, o, none⟩ ∧ R b ∧ b < w.heap.size ∧ l[j]? = some m ∧ m.ok ∧
    (w.cell? ⟨b, o + j * 7, none⟩ = some (.int .i64 m.op) ∧ w.cell? ⟨b, o + j * 7 + 1, none⟩ = some (.int .i64 m.v.k) ∧ w.cell? ⟨b, o + j * 7 + 2, none⟩ = some (.int .i64 m.v.n) ∧ w.cell? ⟨b, o + j * 7 + 3, none⟩ = some (.string m.v.s) ∧
      w.cell? ⟨b, o + j * 7 + 4, none⟩ = some (.int .i64 m.a.cat) ∧ w.cell? ⟨b, o + j * 7 + 5, none⟩ = some (.string m.a.name) ∧ w.cell? ⟨b, o + j * 7 + 6, none⟩ = some (.bool m.a.must)) := by
  obtain ⟨b, o, m, vs, e, hb, hlt, hm, hl, hv, rfl, hok⟩ := Rw.at_ h hj
  exact ⟨b, o, m, e, hb, hlt, hm, hok, hv 0 _ rfl, hv 1 _ rfl, hv 2 _ rfl, hv 3 _ rfl, hv 4 _ rfl, hv 5 _ rfl, hv 6 _ rfl⟩
theorem Dus.at_ {l : List Dut} (h : Dus w R A n c l) {j : Nat} (hj : j < n) : ∃ b o m, A = some ⟨b, o, none⟩ ∧ R b ∧ b < w.heap.size ∧ l[j]? = some m ∧ m.ok ∧
    (w.cell? ⟨b, o + j * 3, none⟩ = some (.int .i64 m.on) ∧ w.cell? ⟨b, o + j * 3 + 1, none⟩ = some (.int .i64 m.kind) ∧ w.cell? ⟨b, o + j * 3 + 2, none⟩ = some (.string m.arg)) := by
  obtain ⟨b, o, m, vs, e, hb, hlt, hm, hl, hv, rfl, hok⟩ := Rw.at_ h hj
  exact ⟨b, o, m, e, hb, hlt, hm, hok, hv 0 _ rfl, hv 1 _ rfl, hv 2 _ rfl⟩
theorem Als.at_ {l : List (List Mat)} (h : Als w R A n c l) {j : Nat} (hj : j < n) : ∃ b o x A' n' c', A = some ⟨b, o, none⟩ ∧ R b ∧ b < w.heap.size ∧ l[j]? = some x ∧ w.cell? ⟨b, o + j, none⟩ = some (.slice A' n' c') ∧ Ms w R A' n' c' x := by
  obtain ⟨b, o, x, vs, e, hb, hlt, hm, hl, hv, A', n', c', rfl, h'⟩ := Rw.at_ h hj
  have := hv 0 _ rfl
  rw [Nat.mul_one] at this
  exact ⟨b, o, x, A', n', c', e, hb, hlt, hm, this, h'⟩
theorem Tg.at_ {l : Tgt} (h : Tg w R A n c l) {j : Nat} (hj : j < n) : ∃ b o x A' n' c', A = some ⟨b, o, none⟩ ∧ R b ∧ b < w.heap.size ∧ l[j]? = some x ∧ w.cell? ⟨b, o + j, none⟩ = some (.slice A' n' c') ∧ Als w R A' n' c' x := by
  obtain ⟨b, o, x, vs, e, hb, hlt, hm, hl, hv, A', n', c', rfl, h'⟩ := Rw.at_ h hj
  have := hv 0 _ rfl
  rw [Nat.mul_one] at this
  exact ⟨b, o, x, A', n', c', e, hb, hlt, hm, this, h'⟩
theorem Rus.at_ {l : List Rul} (h : Rus w R A n c l) {j : Nat} (hj : j < n) : ∃ b o r A1 n1 c1 A2 n2 c2 A3 n3 c3, A = some ⟨b, o, none⟩ ∧ R b ∧ b < w.heap.size ∧ l[j]? = some r ∧ r.id.size ≤ maxLen ∧
    (w.cell? ⟨b, o + j * 5, none⟩ = some (.string r.id) ∧ w.cell? ⟨b, o + j * 5 + 1, none⟩ = some (.bool r.deny) ∧ w.cell? ⟨b, o + j * 5 + 2, none⟩ = some (.slice A1 n1 c1) ∧ w.cell? ⟨b, o + j * 5 + 3, none⟩ = some (.slice A2 n2 c2) ∧ w.cell? ⟨b, o + j * 5 + 4, none⟩ = some (.slice A3 n3 c3)) ∧
    Tg w R A1 n1 c1 r.tg ∧ Nds w R A2 n2 c2 r.cond ∧ Dus w R A3 n3 c3 r.ob := by
  obtain ⟨b, o, r, vs, e, hb, hlt, hm, hl, hv, A1, n1, c1, A2, n2, c2, A3, n3, c3, rfl, h0, h1, h2, h3⟩ := Rw.at_ h hj
  exact ⟨b, o, r, A1, n1, c1, A2, n2, c2, A3, n3, c3, e, hb, hlt, hm, h0, ⟨hv 0 _ rfl, hv 1 _ rfl, hv 2 _ rfl, hv 3 _ rfl, hv 4 _ rfl⟩, h1, h2, h3⟩
theorem Pls.at_ {d : Nat} {l : List Pol} (h : Pls w R d A n c l) {j : Nat} (hj : j < n) : ∃ b o p d' A1 n1 c1 A2 n2 c2 A3 n3 c3 A4 n4 c4, A = some ⟨b, o, none⟩ ∧ R b ∧ b < w.heap.size ∧ l[j]? = some p ∧ d = d' + 1 ∧ (p.id.size ≤ maxLen ∧ InI p.alg) ∧
    (w.cell? ⟨b, o + j * 7, none⟩ = some (.string p.id) ∧ w.cell? ⟨b, o + j * 7 + 1, none⟩ = some (.bool p.set) ∧ w.cell? ⟨b, o + j * 7 + 2, none⟩ = some (.int .i64 p.alg) ∧ w.cell? ⟨b, o + j * 7 + 3, none⟩ = some (.slice A1 n1 c1) ∧
      w.cell? ⟨b, o + j * 7 + 4, none⟩ = some (.slice A2 n2 c2) ∧ w.cell? ⟨b, o + j * 7 + 5, none⟩ = some (.slice A3 n3 c3) ∧ w.cell? ⟨b, o + j * 7 + 6, none⟩ = some (.slice A4 n4 c4)) ∧
    Tg w R A1 n1 c1 p.tg ∧ Rus w R A2 n2 c2 p.rules ∧ Pls w R d' A3 n3 c3 p.kids ∧ Dus w R A4 n4 c4 p.ob := by
  obtain ⟨b, o, p, vs, e, hb, hlt, hm, hl, hv, hp⟩ := Rw.at_ h hj
  match d, hp with
  | d' + 1, ⟨A1, n1, c1, A2, n2, c2, A3, n3, c3, A4, n4, c4, hvs, h0, h00, h1, h2, h3, h4⟩ =>
    subst hvs
    exact ⟨b, o, p, d', A1, n1, c1, A2, n2, c2, A3, n3, c3, A4, n4, c4, e, hb, hlt, hm, rfl, ⟨h0, h00⟩, ⟨hv 0 _ rfl, hv 1 _ rfl, hv 2 _ rfl, hv 3 _ rfl, hv 4 _ rfl, hv 5 _ rfl, hv 6 _ rfl⟩, h1, h2, h3, h4⟩
end
end Go.Proofs.Ythppdgiobflfpaa
/- Names: the project's test. -/
namespace Go.Proofs.Ythppdgiobflfpaa
set_option linter.unusedVariables false
open Go.RowKit

theorem data_at {s : ByteArray} {k : Nat} (h : k < s.size) : s.data.toList[k]? = some s[k] := by
  have hs : k < s.data.size := h
  rw [Array.getElem?_toList, Array.getElem?_eq_getElem hs]
  rfl
theorem data_len (s : ByteArray) : s.data.toList.length = s.size := by rw [Array.length_toList]; rfl

theorem okAt_of {k : Nat} {c : UInt8} (h : 97 ≤ c.toNat ∧ c.toNat ≤ 122 ∨ 0 < k ∧ (48 ≤ c.toNat ∧ c.toNat ≤ 57 ∨ c.toNat = 95)) : okAt k c = true := by
  simpa [okAt, lett, later] using h
theorem okAt_not {k : Nat} {c : UInt8} (h : ¬ (97 ≤ c.toNat ∧ c.toNat ≤ 122 ∨ 0 < k ∧ (48 ≤ c.toNat ∧ c.toNat ≤ 57 ∨ c.toNat = 95))) : okAt k c = false := by
  rw [← Bool.not_eq_true]
  intro h'
  exact h (by simpa [okAt, lett, later] using h')

/-- The places below k are those of a name. -/
def NameTo (l : List UInt8) (k : Nat) : Prop := ∀ j c, l[j]? = some c → j < k → okAt j c = true
theorem NameTo.step {l : List UInt8} {k : Nat} {c : UInt8} (h : NameTo l k) (hk : l[k]? = some c) (hb : okAt k c = true) : NameTo l (k + 1) := fun j d hj hjk => by
  by_cases e : j = k
  · subst e
    obtain rfl := Option.some.inj (hk.symm.trans hj)
    exact hb
  · exact h j d hj (by omega)
theorem NameTo.all {l : List UInt8} {n : Nat} (h : NameTo l n) (hn : l.length = n) : decide (Named l) = decide (1 ≤ n ∧ n ≤ 16) := by
  rw [decide_eq_decide]
  subst hn
  exact ⟨fun h => h.1, fun h1 => ⟨h1, fun j hj => h j _ (List.getElem?_eq_getElem hj) hj⟩⟩
theorem name_bad {l : List UInt8} {j : Nat} {c : UInt8} (h : l[j]? = some c) (hb : okAt j c = false) : decide (Named l) = false := by
  rw [decide_eq_false_iff_not]
  rintro ⟨_, ha⟩
  obtain ⟨hj, e⟩ := List.getElem?_eq_some_iff.1 h
  have := ha j hj
  rw [e, hb] at this
  cases this
theorem name_len {l : List UInt8} (h : l.length < 1 ∨ 16 < l.length) : decide (Named l) = false := by
  rw [decide_eq_false_iff_not]
  rintro ⟨h, _⟩
  omega

set_option maxHeartbeats 1600000 in
theorem name_any (s : ByteArray) (hs : s.size ≤ maxLen) (w : World) :
    Calls Try.prog 42 #[.string s] w fun e w' => e = .returned (.bool (decide (Named s.data.toList))) ∧ w' = w := by
  have hl := data_len s
  generalize hL : s.data.toList = l at *
  have HD : Hid (∀ k (h : k < s.size), l[k]? = some s[k]) := by
    show ∀ k (h : k < s.size), l[k]? = some s[k]
    subst hL; exact fun k h => data_at h
  have HL := Lib.hid hl
  unfold maxLen at hs
  clear hl hL
  by_cases h1 : s.size < 1
  · go_enter Try.func42, Try.ntmps42
    go_wp2_with fail
    go_ret
    exact ⟨ret_bool (name_len (by have := HL.out; omega)).symm, rfl⟩
  by_cases h2 : 16 < s.size
  · go_enter Try.func42, Try.ntmps42
    go_wp2_with fail
    go_ret
    exact ⟨ret_bool (name_len (by have := HL.out; omega)).symm, rfl⟩
  go_enter Try.func42, Try.ntmps42
  go_wp2_with fail
  go_loop [17] (fun i => ∃ k : Nat, k ≤ s.size ∧ i = .int .i64 k ∧ NameTo l k) (fun i => s.size - (intOf i).toNat)
  case atStart => exact ⟨0, Nat.zero_le _, rfl, fun j c h hj => by omega⟩
  case round =>
    obtain ⟨k, hk, rfl, ht⟩ := hrel
    have HT := Lib.hid ht
    clear ht
    by_cases hlt : k < s.size
    · have two : ∀ c : UInt8, ((c.toNat : Int) < 97 ∧ (c.toNat : Int) < 48 ∧ ((c.toNat : Int) == 95) = false) ∨ ((c.toNat : Int) < 97 ∧ (48 ≤ (c.toNat : Int) ∧ (c.toNat : Int) ≤ 57) ∧ ((c.toNat : Int) == 95) = false) ∨ ((c.toNat : Int) < 97 ∧ (48 ≤ (c.toNat : Int) ∧ 57 < (c.toNat : Int)) ∧ ((c.toNat : Int) == 95) = false) ∨
          ((c.toNat : Int) < 97 ∧ (48 ≤ (c.toNat : Int) ∧ 57 < (c.toNat : Int)) ∧ ((c.toNat : Int) == 95) = true) ∨ (122 < (c.toNat : Int) ∧ (48 ≤ (c.toNat : Int) ∧ 57 < (c.toNat : Int) ∧ 97 ≤ (c.toNat : Int)) ∧ ((c.toNat : Int) == 95) = false) ∨ ((97 ≤ (c.toNat : Int) ∧ (c.toNat : Int) ≤ 122) ∧ (48 ≤ (c.toNat : Int) ∧ 57 < (c.toNat : Int)) ∧ ((c.toNat : Int) == 95) = false) := fun c => by
        simp only [beq_iff_eq, beq_eq_false_iff_ne]; omega
      have hi : 0 ≤ (k : Int) ∧ (k : Int) < s.size := by omega
      have hc := HD.out k hlt
      rcases Nat.eq_zero_or_pos k with rfl | hpos
      · have two := two s[0]
        generalize hcc : s[0] = c at *
        have HC := Lib.hid hc
        clear hc
        rcases two with ⟨a, b, e⟩ | ⟨a, b, e⟩ | ⟨a, b, e⟩ | ⟨a, b, e⟩ | ⟨a, b, e⟩ | ⟨a, b, e⟩
        all_goals
          go_wp2_with fail
          all_goals simp only [beq_iff_eq, beq_eq_false_iff_ne] at e
          all_goals first
            | (exfalso; rename_i hh; revert hh; simp; omega)
            | (go_ret; exact ⟨ret_bool (name_bad HC.out (okAt_not (by omega))).symm, rfl⟩)
            | (go_round
               case rel => exact ⟨0 + 1, by omega, by go_num, HT.out.step HC.out (okAt_of (by omega))⟩
               case measure => simp [intOf]; omega)
      · have two := two s[k]
        generalize hcc : s[k] = c at *
        have HC := Lib.hid hc
        clear hc
        have hkn : ¬ k = 0 := by omega
        have hkz : ((k : Int) == 0) = false := by rw [beq_eq_false_iff_ne]; omega
        rcases two with ⟨a, b, e⟩ | ⟨a, b, e⟩ | ⟨a, b, e⟩ | ⟨a, b, e⟩ | ⟨a, b, e⟩ | ⟨a, b, e⟩
        all_goals
          go_wp2_with fail
          all_goals simp only [beq_iff_eq, beq_eq_false_iff_ne] at e
          all_goals first
            | (exfalso; rename_i hh; revert hh; simp; omega)
            | (go_ret; exact ⟨ret_bool (name_bad HC.out (okAt_not (by omega))).symm, rfl⟩)
            | (go_round
               case rel => exact ⟨k + 1, by omega, by go_num, HT.out.step HC.out (okAt_of (by omega))⟩
               case measure => simp [intOf]; omega)
    · obtain rfl : k = s.size := by omega
      go_wp2_with fail
      go_ret
      exact ⟨ret_bool ((HT.out.all HL.out).trans (decide_eq_true (by omega))).symm, rfl⟩

end Go.Proofs.Ythppdgiobflfpaa
/- Which values are right, the project's test and the reference's; the laws' helpers. -/
namespace Go.Proofs.Ythppdgiobflfpaa
set_option linter.unusedVariables false
open Go.RowKit

theorem rv1 {n : Int} {l : List UInt8} : RightV 1 n l ↔ l = [] ∧ (n = 0 ∨ n = 1) := by unfold RightV; simp
theorem rv2 {n : Int} {l : List UInt8} : RightV 2 n l ↔ l = [] := by unfold RightV; simp
theorem rv3 {n : Int} {l : List UInt8} : RightV 3 n l ↔ n = 0 ∧ l.length ≤ 64 := by unfold RightV; simp
theorem rv4 {n : Int} {l : List UInt8} : RightV 4 n l ↔ l = [] ∧ 0 ≤ n ∧ n ≤ 1099511627776 := by unfold RightV; simp
theorem rv5 {n : Int} {l : List UInt8} : RightV 5 n l ↔ n = 0 ∧ Named l := by unfold RightV; simp
theorem rv_none {k n : Int} {l : List UInt8} (h : k ≠ 1 ∧ k ≠ 2 ∧ k ≠ 3 ∧ k ≠ 4 ∧ k ≠ 5) : ¬ RightV k n l := by
  obtain ⟨h1, h2, h3, h4, h5⟩ := h
  unfold RightV; simp [h1, h2, h3, h4, h5]
theorem kind_cases (k : Int) : k = 1 ∨ k = 2 ∨ k = 3 ∨ k = 4 ∨ k = 5 ∨ (k ≠ 1 ∧ k ≠ 2 ∧ k ≠ 3 ∧ k ≠ 4 ∧ k ≠ 5) := by omega

set_option maxHeartbeats 3200000 in
theorem right_any (k n : Int) (s : ByteArray) (hs : s.size ≤ maxLen) (w : World) :
    Calls Try.prog 91 #[.agg #[.int .i64 k, .int .i64 n, .string s]] w fun e w' => e = .returned (.bool (decide (RightV k n s.data.toList))) ∧ Below w.heap.size w w' := by
  have hln := data_len s
  have hlt : s.toList = s.data.toList := ByteArray.toList_eq s
  have hname := name_any s hs
  generalize hL : s.data.toList = l at *
  have HN := Lib.hid hname
  have HL := Lib.hid hln
  clear hL hname hln
  unfold maxLen at hs
  rcases kind_cases k with rfl | rfl | rfl | rfl | rfl | hk
  · go_enter Try.func91, Try.ntmps91
    go_wp2_with fail
    all_goals
      go_ret
      refine ⟨ret_bool ?_, (Below.refl _ _).alloc (Nat.le_refl _) _⟩
      rw [Bool.eq_iff_iff]
      simp [rv1, *]
  · go_enter Try.func91, Try.ntmps91
    go_wp2_with fail
    all_goals
      go_ret
      refine ⟨ret_bool ?_, (Below.refl _ _).alloc (Nat.le_refl _) _⟩
      rw [Bool.eq_iff_iff]
      simp [rv2, *]
  · go_enter Try.func91, Try.ntmps91
    go_wp2_with fail
    all_goals
      go_ret
      refine ⟨ret_bool ?_, (Below.refl _ _).alloc (Nat.le_refl _) _⟩
      rw [Bool.eq_iff_iff]
      simp [rv3, HL.out, *] <;> omega
  · go_enter Try.func91, Try.ntmps91
    go_wp2_with fail
    all_goals
      go_ret
      refine ⟨ret_bool ?_, (Below.refl _ _).alloc (Nat.le_refl _) _⟩
      rw [Bool.eq_iff_iff]
      simp [rv4, *] <;> omega
  · go_enter Try.func91, Try.ntmps91
    go_wp2_with (go_at_call 42; refine (HN.out _).mono ?_; rintro e w1 ⟨rfl, rfl⟩)
    all_goals
      go_ret
      refine ⟨ret_bool ?_, (Below.refl _ _).alloc (Nat.le_refl _) _⟩
      rw [Bool.eq_iff_iff]
      simp [rv5, *]
  · have HK := Lib.hid hk
    go_enter Try.func91, Try.ntmps91
    go_wp2_with fail
    all_goals
      go_ret
      refine ⟨ret_bool ?_, (Below.refl _ _).alloc (Nat.le_refl _) _⟩
      exact (decide_eq_false (rv_none HK.out)).symm

end Go.Proofs.Ythppdgiobflfpaa
/- What a policy's smallest parts must be: attributes, matches, duties, counts (the project's). -/
namespace Go.Proofs.Ythppdgiobflfpaa
set_option linter.unusedVariables false
open Go.RowKit

set_option maxHeartbeats 800000 in
theorem attr_any (a : Atr) (hok : a.ok) (w : World) :
    Calls Try.prog 92 #[.agg #[.int .i64 a.cat, .string a.name, .bool a.must]] w fun e w' => e = .returned (.bool (attrB a)) ∧ Below w.heap.size w w' := by
  obtain ⟨k, s, m⟩ := a
  obtain ⟨hk, hs⟩ := hok
  simp only at hk hs ⊢
  have hname := name_any s hs
  have HN := Lib.hid hname
  have HE : Hid (attrB ⟨k, s, m⟩ = (decide (1 ≤ k) && decide (k ≤ 4) && decide (Named s.data.toList))) := rfl
  clear hname hk
  unfold maxLen at hs
  generalize attrB ⟨k, s, m⟩ = r at *
  go_enter Try.func92, Try.ntmps92
  go_wp2_with (go_at_call 42; refine (HN.out _).mono ?_; rintro e w1 ⟨rfl, rfl⟩)
  all_goals
    go_ret
    refine ⟨ret_bool ?_, (Below.refl _ _).alloc (Nat.le_refl _) _⟩
    rw [HE.out]
    simp [*] <;> (intros; omega)

theorem parts_any (n : Nat) (w : World) :
    Calls Try.prog 77 #[.int .i64 n] w fun e w' => e = .returned (.int .i64 (partsE n)) ∧ w' = w := by
  by_cases h0 : n = 0
  · subst h0
    go_enter Try.func77, Try.ntmps77
    go_wp2_with fail
    go_ret
    exact ⟨rfl, rfl⟩
  · have hz : ((n : Int) == 0) = false := by rw [beq_eq_false_iff_ne]; omega
    by_cases h8 : 8 < n
    · have hb : (8 : Int) < (n : Int) := by omega
      have H := Lib.hid (show partsE n = 6 by unfold partsE; simp [h0, h8])
      go_enter Try.func77, Try.ntmps77
      go_wp2_with fail
      go_ret
      exact ⟨ret_int H.out.symm, rfl⟩
    · have hb : ¬ (8 : Int) < (n : Int) := by omega
      have H := Lib.hid (show partsE n = 0 by unfold partsE; simp [h0, h8])
      go_enter Try.func77, Try.ntmps77
      go_wp2_with fail
      go_ret
      exact ⟨ret_int H.out.symm, rfl⟩

set_option maxHeartbeats 800000 in
theorem match_any (m : Mat) (hok : m.ok) (w : World) :
    Calls Try.prog 89 #[.agg #[.int .i64 m.a.cat, .string m.a.name, .bool m.a.must, .int .i64 m.op, .int .i64 m.v.k, .int .i64 m.v.n, .string m.v.s]] w fun e w' => e = .returned (.int .i64 (matE m)) ∧ Below w.heap.size w w' := by
  obtain ⟨a, op, v⟩ := m
  obtain ⟨ha, hop, hv⟩ := hok
  simp only at ha hop hv ⊢
  have HA := Lib.hid (attr_any a ha)
  have HV := Lib.hid (right_any v.k v.n v.s hv.2.2)
  have HE : Hid (matE ⟨a, op, v⟩ = if attrB a = true ∧ 1 ≤ op ∧ op ≤ 3 ∧ decide (RightV v.k v.n v.s.data.toList) = true then 0 else 1) := by
    show matE ⟨a, op, v⟩ = _
    simp only [decide_eq_true_eq]
    rfl
  generalize matE ⟨a, op, v⟩ = r at *
  obtain ⟨c, nm, mu⟩ := a
  obtain ⟨k, n, s⟩ := v
  simp only at HA HV HE ⊢
  clear ha hop hv
  generalize hab : attrB ⟨c, nm, mu⟩ = ab at *
  generalize hrb : decide (RightV k n s.data.toList) = rb at *
  clear hab hrb
  go_enter Try.func89, Try.ntmps89
  go_wp2_with (first
    | (go_at_call 92; refine (HA.out _).mono ?_; rintro e w1 ⟨rfl, hb1⟩; have B1 := Lib.hid (Below.lit hb1); have C1 := Lib.hid (Ob.below (Ob.made _ _ _) hb1 (by simp)); have c1 := C1.out.cell 3; have c2 := C1.out.cell 4; have c3 := C1.out.cell 5; have c4 := C1.out.cell 6)
    | (go_at_call 91; refine (HV.out _).mono ?_; rintro e w2 ⟨rfl, hb2⟩; have B2 := Lib.hid hb2))
  all_goals
    go_ret
    refine ⟨ret_int ?_, by first | exact below_step B1.out B2.out | exact B1.out⟩
    rw [HE.out]
    clear HA HV HE
    cases rb <;> split <;> first | rfl | (exfalso; simp_all; done) | (exfalso; simp_all; omega)

set_option maxHeartbeats 800000 in
theorem duty_any (o : Dut) (hok : o.ok) (w : World) :
    Calls Try.prog 72 #[.agg #[.int .i64 o.on, .int .i64 o.kind, .string o.arg]] w fun e w' => e = .returned (.int .i64 (dutE o)) ∧ Below w.heap.size w w' := by
  obtain ⟨on, k, s⟩ := o
  obtain ⟨ho, hk, hs⟩ := hok
  simp only at ho hk hs ⊢
  have HN := Lib.hid (name_any s hs)
  have HE : Hid (dutE ⟨on, k, s⟩ = if (on = 1 ∨ on = 2) ∧ 1 ≤ k ∧ k ≤ 4 ∧ decide (Named s.data.toList) = true then 0 else 1) := by
    show dutE ⟨on, k, s⟩ = _
    simp only [decide_eq_true_eq]
    rfl
  generalize dutE ⟨on, k, s⟩ = r at *
  generalize hrb : decide (Named s.data.toList) = rb at *
  clear ho hk hrb
  unfold maxLen at hs
  go_enter Try.func72, Try.ntmps72
  go_wp2_with (go_at_call 42; refine (HN.out _).mono ?_; rintro e w1 ⟨rfl, rfl⟩)
  all_goals
    go_ret
    refine ⟨ret_int ?_, (Below.refl _ _).alloc (Nat.le_refl _) _⟩
    rw [HE.out]
    clear HN HE
    cases rb <;> split <;> first | rfl | (exfalso; simp_all; done) | (exfalso; simp_all; omega)
end Go.Proofs.Ythppdgiobflfpaa
/- strings.CutSuffix, over the texts of bags and values that an expression's nodes leave. -/
namespace Go.Proofs.Ythppdgiobflfpaa
set_option linter.unusedVariables false
open Go.RowKit

/-- What is left ahead, as the project writes it: the last one at its end. -/
def ch (b : Bool) : UInt8 := if b = true then 98 else 118
def lf (st : List Bool) : ByteArray := ⟨(st.reverse.map ch).toArray⟩
theorem lf_bl (st : List Bool) : bl (lf st) = st.reverse.map ch := by simp [bl, lf]
theorem lf_size (st : List Bool) : (lf st).size = st.length := by show (st.reverse.map ch).toArray.size = _; simp
theorem ch_inj {a b : Bool} (h : ch a = ch b) : a = b := by cases a <;> cases b <;> simp_all [ch]
theorem map_ch_inj : ∀ {a b : List Bool}, a.map ch = b.map ch → a = b
  | [], [], _ => rfl
  | [], _ :: _, h => by simp at h
  | _ :: _, [], h => by simp at h
  | x :: a, y :: b, h => by
    simp only [List.map_cons, List.cons.injEq] at h
    rw [ch_inj h.1, map_ch_inj h.2]
theorem lf_inj {a b : List Bool} (h : lf a = lf b) : a = b := by
  have := congrArg bl h
  rw [lf_bl, lf_bl] at this
  have := map_ch_inj this
  simpa using congrArg List.reverse this
theorem bl_extract (s : ByteArray) (i j : Nat) : bl (s.extract i j) = ((bl s).drop i).take (j - i) := by
  show (s.extract i j).data.toList = (s.data.toList.drop i).take (j - i)
  rw [ByteArray.data_extract]
  simp [List.extract_eq_take_drop]
theorem lf_tail (st : List Bool) (m : Nat) (h : m ≤ st.length) : (lf st).extract (st.length - m) st.length = lf (st.take m) := by
  apply text_eq
  rw [bl_extract, lf_bl, lf_bl, ← List.map_drop, ← List.map_take, List.drop_reverse]
  congr 1
  rw [List.take_of_length_le (by simp)]
  congr 2
  omega
theorem lf_head (st : List Bool) (m : Nat) (h : m ≤ st.length) : (lf st).extract 0 (st.length - m) = lf (st.drop m) := by
  apply text_eq
  rw [bl_extract, lf_bl, lf_bl, List.drop_zero, Nat.sub_zero, ← List.map_take, List.take_reverse]
  congr 3
  omega
theorem lf_push (st : List Bool) (b : Bool) : lf st ++ lf [b] = lf (b :: st) := by
  apply text_eq
  show (lf st ++ lf [b]).data.toList = _
  rw [ByteArray.data_append]
  simp [lf, bl]
theorem lf_nil : lf [] = ⟨#[]⟩ := rfl

theorem hasP_eq {p st : List Bool} (h : p.length ≤ st.length) : ((lf st).extract (st.length - p.length) st.length = lf p) = (hasP p st = true) := by
  rw [lf_tail st _ h]
  unfold hasP
  rw [decide_eq_true_eq, eq_iff_iff]
  exact ⟨fun e => lf_inj e, fun e => by rw [e]⟩
theorem hasP_short {p st : List Bool} (h : ¬ p.length ≤ st.length) : hasP p st = false := by
  unfold hasP
  rw [decide_eq_false_iff_not]
  intro e
  have := congrArg List.length e
  rw [List.length_take] at this
  omega

set_option maxHeartbeats 800000 in
theorem suffix_any (s t : ByteArray) (hs : s.size ≤ maxLen) (ht : t.size ≤ maxLen) (w : World) :
    Calls Try.prog 94 #[.string s, .string t] w fun e w' => e = .returned (.bool (decide (t.size ≤ s.size) && decide (s.extract (s.size - t.size) s.size = t))) ∧ w' = w := by
  unfold maxLen at hs ht
  by_cases h : t.size ≤ s.size
  · obtain ⟨k, hk⟩ : ∃ k, k = s.size - t.size := ⟨_, rfl⟩
    have e1 : (s.size : Int) - (t.size : Int) = (k : Int) := by omega
    have e2 : k ≤ s.size := by omega
    go_enter Try.func94, Try.ntmps94
    go_wp2_with fail
    go_ret
    refine ⟨ret_bool ?_, rfl⟩
    rw [decide_eq_true h, Bool.true_and, Bool.eq_iff_iff, beq_iff_eq, decide_eq_true_eq, ByteArray.toList_eq, ByteArray.toList_eq]
    exact ⟨fun e => text_eq e, fun e => by rw [e]⟩
  · go_enter Try.func94, Try.ntmps94
    go_wp2_with fail
    go_ret
    exact ⟨ret_bool (by rw [decide_eq_false h]; rfl), rfl⟩

theorem suffix_lf (st p : List Bool) (hs : st.length ≤ 1000) (hp : p.length ≤ 1000) (w : World) :
    Calls Try.prog 94 #[.string (lf st), .string (lf p)] w fun e w' => e = .returned (.bool (hasP p st)) ∧ w' = w := by
  refine (suffix_any _ _ (by rw [lf_size]; simp [maxLen]; omega) (by rw [lf_size]; simp [maxLen]; omega) w).mono ?_
  rintro e w' ⟨rfl, rfl⟩
  refine ⟨ret_bool ?_, rfl⟩
  rw [lf_size, lf_size]
  by_cases h : p.length ≤ st.length
  · rw [decide_eq_true h, Bool.true_and, Bool.eq_iff_iff, decide_eq_true_eq, hasP_eq h]
  · rw [decide_eq_false h, hasP_short h]; rfl

set_option maxHeartbeats 800000 in
theorem cut0_any (st p : List Bool) (hs : st.length ≤ 1000) (hp : p.length ≤ 1000) (w : World) :
    Calls Try.prog 90 #[.string (lf st), .string (lf p)] w fun e w' => e = .returned (.tuple #[.string (if hasP p st = true then lf (st.drop p.length) else lf st), .bool (hasP p st)]) ∧ w' = w := by
  have HS := Lib.hid (suffix_lf st p hs hp)
  have z1 := lf_size st
  have z2 := lf_size p
  by_cases h : hasP p st = true
  · have hl : p.length ≤ st.length := by
      rcases Nat.lt_or_ge st.length p.length with hlt | hge
      · rw [hasP_short (by omega)] at h; cases h
      · exact hge
    have hh := lf_head st p.length hl
    have HH := Lib.hid hh
    clear hh
    rw [h] at HS ⊢
    generalize lf st = s at *
    generalize lf p = t at *
    have e1 : (s.size : Int) - (t.size : Int) = ((st.length - p.length : Nat) : Int) := by omega
    have e2 : st.length - p.length ≤ s.size := by omega
    have ez : s.size - t.size = st.length - p.length := by omega
    have e3 : s.size ≤ 1000 := by omega
    have e4 : t.size ≤ s.size := by omega
    have HZ := Lib.hid ez
    clear z1 z2 h e1 e2 hl hs hp ez
    go_enter Try.func90, Try.ntmps90
    go_wp2_with (go_at_call 94; refine (HS.out _).mono ?_; rintro e w1 ⟨rfl, rfl⟩)
    go_ret2
    exact ⟨by rw [HZ.out, HH.out]; rfl, rfl⟩
  · rw [Bool.not_eq_true] at h
    rw [h] at HS ⊢
    generalize lf st = s at *
    generalize lf p = t at *
    clear z1 z2 h hs hp
    go_enter Try.func90, Try.ntmps90
    go_wp2_with (go_at_call 94; refine (HS.out _).mono ?_; rintro e w1 ⟨rfl, rfl⟩)
    go_ret2
    exact ⟨rfl, rfl⟩

theorem cut_any (st p : List Bool) (hs : st.length ≤ 1000) (hp : p.length ≤ 1000) (w : World) :
    Calls Try.prog 81 #[.string (lf st), .string (lf p)] w fun e w' => e = .returned (.tuple #[.string (if hasP p st = true then lf (st.drop p.length) else lf st), .bool (hasP p st)]) ∧ w' = w := by
  have HS := Lib.hid (cut0_any st p hs hp)
  generalize lf st = s at *
  generalize lf p = t at *
  generalize (if hasP p st = true then lf (st.drop p.length) else s) = u at *
  generalize hasP p st = b at *
  clear hs hp
  go_enter Try.func81, Try.ntmps81
  go_wp2_with (go_at_call 90; refine (HS.out _).mono ?_; rintro e w1 ⟨rfl, rfl⟩)
  go_ret2
  exact ⟨rfl, rfl⟩
end Go.Proofs.Ythppdgiobflfpaa
/- Values held against each other by ==. -/
namespace Go.Proofs.Ythppdgiobflfpaa
set_option linter.unusedVariables false
open Go.RowKit

/-- Are two values the same? -/
def veq (a b : Vl) : Bool := decide (a = b)
theorem veq_true {a b : Vl} (h : a = b) : veq a b = true := decide_eq_true h
theorem veq_false {a b : Vl} (h : a ≠ b) : veq a b = false := decide_eq_false h
theorem veq_iff {a b : Vl} : veq a b = true ↔ a = b := decide_eq_true_iff

theorem val_eq (k n k' n' : Int) (s s' : ByteArray) (w : World) :
    (Op.equalIn 10000 35 (.agg #[.int .i64 k, .int .i64 n, .string s]) (.agg #[.int .i64 k', .int .i64 n', .string s'])).run Try.prog w = .ok (veq ⟨k, n, s⟩ ⟨k', n', s'⟩) w := by
  have u3 := Try.underlying3
  have a3 := Try.isAgg3
  have z3 := Try.sizeOf3
  have u9 := Try.underlying9
  have a9 := Try.isAgg9
  have z9 := Try.sizeOf9
  have hS : Try.prog.underlying 35 = some (.struct (Try.prog.fieldsOf 35)) := by kernel_rfl
  have hp : Try.prog.stoodInHeld 35 = false := by kernel_rfl
  rw [show (10000 : Nat) = 9999 + 1 from rfl, run_equalIn_agg w 9999 35 _ _ hS hp]
  simp only [Program.fieldsOf, Try.underlying35]
  go_simp
  have hts : (s.toList = s'.toList) = (s = s') := propext ⟨fun c => by
    have h : s.data.toList = s'.data.toList := by rw [← ByteArray.toList_eq, ← ByteArray.toList_eq]; exact c
    obtain ⟨⟨x⟩⟩ := s
    obtain ⟨⟨y⟩⟩ := s'
    simp_all, fun h => by rw [h]⟩
  simp only [hts]
  unfold veq
  by_cases h1 : k = k' <;> by_cases h2 : n = n' <;> by_cases h3 : s = s' <;> simp [h1, h2, h3]
end Go.Proofs.Ythppdgiobflfpaa
/- Attributes, nodes, matches, duties held against each other by ==. -/
namespace Go.Proofs.Ythppdgiobflfpaa
set_option linter.unusedVariables false
open Go.RowKit

theorem text_same (s s' : ByteArray) : (s.toList = s'.toList) = (s = s') := propext ⟨fun c => text_eq (by show s.data.toList = s'.data.toList; rw [← ByteArray.toList_eq, ← ByteArray.toList_eq]; exact c), fun h => by rw [h]⟩

theorem vl_ext {a b : Vl} (h1 : a.k = b.k) (h2 : a.n = b.n) (h3 : a.s = b.s) : a = b := by cases a; cases b; simp_all
theorem attr_eq (k k' : Int) (s s' : ByteArray) (m m' : Bool) (w : World) :
    (Op.equalIn 10000 33 (.agg #[.int .i64 k, .string s, .bool m]) (.agg #[.int .i64 k', .string s', .bool m'])).run Try.prog w = .ok (decide ((⟨k, s, m⟩ : Atr) = ⟨k', s', m'⟩)) w := by
  have u3 := Try.underlying3
  have a3 := Try.isAgg3
  have z3 := Try.sizeOf3
  have u9 := Try.underlying9
  have a9 := Try.isAgg9
  have z9 := Try.sizeOf9
  have u4 := Try.underlying4
  have a4 := Try.isAgg4
  have z4 := Try.sizeOf4
  have hS : Try.prog.underlying 33 = some (.struct (Try.prog.fieldsOf 33)) := by kernel_rfl
  have hp : Try.prog.stoodInHeld 33 = false := by kernel_rfl
  rw [show (10000 : Nat) = 9999 + 1 from rfl, run_equalIn_agg w 9999 33 _ _ hS hp]
  simp only [Program.fieldsOf, Try.underlying33]
  go_simp
  simp only [text_same]
  by_cases h1 : k = k' <;> by_cases h2 : s = s' <;> by_cases h3 : m = m' <;> simp [h1, h2, h3]

set_option maxRecDepth 100000 in
set_option maxHeartbeats 800000 in
theorem nod_eq (a b : Nod) (w : World) : (Op.equalIn 10000 37 (.agg #[.int .i64 a.op, .int .i64 a.v.k, .int .i64 a.v.n, .string a.v.s, .int .i64 a.a.cat, .string a.a.name, .bool a.a.must]) (.agg #[.int .i64 b.op, .int .i64 b.v.k, .int .i64 b.v.n, .string b.v.s, .int .i64 b.a.cat, .string b.a.name, .bool b.a.must])).run Try.prog w = .ok (decide (a = b)) w := by
  have u3 := Try.underlying3
  have a3 := Try.isAgg3
  have z3 := Try.sizeOf3
  have u9 := Try.underlying9
  have a9 := Try.isAgg9
  have z9 := Try.sizeOf9
  have u4 := Try.underlying4
  have a4 := Try.isAgg4
  have z4 := Try.sizeOf4
  have hS : Try.prog.underlying 37 = some (.struct (Try.prog.fieldsOf 37)) := by kernel_rfl
  have hp : Try.prog.stoodInHeld 37 = false := by kernel_rfl
  rw [show (10000 : Nat) = 9999 + 1 from rfl, run_equalIn_agg w 9999 37 _ _ hS hp]
  simp only [Program.fieldsOf, Try.underlying37]
  go_simp
  simp only [text_same]
  repeat' split
  all_goals first
    | (rw [decide_eq_true]; exact Nod.ext' (by assumption) (vl_ext (by assumption) (by assumption) (by assumption)) (Atr.ext' (by assumption) (by assumption) (by assumption)))
    | (rw [decide_eq_false]; rintro rfl; rename_i hne; exact hne rfl)

set_option maxRecDepth 100000 in
set_option maxHeartbeats 800000 in
theorem mat_eq (a b : Mat) (w : World) : (Op.equalIn 10000 54 (.agg #[.int .i64 a.a.cat, .string a.a.name, .bool a.a.must, .int .i64 a.op, .int .i64 a.v.k, .int .i64 a.v.n, .string a.v.s]) (.agg #[.int .i64 b.a.cat, .string b.a.name, .bool b.a.must, .int .i64 b.op, .int .i64 b.v.k, .int .i64 b.v.n, .string b.v.s])).run Try.prog w = .ok (decide (a = b)) w := by
  have u3 := Try.underlying3
  have a3 := Try.isAgg3
  have z3 := Try.sizeOf3
  have u9 := Try.underlying9
  have a9 := Try.isAgg9
  have z9 := Try.sizeOf9
  have u4 := Try.underlying4
  have a4 := Try.isAgg4
  have z4 := Try.sizeOf4
  have hS : Try.prog.underlying 54 = some (.struct (Try.prog.fieldsOf 54)) := by kernel_rfl
  have hp : Try.prog.stoodInHeld 54 = false := by kernel_rfl
  rw [show (10000 : Nat) = 9999 + 1 from rfl, run_equalIn_agg w 9999 54 _ _ hS hp]
  simp only [Program.fieldsOf, Try.underlying54]
  go_simp
  simp only [text_same]
  repeat' split
  all_goals first
    | (rw [decide_eq_true]; exact Mat.ext' (Atr.ext' (by assumption) (by assumption) (by assumption)) (by assumption) (vl_ext (by assumption) (by assumption) (by assumption)))
    | (rw [decide_eq_false]; rintro rfl; rename_i hne; exact hne rfl)

set_option maxRecDepth 100000 in
set_option maxHeartbeats 800000 in
theorem dut_eq (a b : Dut) (w : World) : (Op.equalIn 10000 56 (.agg #[.int .i64 a.on, .int .i64 a.kind, .string a.arg]) (.agg #[.int .i64 b.on, .int .i64 b.kind, .string b.arg])).run Try.prog w = .ok (decide (a = b)) w := by
  have u3 := Try.underlying3
  have a3 := Try.isAgg3
  have z3 := Try.sizeOf3
  have u9 := Try.underlying9
  have a9 := Try.isAgg9
  have z9 := Try.sizeOf9
  have u4 := Try.underlying4
  have a4 := Try.isAgg4
  have z4 := Try.sizeOf4
  have hS : Try.prog.underlying 56 = some (.struct (Try.prog.fieldsOf 56)) := by kernel_rfl
  have hp : Try.prog.stoodInHeld 56 = false := by kernel_rfl
  rw [show (10000 : Nat) = 9999 + 1 from rfl, run_equalIn_agg w 9999 56 _ _ hS hp]
  simp only [Program.fieldsOf, Try.underlying56]
  go_simp
  simp only [text_same]
  repeat' split
  all_goals first
    | (rw [decide_eq_true]; exact Dut.ext' (by assumption) (by assumption) (by assumption))
    | (rw [decide_eq_false]; rintro rfl; rename_i hne; exact hne rfl)

end Go.Proofs.Ythppdgiobflfpaa
/- What a node is of, what it makes, and what it may have beside its Op. -/
namespace Go.Proofs.Ythppdgiobflfpaa
set_option linter.unusedVariables false
open Go.RowKit

def ofT (op : Int) : ByteArray := lf ((patX op).getD [])
def makesT (op : Int) : ByteArray := match patX op with | none => lf [] | some _ => lf [makesX op]
set_option maxHeartbeats 1600000 in
theorem shape_any (op : Int) (w : World) :
    Calls Try.prog 80 #[.int .i64 op] w fun e w' => e = .returned (.tuple #[.string (ofT op), .string (makesT op)]) ∧ w' = w := by
  rcases ops_cases op with rfl | rfl | rfl | rfl | rfl | rfl | rfl | rfl | rfl | rfl | rfl | rfl | rfl | h
  case inr.inr.inr.inr.inr.inr.inr.inr.inr.inr.inr.inr.inr =>
    have HE : Hid (ofT op = ⟨#[]⟩ ∧ makesT op = ⟨#[]⟩) := by
      show ofT op = ⟨#[]⟩ ∧ makesT op = ⟨#[]⟩
      obtain ⟨h1, h2, h3, h4, h5, h6, h7, h8, h9, h10, h11, h12, h13⟩ := h
      have : patX op = none := by simp [patX, h1, h2, h3, h4, h5, h6, h7, h8, h9, h10, h11, h12, h13]
      unfold ofT makesT
      rw [this]
      exact ⟨rfl, rfl⟩
    simp only [ne_eq, ← beq_eq_false_iff_ne] at h
    obtain ⟨h1, h2, h3, h4, h5, h6, h7, h8, h9, h10, h11, h12, h13⟩ := h
    go_enter Try.func80, Try.ntmps80
    go_wp2_with fail
    go_ret2
    exact ⟨by rw [HE.out.1, HE.out.2]; rfl, rfl⟩
  all_goals
    go_enter Try.func80, Try.ntmps80
    go_wp2_with fail
    go_ret2
    exact ⟨rfl, rfl⟩

theorem empty_iff (s : ByteArray) : (s = ByteArray.empty) = (s.toList = []) := propext ⟨fun h => by rw [h, ByteArray.toList_eq]; rfl, fun h => text_eq (by show s.data.toList = []; rw [← ByteArray.toList_eq]; exact h)⟩
theorem zeroA_iff (c : Int) (nm : ByteArray) (mu : Bool) : decide ((⟨c, nm, mu⟩ : Atr) = zeroA) = (decide (c = 0) && decide (nm.toList = []) && decide (mu = false)) := by
  rw [Bool.eq_iff_iff]
  simp only [Bool.and_eq_true, decide_eq_true_eq, ← empty_iff, zeroA, Atr.mk.injEq, and_assoc]
theorem zeroV_iff (k n : Int) (s : ByteArray) : decide ((⟨k, n, s⟩ : Vl) = zeroV) = (decide (k = 0) && decide (n = 0) && decide (s.toList = [])) := by
  rw [Bool.eq_iff_iff]
  simp only [Bool.and_eq_true, decide_eq_true_eq, ← empty_iff, zeroV, Vl.mk.injEq, and_assoc]

set_option maxHeartbeats 1600000 in
theorem holds_any (x : Nod) (hok : x.ok) (w : World) :
    Calls Try.prog 82 #[.agg #[.int .i64 x.op, .int .i64 x.v.k, .int .i64 x.v.n, .string x.v.s, .int .i64 x.a.cat, .string x.a.name, .bool x.a.must]] w fun e w' => e = .returned (.bool (holdsB x)) ∧ Below w.heap.size w w' := by
  obtain ⟨op, ⟨k, n, s⟩, ⟨c, nm, mu⟩⟩ := x
  obtain ⟨hop, hv, ha⟩ := hok
  simp only at hop hv ha ⊢
  have HV := Lib.hid (right_any k n s hv.2.2)
  have HA := Lib.hid (attr_any ⟨c, nm, mu⟩ ha)
  have HE : Hid (holdsB ⟨op, ⟨k, n, s⟩, ⟨c, nm, mu⟩⟩ = if op = 1 then decide (RightV k n s.data.toList) && (decide (c = 0) && decide (nm.toList = []) && decide (mu = false)) else if op = 2 then (decide (k = 0) && decide (n = 0) && decide (s.toList = [])) && attrB ⟨c, nm, mu⟩
      else (decide (k = 0) && decide (n = 0) && decide (s.toList = [])) && (decide (c = 0) && decide (nm.toList = []) && decide (mu = false))) := by
    rw [← zeroA_iff, ← zeroV_iff]; exact rfl
  clear hop hv ha
  generalize decide (RightV k n s.data.toList) = rv at *
  generalize attrB ⟨c, nm, mu⟩ = ab at *
  generalize holdsB ⟨op, ⟨k, n, s⟩, ⟨c, nm, mu⟩⟩ = r at *
  have two : op = 1 ∨ op = 2 ∨ ((op == 1) = false ∧ (op == 2) = false) := by simp only [beq_eq_false_iff_ne]; omega
  rcases two with rfl | rfl | ⟨t1, t2⟩
  · go_enter Try.func82, Try.ntmps82
    go_wp2_with (first
      | (go_at_call 91; refine (HV.out _).mono ?_; rintro e w1 ⟨rfl, hb1⟩; have B1 := Lib.hid (Below.lit hb1); have C1 := Lib.hid (Ob.below (Ob.made _ _ _) hb1 (by simp)); have c4 := C1.out.cell 4; have c5 := C1.out.cell 5; have c6 := C1.out.cell 6))
    all_goals
      go_ret
      refine ⟨ret_bool ?_, B1.out⟩
      rw [HE.out]
      clear HA HV HE B1 C1
      simp_all
  · go_enter Try.func82, Try.ntmps82
    go_wp2_with (first
      | (go_at_call 92; refine (HA.out _).mono ?_; rintro e w1 ⟨rfl, hb1⟩; have B1 := Lib.hid (Below.lit hb1)))
    all_goals
      go_ret
      refine ⟨ret_bool ?_, by first | exact B1.out | exact (Below.refl _ _).alloc (Nat.le_refl _) _⟩
      rw [HE.out]
      clear HA HV HE
      simp_all
  · have HT : Hid (op ≠ 1 ∧ op ≠ 2) := ⟨by simpa using t1, by simpa using t2⟩
    go_enter Try.func82, Try.ntmps82
    go_wp2_with fail
    all_goals
      go_ret
      refine ⟨ret_bool ?_, (Below.refl _ _).alloc (Nat.le_refl _) _⟩
      have ht := HT.out
      rw [HE.out]
      clear HA HV HE HT
      simp_all
end Go.Proofs.Ythppdgiobflfpaa
/- Expressions: the project's. -/
namespace Go.Proofs.Ythppdgiobflfpaa
set_option linter.unusedVariables false
open Go.RowKit

theorem runX_app : ∀ (l m : List Nod) (st : List Bool), runX (l ++ m) st = (match runX l st with | some st' => runX m st' | none => none)
  | [], m, st => rfl
  | x :: l, m, st => by
    simp only [List.cons_append, runX]
    cases stepX x st with
    | none => rfl
    | some st' => exact runX_app l m st'
/-- So far. -/
def RunTo (l : List Nod) (k : Nat) (st : List Bool) : Prop := runX (l.take k) [] = some st
theorem RunTo.zero (l : List Nod) : RunTo l 0 [] := rfl
theorem take_next {α : Type} {l : List α} {k : Nat} {x : α} (h : l[k]? = some x) : l.take (k + 1) = l.take k ++ [x] := by
  obtain ⟨hk, rfl⟩ := List.getElem?_eq_some_iff.1 h
  exact List.take_succ_eq_append_getElem hk
theorem RunTo.step {l : List Nod} {k : Nat} {st st' : List Bool} {x : Nod} (h : RunTo l k st) (hx : l[k]? = some x) (hs : stepX x st = some st') : RunTo l (k + 1) st' := by
  unfold RunTo at h ⊢
  rw [take_next hx, runX_app, h]
  simp only [runX, hs]
theorem RunTo.err {l : List Nod} {k : Nat} {st : List Bool} {x : Nod} (h : RunTo l k st) (hx : l[k]? = some x) (hs : stepX x st = none) : runX l [] = none := by
  rw [← List.take_append_drop (k + 1) l, runX_app, take_next hx, runX_app, h]
  simp only [runX, hs]
theorem RunTo.all {l : List Nod} {n : Nat} {st : List Bool} (h : RunTo l n st) (hn : l.length = n) : runX l [] = some st := by
  unfold RunTo at h
  rwa [List.take_of_length_le (by omega)] at h
theorem expr_err {l : List Nod} (hl : l.length ≤ 32) (h : runX l [] = none) : exprE l = 1 := by
  unfold exprE
  rw [if_neg (by omega), h]
theorem expr_end {l : List Nod} {st : List Bool} (hl : l.length ≤ 32) (h : runX l [] = some st) : exprE l = if l = [] ∨ st = [false] then 0 else 1 := by
  unfold exprE
  rw [if_neg (by omega), h]

set_option maxHeartbeats 1600000 in
theorem expr_any {R : Nat → Prop} {A : Option Addr} {n c : Nat} {l : List Nod} (w : World) (h : Nds w R A n c l) :
    Calls Try.prog 73 #[.slice A n c] w fun e w' => e = .returned (.int .i64 (exprE l)) ∧ Below w.heap.size w w' := by
  have hle := Rw.le h
  have hcap := Rw.cap h
  have HL := Lib.hid (Rw.len h)
  unfold maxLen at hcap
  have H := Lib.hid h
  clear h
  by_cases h32 : 32 < n
  · have HE : Hid (exprE l = 6) := by
      show exprE l = _
      unfold exprE
      rw [HL.out, if_pos h32]
    have hb : (32 : Int) < (n : Int) := by omega
    go_enter Try.func73, Try.ntmps73
    go_wp2_with fail
    go_ret
    exact ⟨ret_int HE.out.symm, Below.refl _ _⟩
  have hb : ¬ (32 : Int) < (n : Int) := by omega
  go_enter Try.func73, Try.ntmps73
  go_wp2
  go_loopw [3, 15] (fun s i wr => ∃ (k : Nat) (st : List Bool), k ≤ n ∧ i = .int .i64 k ∧ s = .string (lf st) ∧ st.length ≤ k ∧ RunTo l k st ∧ Below w.heap.size w wr) (fun _ i _ => n - (intOf i).toNat)
  case atStart => exact ⟨0, [], Nat.zero_le _, rfl, rfl, Nat.le_refl _, RunTo.zero _, Below.refl _ _⟩
  case round =>
    obtain ⟨k, st, hk, rfl, rfl, hst, hf, hb⟩ := hrel
    have HF := Lib.hid hf
    have HB := Lib.hid hb
    clear hf hb
    by_cases hlt : k < n
    · obtain ⟨b, o, x, rfl, hRb, hbl, hx, hok, c0, c1, c2, c3, c4, c5, c6⟩ := (H.out.keep (Kept.all HB.out R) (fun _ h _ => h)).at_ hlt
      have HX := Lib.hid hx
      have hsh := fun W => shape_any x.op W
      have hho := fun W => holds_any x hok W
      have HS : Hid (stepX x st = if holdsB x = true then popX x.op st else none) := rfl
      rw [popX_pat] at HS
      obtain ⟨op, ⟨kx, nx, sx⟩, ⟨cx, mx, ux⟩⟩ := x
      simp only at c0 c1 c2 c3 c4 c5 c6 hsh hho HS
      have HHO := Lib.hid hho
      have hl32 := HL.out
      have hst' : st.length ≤ 1000 := by omega
      have HK := Lib.hid hst
      clear hok hho hx hst
      unfold ofT makesT at hsh
      cases hpat : patX op with
      | none =>
        rw [hpat] at hsh HS
        have hcut := fun W => cut_any st [] hst' (by simp) W
        simp only [Option.getD_none, hasP, List.take_zero, List.length_nil, decide_true, if_true, List.drop_zero, lf_nil] at hsh hcut
        have HSH := Lib.hid hsh
        have HCUT := Lib.hid hcut
        have HERR : Hid (exprE l = 1) := expr_err (by omega) (HF.out.err HX.out (by rw [HS.out]; simp))
        clear hsh hcut hpat HS hl32 hst'
        generalize lf st = ls at *
        go_wp2_with (first
          | (go_at_call 80; refine (HSH.out _).mono ?_; rintro e w1 ⟨rfl, rfl⟩)
          | (go_at_call 81; refine (HCUT.out _).mono ?_; rintro e w2 ⟨rfl, rfl⟩))
        go_ret
        exact ⟨ret_int HERR.out.symm, HB.out.alloc HB.out.size _⟩
      | some p =>
        rw [hpat] at hsh HS
        have hcut := fun W => cut_any st p hst' (by have := patX_len hpat; omega) W
        simp only [Option.getD_some] at hsh hcut HS
        by_cases hpp : hasP p st = true
        · simp only [hpp, if_true] at hcut HS
          obtain ⟨d, hd⟩ : ∃ d, d = st.drop p.length := ⟨_, rfl⟩
          have hdl : d.length ≤ st.length := by rw [hd, List.length_drop]; omega
          rw [← hd] at hcut HS
          obtain ⟨hb, hhb⟩ : ∃ hb, hb = holdsB ⟨op, ⟨kx, nx, sx⟩, ⟨cx, mx, ux⟩⟩ := ⟨_, rfl⟩
          rw [← hhb] at HHO HS
          have hpush := lf_push d (makesX op)
          have hds := lf_size d
          have HSH := Lib.hid hsh
          have HCUT := Lib.hid hcut
          have hx1 : (9223372036854775807 < (lf d).size + 1) = False := eq_false (by have := HK.out; omega)
          have HD : Hid ((makesX op :: d).length ≤ k + 1) := by
            show (makesX op :: d).length ≤ k + 1
            have := HK.out
            rw [List.length_cons]
            omega
          clear hsh hcut hpat hl32 hst' hpp hd hdl hhb hds
          obtain ⟨mb, hmb⟩ : ∃ mb, mb = makesX op := ⟨_, rfl⟩
          rw [← hmb] at HSH hpush HS HD
          have HP := Lib.hid hpush
          clear hmb hpush
          generalize hls : lf st = ls at *
          generalize hlp : lf p = lp at *
          have HTX := Lib.hid (rfl : lf d = lf d)
          generalize htx : lf d = tx at *
          have HTX := Lib.hid htx
          clear hls hlp htx
          cases hb
          · have HERR : Hid (exprE l = 1) := expr_err (by have := HL.out; omega) (HF.out.err HX.out (by rw [HS.out]; simp))
            clear HS
            cases mb
            all_goals
              simp only [show lf [false] = (⟨#[118]⟩ : ByteArray) from rfl, show lf [true] = (⟨#[98]⟩ : ByteArray) from rfl] at HSH
              go_wp2_with (first
                | (go_at_call 80; refine (HSH.out _).mono ?_; rintro e w1 ⟨rfl, rfl⟩)
                | (go_at_call 81; refine (HCUT.out _).mono ?_; rintro e w2 ⟨rfl, rfl⟩)
                | (go_at_call 82; refine (HHO.out _).mono ?_; rintro e w3 ⟨rfl, hb3⟩; have B3 := Lib.hid (Below.lit hb3)))
              go_ret
              exact ⟨ret_int HERR.out.symm, below_step HB.out B3.out⟩
          · have HNEXT : Hid (RunTo l (k + 1) (mb :: d)) := HF.out.step HX.out (by rw [HS.out]; simp)
            clear HS
            cases mb
            all_goals
              simp only [show lf [false] = (⟨#[118]⟩ : ByteArray) from rfl, show lf [true] = (⟨#[98]⟩ : ByteArray) from rfl] at HSH HP
              go_wp2_with (first
                | (go_at_call 80; refine (HSH.out _).mono ?_; rintro e w1 ⟨rfl, rfl⟩)
                | (go_at_call 81; refine (HCUT.out _).mono ?_; rintro e w2 ⟨rfl, rfl⟩)
                | (go_at_call 82; refine (HHO.out _).mono ?_; rintro e w3 ⟨rfl, hb3⟩; have B3 := Lib.hid (Below.lit hb3)))
              go_roundw
              case rel => exact ⟨k + 1, _, by omega, by go_num, by rw [HP.out], HD.out, HNEXT.out, below_step HB.out B3.out⟩
              case measure => simp [intOf]; omega
        · rw [Bool.not_eq_true] at hpp
          simp only [hpp] at hcut HS
          have HSH := Lib.hid hsh
          have HCUT := Lib.hid hcut
          have HERR : Hid (exprE l = 1) := expr_err (by omega) (HF.out.err HX.out (by rw [HS.out]; simp))
          clear hsh hcut hpat HS hl32 hst' hpp
          generalize lf st = ls at *
          generalize lf p = lp at *
          generalize lf [makesX op] = lm at *
          go_wp2_with (first
            | (go_at_call 80; refine (HSH.out _).mono ?_; rintro e w1 ⟨rfl, rfl⟩)
            | (go_at_call 81; refine (HCUT.out _).mono ?_; rintro e w2 ⟨rfl, rfl⟩))
          go_ret
          exact ⟨ret_int HERR.out.symm, HB.out.alloc HB.out.size _⟩
    · obtain rfl : k = n := by omega
      have HEND := Lib.hid (expr_end (by have := HL.out; omega) (HF.out.all HL.out))
      by_cases hk0 : k = 0
      · subst hk0
        have HZ : Hid (exprE l = 0) := HEND.out.trans (if_pos (.inl (List.eq_nil_of_length_eq_zero HL.out)))
        generalize lf st = ls at *
        go_wp2_with fail
        go_ret
        exact ⟨ret_int HZ.out.symm, HB.out⟩
      · have hlpos : (0 : Int) < (k : Int) := by omega
        have hne : ¬ l = [] := by rintro rfl; have := HL.out; simp at this; omega
        by_cases hv : st = [false]
        · subst hv
          have HZ : Hid (exprE l = 0) := HEND.out.trans (if_pos (.inr rfl))
          simp only [show lf [false] = (⟨#[118]⟩ : ByteArray) from rfl]
          go_wp2_with fail
          go_ret
          exact ⟨ret_int HZ.out.symm, HB.out⟩
        · have HZ : Hid (exprE l = 1) := HEND.out.trans (if_neg (fun e => e.elim hne hv))
          have hls : ((lf st).toList == [118]) = false := beq_eq_false_iff_ne.2 (fun e => hv (lf_inj (text_eq (by show (lf st).data.toList = _; rw [← ByteArray.toList_eq, e]; rfl))))
          generalize lf st = ls at *
          clear hne hv
          go_wp2_with fail
          go_ret
          exact ⟨ret_int HZ.out.symm, HB.out⟩
end Go.Proofs.Ythppdgiobflfpaa
/- The first error of a list: the project's each, over matches, AllOfs, AnyOfs, duties; targets and duties by it. -/
namespace Go.Proofs.Ythppdgiobflfpaa
set_option linter.unusedVariables false
open Go.RowKit

set_option maxHeartbeats 800000 in
theorem each_match {w : World} {R : Nat → Prop} {A : Option Addr} {n c : Nat} {l : List Mat} (h : Ms w R A n c l) :
    Calls Try.prog 88 #[.slice A n c, .func (.func 89) #[] #[]] w fun e w' => e = .returned (.int .i64 (firstE matE l)) ∧ Below w.heap.size w w' := by
  have hle := Rw.le h
  have hcap := Rw.cap h
  have HL := Lib.hid (Rw.len h)
  unfold maxLen at hcap
  have H := Lib.hid h
  clear h
  go_enter Try.func88, Try.ntmps88
  go_wp2
  go_loopw [10] (fun i wr => ∃ k : Nat, k ≤ n ∧ i = .int .i64 k ∧ FineTo matE l k ∧ Below w.heap.size w wr) (fun i _ => n - (intOf i).toNat)
  case atStart => exact ⟨0, Nat.zero_le _, rfl, FineTo.zero _ _, Below.refl _ _⟩
  case round =>
    obtain ⟨k, hk, rfl, hf, hb⟩ := hrel
    have HF := Lib.hid hf
    have HB := Lib.hid hb
    clear hf hb
    by_cases hlt : k < n
    · obtain ⟨b, o, x, rfl, hRb, hbl, hx, hok, c0, c1, c2, c3, c4, c5, c6⟩ := (H.out.keep (Kept.all HB.out R) (fun _ h _ => h)).at_ hlt
      have HX := Lib.hid hx
      have hcon := fun W => match_any x hok W
      clear hx
      by_cases hz : matE x = 0
      · have HZ := Lib.hid hz
        rw [hz] at hcon
        have HC := Lib.hid hcon
        clear hz hcon
        go_wp2_with (go_at_call 89; refine (HC.out _).mono ?_; rintro e w1 ⟨rfl, hb1⟩; have B1 := Lib.hid (Below.lit hb1))
        go_roundw
        case rel => exact ⟨k + 1, by omega, by go_num, HF.out.step HX.out HZ.out, below_step HB.out B1.out⟩
        case measure => simp [intOf]; omega
      · have HZ := Lib.hid hz
        obtain ⟨r, hr⟩ : ∃ r, r = matE x := ⟨_, rfl⟩
        have HR := Lib.hid hr
        rw [← hr] at hz hcon
        have hne : (r != 0) = true := by simpa using hz
        have HC := Lib.hid hcon
        clear hz hcon hr
        go_wp2_with (go_at_call 89; refine (HC.out _).mono ?_; rintro e w1 ⟨rfl, hb1⟩; have B1 := Lib.hid (Below.lit hb1))
        go_ret
        exact ⟨ret_int (HR.out.trans (HF.out.err HX.out HZ.out).symm), below_step HB.out B1.out⟩
    · obtain rfl : k = n := by omega
      go_wp2
      go_ret
      exact ⟨ret_int (HF.out.all HL.out).symm, HB.out⟩

theorem allOf_any {R : Nat → Prop} {A : Option Addr} {n c : Nat} {l : List Mat} (w : World) (h : Ms w R A n c l) :
    Calls Try.prog 79 #[.slice A n c] w fun e w' => e = .returned (.int .i64 (allE l)) ∧ Below w.heap.size w w' := by
  have hle := Rw.le h
  have hcap := Rw.cap h
  have HL := Lib.hid (Rw.len h)
  unfold maxLen at hcap
  have H := Lib.hid h
  clear h
  obtain ⟨r, hr⟩ : ∃ r, r = partsE n := ⟨_, rfl⟩
  have HR := Lib.hid hr
  by_cases hz : r = 0
  · have HP : ∀ W, Calls Try.prog 77 #[.int .i64 n] W fun e w' => e = .returned (.int .i64 0) ∧ w' = W := fun W => by have := parts_any n W; rwa [← hr, hz] at this
    have HE : Hid (allE l = firstE matE l) := by
      show allE l = _
      unfold allE
      rw [HL.out, ← hr, hz]; simp
    have HPP := Lib.hid HP
    clear hz hr HP
    go_enter Try.func79, Try.ntmps79
    go_wp2_with (first
      | (go_at_call 77; refine (HPP.out _).mono ?_; rintro e w1 ⟨rfl, rfl⟩)
      | (go_at_call 88; refine (each_match H.out).mono ?_; rintro e w2 ⟨rfl, hb2⟩; have B2 := Lib.hid hb2))
    go_ret
    exact ⟨ret_int HE.out.symm, B2.out⟩
  · have HP : ∀ W, Calls Try.prog 77 #[.int .i64 n] W fun e w' => e = .returned (.int .i64 r) ∧ w' = W := fun W => by have := parts_any n W; rwa [← hr] at this
    have HE : Hid (allE l = r) := by
      show allE l = _
      unfold allE
      rw [HL.out, ← hr, if_pos hz]
    have hne : (r != 0) = true := by simpa using hz
    have HPP := Lib.hid HP
    clear hz hr HP
    go_enter Try.func79, Try.ntmps79
    go_wp2_with (first
      | (go_at_call 77; refine (HPP.out _).mono ?_; rintro e w1 ⟨rfl, rfl⟩))
    go_ret
    exact ⟨ret_int HE.out.symm, Below.refl _ _⟩

set_option maxHeartbeats 800000 in
theorem each_allOf {w : World} {R : Nat → Prop} {A : Option Addr} {n c : Nat} {l : List (List Mat)} (h : Als w R A n c l) :
    Calls Try.prog 78 #[.slice A n c, .func (.func 79) #[] #[]] w fun e w' => e = .returned (.int .i64 (firstE allE l)) ∧ Below w.heap.size w w' := by
  have hle := Rw.le h
  have hcap := Rw.cap h
  have HL := Lib.hid (Rw.len h)
  unfold maxLen at hcap
  have H := Lib.hid h
  clear h
  go_enter Try.func78, Try.ntmps78
  go_wp2
  go_loopw [10] (fun i wr => ∃ k : Nat, k ≤ n ∧ i = .int .i64 k ∧ FineTo allE l k ∧ Below w.heap.size w wr) (fun i _ => n - (intOf i).toNat)
  case atStart => exact ⟨0, Nat.zero_le _, rfl, FineTo.zero _ _, Below.refl _ _⟩
  case round =>
    obtain ⟨k, hk, rfl, hf, hb⟩ := hrel
    have HF := Lib.hid hf
    have HB := Lib.hid hb
    clear hf hb
    by_cases hlt : k < n
    · obtain ⟨b, o, x, A', n', c', rfl, hRb, hbl, hx, c0, hin⟩ := (H.out.keep (Kept.all HB.out R) (fun _ h _ => h)).at_ hlt
      have HX := Lib.hid hx
      have hinK := fun W (hb : Below wr.heap.size wr W) => Ms.keep hin (Kept.all hb R) (fun _ h _ => h)
      have hcon := fun W (hb : Below wr.heap.size wr W) => allOf_any W (hinK W hb)
      clear hx
      by_cases hz : allE x = 0
      · have HZ := Lib.hid hz
        rw [hz] at hcon
        have HC := Lib.hid hcon
        clear hz hcon
        go_wp2_with (go_at_call 79; refine (HC.out _ (Below.refl _ _)).mono ?_; rintro e w1 ⟨rfl, hb1⟩; have B1 := Lib.hid hb1)
        go_roundw
        case rel => exact ⟨k + 1, by omega, by go_num, HF.out.step HX.out HZ.out, below_step HB.out B1.out⟩
        case measure => simp [intOf]; omega
      · have HZ := Lib.hid hz
        obtain ⟨r, hr⟩ : ∃ r, r = allE x := ⟨_, rfl⟩
        have HR := Lib.hid hr
        rw [← hr] at hz hcon
        have hne : (r != 0) = true := by simpa using hz
        have HC := Lib.hid hcon
        clear hz hcon hr
        go_wp2_with (go_at_call 79; refine (HC.out _ (Below.refl _ _)).mono ?_; rintro e w1 ⟨rfl, hb1⟩; have B1 := Lib.hid hb1)
        go_ret
        exact ⟨ret_int (HR.out.trans (HF.out.err HX.out HZ.out).symm), below_step HB.out B1.out⟩
    · obtain rfl : k = n := by omega
      go_wp2
      go_ret
      exact ⟨ret_int (HF.out.all HL.out).symm, HB.out⟩

theorem anyOf_any {R : Nat → Prop} {A : Option Addr} {n c : Nat} {l : List (List Mat)} (w : World) (h : Als w R A n c l) :
    Calls Try.prog 70 #[.slice A n c] w fun e w' => e = .returned (.int .i64 (anyE l)) ∧ Below w.heap.size w w' := by
  have hle := Rw.le h
  have hcap := Rw.cap h
  have HL := Lib.hid (Rw.len h)
  unfold maxLen at hcap
  have H := Lib.hid h
  clear h
  obtain ⟨r, hr⟩ : ∃ r, r = partsE n := ⟨_, rfl⟩
  have HR := Lib.hid hr
  by_cases hz : r = 0
  · have HP : ∀ W, Calls Try.prog 77 #[.int .i64 n] W fun e w' => e = .returned (.int .i64 0) ∧ w' = W := fun W => by have := parts_any n W; rwa [← hr, hz] at this
    have HE : Hid (anyE l = firstE allE l) := by
      show anyE l = _
      unfold anyE
      rw [HL.out, ← hr, hz]; simp
    have HPP := Lib.hid HP
    clear hz hr HP
    go_enter Try.func70, Try.ntmps70
    go_wp2_with (first
      | (go_at_call 77; refine (HPP.out _).mono ?_; rintro e w1 ⟨rfl, rfl⟩)
      | (go_at_call 78; refine (each_allOf H.out).mono ?_; rintro e w2 ⟨rfl, hb2⟩; have B2 := Lib.hid hb2))
    go_ret
    exact ⟨ret_int HE.out.symm, B2.out⟩
  · have HP : ∀ W, Calls Try.prog 77 #[.int .i64 n] W fun e w' => e = .returned (.int .i64 r) ∧ w' = W := fun W => by have := parts_any n W; rwa [← hr] at this
    have HE : Hid (anyE l = r) := by
      show anyE l = _
      unfold anyE
      rw [HL.out, ← hr, if_pos hz]
    have hne : (r != 0) = true := by simpa using hz
    have HPP := Lib.hid HP
    clear hz hr HP
    go_enter Try.func70, Try.ntmps70
    go_wp2_with (first
      | (go_at_call 77; refine (HPP.out _).mono ?_; rintro e w1 ⟨rfl, rfl⟩))
    go_ret
    exact ⟨ret_int HE.out.symm, Below.refl _ _⟩

set_option maxHeartbeats 800000 in
theorem each_anyOf {w : World} {R : Nat → Prop} {A : Option Addr} {n c : Nat} {l : List (List (List Mat))} (h : Tg w R A n c l) :
    Calls Try.prog 69 #[.slice A n c, .func (.func 70) #[] #[]] w fun e w' => e = .returned (.int .i64 (firstE anyE l)) ∧ Below w.heap.size w w' := by
  have hle := Rw.le h
  have hcap := Rw.cap h
  have HL := Lib.hid (Rw.len h)
  unfold maxLen at hcap
  have H := Lib.hid h
  clear h
  go_enter Try.func69, Try.ntmps69
  go_wp2
  go_loopw [10] (fun i wr => ∃ k : Nat, k ≤ n ∧ i = .int .i64 k ∧ FineTo anyE l k ∧ Below w.heap.size w wr) (fun i _ => n - (intOf i).toNat)
  case atStart => exact ⟨0, Nat.zero_le _, rfl, FineTo.zero _ _, Below.refl _ _⟩
  case round =>
    obtain ⟨k, hk, rfl, hf, hb⟩ := hrel
    have HF := Lib.hid hf
    have HB := Lib.hid hb
    clear hf hb
    by_cases hlt : k < n
    · obtain ⟨b, o, x, A', n', c', rfl, hRb, hbl, hx, c0, hin⟩ := (H.out.keep (Kept.all HB.out R) (fun _ h _ => h)).at_ hlt
      have HX := Lib.hid hx
      have hinK := fun W (hb : Below wr.heap.size wr W) => Als.keep hin (Kept.all hb R) (fun _ h _ => h)
      have hcon := fun W (hb : Below wr.heap.size wr W) => anyOf_any W (hinK W hb)
      clear hx
      by_cases hz : anyE x = 0
      · have HZ := Lib.hid hz
        rw [hz] at hcon
        have HC := Lib.hid hcon
        clear hz hcon
        go_wp2_with (go_at_call 70; refine (HC.out _ (Below.refl _ _)).mono ?_; rintro e w1 ⟨rfl, hb1⟩; have B1 := Lib.hid hb1)
        go_roundw
        case rel => exact ⟨k + 1, by omega, by go_num, HF.out.step HX.out HZ.out, below_step HB.out B1.out⟩
        case measure => simp [intOf]; omega
      · have HZ := Lib.hid hz
        obtain ⟨r, hr⟩ : ∃ r, r = anyE x := ⟨_, rfl⟩
        have HR := Lib.hid hr
        rw [← hr] at hz hcon
        have hne : (r != 0) = true := by simpa using hz
        have HC := Lib.hid hcon
        clear hz hcon hr
        go_wp2_with (go_at_call 70; refine (HC.out _ (Below.refl _ _)).mono ?_; rintro e w1 ⟨rfl, hb1⟩; have B1 := Lib.hid hb1)
        go_ret
        exact ⟨ret_int (HR.out.trans (HF.out.err HX.out HZ.out).symm), below_step HB.out B1.out⟩
    · obtain rfl : k = n := by omega
      go_wp2
      go_ret
      exact ⟨ret_int (HF.out.all HL.out).symm, HB.out⟩

set_option maxHeartbeats 800000 in
theorem each_duty {w : World} {R : Nat → Prop} {A : Option Addr} {n c : Nat} {l : List Dut} (h : Dus w R A n c l) :
    Calls Try.prog 71 #[.slice A n c, .func (.func 72) #[] #[]] w fun e w' => e = .returned (.int .i64 (firstE dutE l)) ∧ Below w.heap.size w w' := by
  have hle := Rw.le h
  have hcap := Rw.cap h
  have HL := Lib.hid (Rw.len h)
  unfold maxLen at hcap
  have H := Lib.hid h
  clear h
  go_enter Try.func71, Try.ntmps71
  go_wp2
  go_loopw [10] (fun i wr => ∃ k : Nat, k ≤ n ∧ i = .int .i64 k ∧ FineTo dutE l k ∧ Below w.heap.size w wr) (fun i _ => n - (intOf i).toNat)
  case atStart => exact ⟨0, Nat.zero_le _, rfl, FineTo.zero _ _, Below.refl _ _⟩
  case round =>
    obtain ⟨k, hk, rfl, hf, hb⟩ := hrel
    have HF := Lib.hid hf
    have HB := Lib.hid hb
    clear hf hb
    by_cases hlt : k < n
    · obtain ⟨b, o, x, rfl, hRb, hbl, hx, hok, c0, c1, c2⟩ := (H.out.keep (Kept.all HB.out R) (fun _ h _ => h)).at_ hlt
      have HX := Lib.hid hx
      have hcon := fun W => duty_any x hok W
      clear hx
      by_cases hz : dutE x = 0
      · have HZ := Lib.hid hz
        rw [hz] at hcon
        have HC := Lib.hid hcon
        clear hz hcon
        go_wp2_with (go_at_call 72; refine (HC.out _).mono ?_; rintro e w1 ⟨rfl, hb1⟩; have B1 := Lib.hid (Below.lit hb1))
        go_roundw
        case rel => exact ⟨k + 1, by omega, by go_num, HF.out.step HX.out HZ.out, below_step HB.out B1.out⟩
        case measure => simp [intOf]; omega
      · have HZ := Lib.hid hz
        obtain ⟨r, hr⟩ : ∃ r, r = dutE x := ⟨_, rfl⟩
        have HR := Lib.hid hr
        rw [← hr] at hz hcon
        have hne : (r != 0) = true := by simpa using hz
        have HC := Lib.hid hcon
        clear hz hcon hr
        go_wp2_with (go_at_call 72; refine (HC.out _).mono ?_; rintro e w1 ⟨rfl, hb1⟩; have B1 := Lib.hid (Below.lit hb1))
        go_ret
        exact ⟨ret_int (HR.out.trans (HF.out.err HX.out HZ.out).symm), below_step HB.out B1.out⟩
    · obtain rfl : k = n := by omega
      go_wp2
      go_ret
      exact ⟨ret_int (HF.out.all HL.out).symm, HB.out⟩

theorem target_any {R : Nat → Prop} {A : Option Addr} {n c : Nat} {l : Tgt} (w : World) (h : Tg w R A n c l) :
    Calls Try.prog 56 #[.slice A n c] w fun e w' => e = .returned (.int .i64 (tgE l)) ∧ Below w.heap.size w w' := by
  have hle := Rw.le h
  have hcap := Rw.cap h
  have HL := Lib.hid (Rw.len h)
  unfold maxLen at hcap
  have H := Lib.hid h
  clear h
  by_cases h8 : 8 < n
  · have HE : Hid (tgE l = 6) := by
      show tgE l = _
      unfold tgE
      rw [HL.out, if_pos h8]
    have hb : (8 : Int) < (n : Int) := by omega
    go_enter Try.func56, Try.ntmps56
    go_wp2_with fail
    go_ret
    exact ⟨ret_int HE.out.symm, Below.refl _ _⟩
  · have HE : Hid (tgE l = firstE anyE l) := by
      show tgE l = _
      unfold tgE
      rw [HL.out, if_neg h8]
    have hb : ¬ (8 : Int) < (n : Int) := by omega
    go_enter Try.func56, Try.ntmps56
    go_wp2_with (go_at_call 69; refine (each_anyOf H.out).mono ?_; rintro e w2 ⟨rfl, hb2⟩; have B2 := Lib.hid hb2)
    go_ret
    exact ⟨ret_int HE.out.symm, B2.out⟩

theorem obls_any {R : Nat → Prop} {A : Option Addr} {n c : Nat} {l : List Dut} (w : World) (h : Dus w R A n c l) :
    Calls Try.prog 57 #[.slice A n c] w fun e w' => e = .returned (.int .i64 (obE l)) ∧ Below w.heap.size w w' := by
  have hle := Rw.le h
  have hcap := Rw.cap h
  have HL := Lib.hid (Rw.len h)
  unfold maxLen at hcap
  have H := Lib.hid h
  clear h
  by_cases h8 : 8 < n
  · have HE : Hid (obE l = 6) := by
      show obE l = _
      unfold obE
      rw [HL.out, if_pos h8]
    have hb : (8 : Int) < (n : Int) := by omega
    go_enter Try.func57, Try.ntmps57
    go_wp2_with fail
    go_ret
    exact ⟨ret_int HE.out.symm, Below.refl _ _⟩
  · have HE : Hid (obE l = firstE dutE l) := by
      show obE l = _
      unfold obE
      rw [HL.out, if_neg h8]
    have hb : ¬ (8 : Int) < (n : Int) := by omega
    go_enter Try.func57, Try.ntmps57
    go_wp2_with (go_at_call 71; refine (each_duty H.out).mono ?_; rintro e w2 ⟨rfl, hb2⟩; have B2 := Lib.hid hb2)
    go_ret
    exact ⟨ret_int HE.out.symm, B2.out⟩

end Go.Proofs.Ythppdgiobflfpaa
/- What was met on the way through a policy: the map of names, the count of rules (the project's walk). -/
namespace Go.Proofs.Ythppdgiobflfpaa
set_option linter.unusedVariables false
open Go.RowKit Go.Maps

/-- How often was a name met? -/
def cnt (x : ByteArray) (l : List ByteArray) : Nat := l.countP fun y => decide (y = x)
theorem cnt_snoc (x : ByteArray) (l : List ByteArray) : cnt x (l ++ [x]) = cnt x l + 1 := by simp [cnt]
theorem cnt_other {x y : ByteArray} (h : y ≠ x) (l : List ByteArray) : cnt x (l ++ [y]) = cnt x l := by simp [cnt, h]
theorem cnt_le (x : ByteArray) (l : List ByteArray) : cnt x l ≤ l.length := List.countP_le_length
theorem cnt_met (x : ByteArray) : ∀ (l : List ByteArray), (cnt x l = 0) = (metB x l = false)
  | [] => by simp [cnt, metB]
  | y :: l => by
    have := cnt_met x l
    unfold cnt metB at this ⊢
    by_cases e : y = x
    · simp [e]
    · simp only [List.countP_cons, List.any_cons, e, decide_false, Bool.false_or, if_false, Nat.add_zero, Bool.false_eq_true]
      exact this

theorem law9 : Keyed Try.prog 9 := string_keyed Try.underlying9
theorem zero3 (w : World) : (zeroValue 3).run Try.prog w = .ok (.int .i64 0) w := by kernel_rfl

/-- Block B is the map of the names that were met: how often each. -/
def MapIs (w : World) (B : Nat) (ids : List ByteArray) : Prop :=
  ∃ D : DataW Unit, w.ownsMap Try.prog 9 (plainElem Try.prog 3) B ids.length D ∧ IsMap D ∧ ∀ x : ByteArray, D.atKey (.string x.data.toList) (.lit (.int .i64 0)) = .lit (.int .i64 (cnt x ids))
theorem MapIs.lt {w : World} {B : Nat} {ids : List ByteArray} (h : MapIs w B ids) : B < w.heap.size := by obtain ⟨D, h, _⟩ := h; exact h.lt
theorem MapIs.kept {w w' : World} {B : Nat} {ids : List ByteArray} {r : Nat} (h : MapIs w B ids) (ho : Only r w w') (hr : B ≠ r) : MapIs w' B ids := by
  obtain ⟨D, h1, h2, h3⟩ := h
  exact ⟨D, h1.kept ho (fun e => hr (Option.some.inj e)), h2, h3⟩
theorem MapIs.below {w w' : World} {B : Nat} {ids : List ByteArray} (h : MapIs w B ids) (ho : Below w.heap.size w w') : MapIs w' B ids :=
  h.kept (r := w.heap.size) (Only.of_below ho) (Nat.ne_of_lt h.lt)
theorem MapIs.made (w : World) : MapIs (w.alloc (.map #[] 0)) w.heap.size [] :=
  ⟨.map [], World.ownsMap_made _ _ _ _, isMap_empty, fun x => rfl⟩
theorem text_key {x y : ByteArray} (h : x ≠ y) : (Lit.string x.data.toList) ≠ .string y.data.toList := by
  intro e
  injection e with e
  exact h (text_eq e)

set_option maxRecDepth 100000 in
set_option maxHeartbeats 800000 in
theorem fresh_any {w : World} {g B : Nat} {ids : List ByteArray} {m : Value} (id : ByteArray) (hid : id.size ≤ maxLen) (hob : Ob w g 71 #[.map (some B), m]) (hmap : MapIs w B ids) (hgB : g ≠ B) (hlen : ids.length < 1000000) :
    Calls Try.prog 53 #[.pointer (some ⟨g, 0, none⟩), .string id] w fun e w' => e = .returned (.bool (decide (Named (bl id)) && !metB id ids)) ∧ Only B w w' ∧ MapIs w' B (ids ++ [id]) := by
  obtain ⟨D, hown, hD, hat0⟩ := hmap
  have hkey : keyOf Try.prog 9 (.string id) = some (.string id.data.toList) := WideMaps.keyOf_string_mk Try.underlying9 hid
  have HN := Lib.hid (name_any id hid)
  have hc0 := hob.cell 0
  have HC := Lib.hid (cnt_le id ids)
  have HM := Lib.hid (cnt_met id ids)
  have hc := hat0 id
  have HA0 := Lib.hid hat0
  have HD := Lib.hid hD
  have HB := Lib.hid hob
  have HK := Lib.hid hkey
  have HID := Lib.hid hid
  have hck : cnt id ids < 1000000 := by have := HC.out; omega
  clear hat0 hD hob hid
  obtain ⟨k, hk⟩ : ∃ k, k = cnt id ids := ⟨_, rfl⟩
  have HKK := Lib.hid hk
  rw [← hk] at hc hck
  have HAT := Lib.hid hc
  clear hc hk
  generalize hrb : decide (Named id.data.toList) = rb at *
  have HRB := Lib.hid hrb
  clear hrb
  have hputs : IsMap (D.put (.string id.data.toList) (.lit (.int .i64 ((k : Int) + 1)))) := HD.out.put _ _
  have hsame : (D.put (.string id.data.toList) (.lit (.int .i64 ((k : Int) + 1)))).atKey (.string id.data.toList) (.lit (.int .i64 0)) = .lit (.int .i64 ((k : Int) + 1)) := atKey_put_same HD.out (law9.key HK.out) _ _
  have HSAME := Lib.hid hsame
  have HPUT := Lib.hid hputs
  have hnew : ∀ x : ByteArray, (D.put (.string id.data.toList) (.lit (.int .i64 ((k : Int) + 1)))).atKey (.string x.data.toList) (.lit (.int .i64 0)) = .lit (.int .i64 (cnt x (ids ++ [id]))) := fun x => by
    by_cases e : x = id
    · subst e
      rw [HSAME.out, cnt_snoc, ← HKK.out]; simp
    · rw [atKey_put_other (text_key e), HA0.out x, cnt_other (Ne.symm e)]
  have HNEW := Lib.hid hnew
  clear hsame hputs hnew
  by_cases h0 : k = 0
  · have HR : Hid ((decide (Named (bl id)) && !metB id ids) = rb) := by
      have hm : metB id ids = false := by rw [← HM.out, ← HKK.out]; exact h0
      show (decide (Named id.data.toList) && !metB id ids) = rb
      rw [hm, HRB.out]; simp
    subst h0
    rw [show ((0 : Nat) : Int) + 1 = 1 from rfl] at HSAME HPUT HNEW
    rw [show ((0 : Nat) : Int) = 0 from rfl] at HAT
    go_enter Try.func53, Try.ntmps53
    go_wp2_with (first
      | (at_lookup; refine wpList_lookup_own_int _ rfl _ _ 69 rfl 9 3 .i64 law9 Try.underlying69 Try.underlying3 (zero3 _) B _ _ rfl hown _ _ rfl hkey ?_; intro c hat hwc; obtain rfl : c = 0 := by (rw [HAT.out] at hat; injection hat with h1; injection h1 with h2 h3; exact h3.symm))
      | (at_lookup; refine wpList_lookup_own_int _ rfl _ _ 69 rfl 9 3 .i64 law9 Try.underlying69 Try.underlying3 (zero3 _) B _ _ rfl hown1 _ _ rfl hkey ?_; intro c hat hwc; obtain rfl : c = 1 := by (rw [HSAME.out] at hat; injection hat with h1; injection h1 with h2 h3; exact h3.symm))
      | (at_mapUpdate; refine wpList_mapUpdate_own _ rfl _ _ _ 69 rfl 9 3 law9 Try.underlying69 _ B _ _ rfl hown (by unfold maxLen; omega) _ _ _ rfl rfl hkey _ [] (plainElem_int Try.underlying3 (a := 1) (WalkArith.wf_i64 (by omega))) ?_; intro w1 hown1 hgrow1; have hc1 := (Ob.keep HB.out (Only.heap hgrow1 HB.out.lt hgB)).cell 0)
      | (go_at_call 42; refine (HN.out _).mono ?_; rintro e w2 ⟨rfl, rfl⟩))
    go_ret
    exact ⟨ret_bool HR.out.symm, hgrow1, _, by rw [List.length_append]; exact hown1, HPUT.out, HNEW.out⟩
  · have HR : Hid ((decide (Named (bl id)) && !metB id ids) = false) := by
      have hm : metB id ids = true := by
        rw [← Bool.not_eq_false, ← HM.out, ← HKK.out]; exact h0
      show (decide (Named (bl id)) && !metB id ids) = false
      rw [hm]; simp
    have hne : ((k : Int) + 1 == 1) = false := by rw [beq_eq_false_iff_ne]; omega
    have H0 := Lib.hid h0
    clear h0
    go_enter Try.func53, Try.ntmps53
    go_wp2_with (first
      | (at_lookup; refine wpList_lookup_own_int _ rfl _ _ 69 rfl 9 3 .i64 law9 Try.underlying69 Try.underlying3 (zero3 _) B _ _ rfl hown _ _ rfl hkey ?_; intro c hat hwc; obtain rfl : c = (k : Int) := by (rw [HAT.out] at hat; injection hat with h1; injection h1 with h2 h3; exact h3.symm))
      | (at_lookup; refine wpList_lookup_own_int _ rfl _ _ 69 rfl 9 3 .i64 law9 Try.underlying69 Try.underlying3 (zero3 _) B _ _ rfl hown1 _ _ rfl hkey ?_; intro c hat hwc; obtain rfl : c = ((k : Int) + 1) := by (rw [HSAME.out] at hat; injection hat with h1; injection h1 with h2 h3; exact h3.symm))
      | (at_mapUpdate; refine wpList_mapUpdate_own _ rfl _ _ _ 69 rfl 9 3 law9 Try.underlying69 _ B _ _ rfl hown (by unfold maxLen; omega) _ _ _ rfl rfl hkey _ [] (plainElem_int Try.underlying3 (a := ((k : Int) + 1)) (WalkArith.wf_i64 (by omega))) ?_; intro w1 hown1 hgrow1; have hc1 := (Ob.keep HB.out (Only.heap hgrow1 HB.out.lt hgB)).cell 0)
      | (go_at_call 42; refine (HN.out _).mono ?_; rintro e w2 ⟨rfl, rfl⟩))
    go_ret
    exact ⟨ret_bool HR.out.symm, hgrow1, _, by rw [List.length_append]; exact hown1, HPUT.out, HNEW.out⟩
end Go.Proofs.Ythppdgiobflfpaa
/- cmp.Or over errors; what a policy may have as what it is (the project's fits). -/
namespace Go.Proofs.Ythppdgiobflfpaa
set_option linter.unusedVariables false
open Go.RowKit

def ev (l : List Int) : List Value := l.map (Value.int .i64)
theorem or2 (a b : Int) : firstE (fun x => x) [a, b] = orE a b := by
  unfold orE; simp only [firstE]
  by_cases ha : a = 0 <;> by_cases hb : b = 0 <;> simp [ha, hb]
theorem or3 (a b c : Int) : firstE (fun x => x) [a, b, c] = orE a (orE b c) := by
  unfold orE; simp only [firstE]
  by_cases ha : a = 0 <;> by_cases hb : b = 0 <;> by_cases hc : c = 0 <;> simp [ha, hb, hc]

set_option maxHeartbeats 800000 in
theorem or_any {w : World} {B n c : Nat} {A : Option Addr} {l : List Int} (h : Sl w B A n c (ev l)) (hn : n ≤ 1000) (hB : B ≤ w.heap.size) :
    Calls Try.prog 55 #[.slice A n c] w fun e w' => e = .returned (.int .i64 (firstE (fun x => x) l)) ∧ w' = w := by
  have HL : Hid (l.length = n) := by show l.length = n; have := h.1; simpa [ev] using this
  have hle := h.le
  have hcap := h.cap
  unfold maxLen at hcap
  have H := Lib.hid h
  clear h
  go_enter Try.func55, Try.ntmps55
  go_wp2
  go_loop [8] (fun i => ∃ k : Nat, k ≤ n ∧ i = .int .i64 k ∧ FineTo (fun x : Int => x) l k) (fun i => n - (intOf i).toNat)
  case atStart => exact ⟨0, Nat.zero_le _, rfl, FineTo.zero _ _⟩
  case round =>
    obtain ⟨k, hk, rfl, hf⟩ := hrel
    have HF := Lib.hid hf
    clear hf
    by_cases hlt : k < n
    · obtain ⟨b, o, u, rfl, hb, hu, hc⟩ := H.out.at_ hlt
      have hkl : k < l.length := by have := HL.out; omega
      have hx : l[k]? = some l[k] := List.getElem?_eq_getElem hkl
      have hu' : u = .int .i64 l[k] := by
        have : (ev l)[k]? = some (.int .i64 l[k]) := by simp [ev, hkl]
        rw [this] at hu
        exact (Option.some.inj hu).symm
      subst hu'
      have HX := Lib.hid hx
      generalize l[k] = x at *
      clear hu hx
      by_cases hz : x = 0
      · subst hz
        go_wp2_with fail
        go_round
        case rel => exact ⟨k + 1, by omega, by go_num, HF.out.step HX.out rfl⟩
        case measure => simp [intOf]; omega
      · have HZ := Lib.hid hz
        have hne : (x != 0) = true := by simpa using hz
        clear hz
        go_wp2_with fail
        go_ret
        exact ⟨ret_int (HF.out.err (f := fun x : Int => x) HX.out HZ.out).symm, rfl⟩
    · obtain rfl : k = n := by omega
      go_wp2
      go_ret
      exact ⟨ret_int (HF.out.all HL.out).symm, rfl⟩

def fitsN (set : Bool) (alg : Int) (nr nk : Nat) : Bool := decide (1 ≤ alg) && decide (alg ≤ 6) && if set = true then decide (nr = 0) else decide (nk = 0) && decide (alg ≠ 4)
theorem fits_eq (p : Pol) : fitsB p = fitsN p.set p.alg p.rules.length p.kids.length := rfl
set_option maxHeartbeats 800000 in
theorem fits_any (id : ByteArray) (set : Bool) (alg : Int) (A1 A2 A3 A4 : Option Addr) (n1 n2 n3 n4 c1 c2 c3 c4 : Nat) (w : World) :
    Calls Try.prog 54 #[.agg #[.string id, .bool set, .int .i64 alg, .slice A1 n1 c1, .slice A2 n2 c2, .slice A3 n3 c3, .slice A4 n4 c4]] w fun e w' => e = .returned (.bool (fitsN set alg n2 n3)) ∧ Below w.heap.size w w' := by
  have HE : Hid (fitsN set alg n2 n3 = (decide (1 ≤ alg) && decide (alg ≤ 6) && if set = true then decide (n2 = 0) else decide (n3 = 0) && decide (alg ≠ 4))) := rfl
  generalize fitsN set alg n2 n3 = r at *
  cases set
  all_goals
    go_enter Try.func54, Try.ntmps54
    go_wp2_with fail
    all_goals
      go_ret
      refine ⟨ret_bool ?_, (Below.refl _ _).alloc (Nat.le_refl _) _⟩
      rw [HE.out]
      clear HE
      rw [Bool.eq_iff_iff]
      simp only [Bool.and_eq_true, decide_eq_true_eq, beq_iff_eq, bne_iff_ne, if_true, if_false, Bool.false_eq_true, ne_eq]
      first | omega | (simp only [false_iff]; omega)
end Go.Proofs.Ythppdgiobflfpaa
/- A region that draws its order, ends in a forced row of operations (stores), and ahead of them only reads and calls that lay new memory: walked once, in the order of the text; the tail is walked as any list, in every world of the class. -/
namespace Go.Proofs.Ythppdgiobflfpaa
open Go Go.RowKit Go.Sort

section
variable {P : Program} {ops : Array Oper} {md : Region.Mode} {C : World → Prop}

/-- Whatever order is picked among the first n, till L. -/
def HeadQ (P : Program) (md : Region.Mode) (ops : Array Oper) (C : World → Prop) (n : Nat) (L : Array Bool → Act → Prop) : Nat → Array Bool → Act → Prop
  | 0, listed, a => L listed a
  | f + 1, listed, a => Region.ready md ops listed ≠ [] ∧ ∀ i ∈ Region.ready md ops listed, i < n ∧ qOp P ops C i (HeadQ P md ops C n L f (listed.setIfInBounds i true)) a

theorem HeadQ.any {n g : Nat} {L : Array Bool → Act → Prop} {Q : Exit → Act → World → Prop} (hL : ∀ listed a w, C w → L listed a → wpAny P md ops Q g listed a w) :
    ∀ (f : Nat) (listed : Array Bool) (a : Act) (w : World), C w → HeadQ P md ops C n L f listed a → wpAny P md ops Q (f + g) listed a w
  | 0, _, _, _, hw, h => by rw [Nat.zero_add]; exact hL _ _ _ hw h
  | f + 1, _, _, _, hw, h => by
    rw [show f + 1 + g = (f + g) + 1 by omega]
    exact ⟨fun h0 => absurd h0 h.1, fun i hi => wpOp_of_qOp hw (fun a' w' hw' h' => HeadQ.any hL f _ a' w' hw' h') (h.2 i hi).2⟩

theorem HeadQ.first {n i : Nat} {oi : Oper} {v : Value} {L : Array Bool → Act → Prop} (hi : ops[i]? = some oi) (hsel : ∀ (j : Nat) (o : Oper) cs b, ops[j]? = some o → o.op ≠ .select cs b)
    (hs : Region.sinkB md ops n = true) (hc : Region.chainB md ops n = true) (hn : n < ops.size) (hin : i < n) (hdone : ∀ listed a, L listed a → ∀ j ∈ Region.ready md ops listed, n ≤ j) :
    ∀ (f : Nat) (listed : Array Bool) (a : Act), HeadInv md ops n listed →
      (∀ j oj, ops[j]? = some oj → j ≠ i → listed.getD j true = false → (∀ e ∈ oj.after, Region.binds md e = true → e.on ≠ i) → oi.apart ops oj = true) →
      i ∈ Region.ready md ops listed → YieldsIn P ops C oi v a → HeadQ P md ops C n L f (listed.setIfInBounds i true) (a.put oi.dst v) → HeadQ P md ops C n L (f + 1) listed a := by
  intro f
  induction f with
  | zero =>
    intro listed a inv _ hr hy H
    refine ⟨fun h => (by rw [h] at hr; cases hr), fun j hj => ?_⟩
    have hjn : j < n := Nat.lt_of_not_le fun h => tail_waits hs hc hn inv _ i rfl hin (mem_ready.1 hr).1 j h hj
    refine ⟨hjn, ?_⟩
    by_cases hji : j = i
    · subst hji; exact hy.qOp hi H
    · have := hdone _ _ H j (ready_mono hj hji)
      omega
  | succ f ih =>
    intro listed a inv hfree hr hy H
    have hun := (mem_ready.1 hr).1
    refine ⟨fun h => (by rw [h] at hr; cases hr), fun j hj => ?_⟩
    have hjn : j < n := Nat.lt_of_not_le fun h => tail_waits hs hc hn inv _ i rfl hin hun j h hj
    refine ⟨hjn, ?_⟩
    by_cases hji : j = i
    · subst hji; exact hy.qOp hi H
    · have h1 := (H.2 j (ready_mono hj hji)).2
      obtain ⟨hjun, oj, hoj, hall⟩ := mem_ready.1 hj
      have hnot : ∀ e ∈ oj.after, Region.binds md e = true → e.on ≠ i := fun e he hb heq => by
        have h1 := hall e he hb
        rw [heq, getD_both hun] at h1
        cases h1
      have h2 := qOp_put hoj (hfree j oj hoj hji hjun hnot) (fun cs b => hsel i oi cs b hi) (fun cs b => hsel j oj cs b hoj) hy h1
      refine qOp_mono (fun a' h3 => ih (listed.setIfInBounds j true) a' (inv.set hj hjn) ?_ (ready_mono hr (Ne.symm hji)) h3.1 ?_) h2
      · intro k ok hk hki hun' hno
        refine hfree k ok hk hki ?_ hno
        by_cases hjk : j = k
        · subst hjk; exact hjun
        · rw [getD_set_ne true hjk] at hun'; exact hun'
      · rw [Array.setIfInBounds_comm _ _ hji]
        exact h3.2

theorem HeadQ.lex {n g : Nat} {Lq : Act → Prop} (hsel : Region.noSelect ops = true) (hs : Region.sinkB md ops n = true) (hc : Region.chainB md ops n = true) (hn : n < ops.size) :
    ∀ (l : List Oper) (k : Nat) (listed : Array Bool) (a : Act), (∀ j, j < l.length → l[j]? = ops[k + j]?) → k + l.length = n → HeadInv md ops n listed →
    Region.lexHead md ops g l.length k listed = true → wpQuiet P ops C Lq l a → HeadQ P md ops C n (fun listed' a' => Region.seqB md ops g n listed' = true ∧ Lq a') l.length listed a
  | [], k, listed, a, _, hk, _, hB, h => by
    have : k = n := by simpa using hk
    subst this
    exact ⟨by simpa [Region.lexHead] using hB, h⟩
  | o :: l, k, listed, a, hl, hk, inv, hB, h => by
    have h0 : ops[k]? = some o := by simpa using (hl 0 (by simp)).symm
    simp only [List.length_cons, Region.lexHead, Bool.and_eq_true] at hB
    obtain ⟨⟨hr, hf⟩, hB'⟩ := hB
    have hkn : k < n := by simp only [List.length_cons] at hk; omega
    have hr' : k ∈ Region.ready md ops listed := by simpa using hr
    have hst : qOp P ops C k (wpQuiet P ops C Lq l) a := by unfold qOp; simp only [h0]; exact h
    obtain ⟨v, hy, hK⟩ := yieldsIn_of_qOp h0 hst
    exact HeadQ.first h0 (Region.noSelect_spec hsel) hs hc hn hkn (fun listed' a' hL => seqB_ready hL.1) l.length listed a inv (Region.free_spec h0 hf) hr' hy
      (HeadQ.lex hsel hs hc hn l (k + 1) _ _ (fun j hj => by have := hl (j + 1) (by simp; omega); simpa [Nat.add_assoc, Nat.add_comm 1 j] using this) (by simp only [List.length_cons] at hk; omega) (inv.set hr' hkn) hB' hK)

theorem wp_region_quiet_tail {id : Nat} {Q : Exit → Act → World → Prop} {a : Act} {w : World} {l : List Oper} (n : Nat) (hm : P.follows .mixedOrders = true) (hB : Region.lexTailB .any l.toArray n = true) (hC : C { w with drawn := w.drawn + 1 })
    (h : wpQuiet P l.toArray C (fun a' => ∀ w', C w' → wpList P l.toArray Q (l.drop n) a' w') (l.take n) a) : (Code.region id l.toArray true).wp P Q a w := by
  simp only [Region.lexTailB, Bool.and_eq_true, decide_eq_true_eq] at hB
  obtain ⟨⟨⟨⟨hsel, hn⟩, hs⟩, hc⟩, hlex⟩ := hB
  have hn' : n < l.length := by simpa using hn
  have htl : (l.take n).length = n := by simp; omega
  have hdl : (l.drop n).length = l.toArray.size - n := by simp
  have inv0 : HeadInv .any l.toArray n (Array.replicate l.toArray.size false) :=
    ⟨by simp, fun j oj _ hl => (by rw [getD_replicate_false] at hl; cases hl), fun t _ ht => getD_in (by simpa using ht) (getD_replicate_false _ _)⟩
  have H := HeadQ.lex (md := .any) (g := l.toArray.size - n) hsel hs hc hn (l.take n) 0 _ a (fun j hj => by
    have hj' : j < n := by rw [htl] at hj; exact hj
    simp [hj']) (by simpa using htl) inv0 (by rw [htl]; exact hlex) h
  refine wp_region_any hm ?_
  have := HeadQ.any (Q := Q) (g := l.toArray.size - n) (fun listed a' w' hw' hL => by
    have := wpAny_of_seq (md := .any) (Q' := Q) (l.drop n) n listed a' w' (fun j => by simp [List.getElem?_drop]) (by rw [hdl]; exact hL.1) (hL.2 w' hw')
    rwa [hdl] at this) _ _ _ _ hC H
  rw [htl, show n + (l.toArray.size - n) = l.toArray.size by omega] at this
  exact this

/-- At the class of the worlds that have but grown. -/
theorem wp_region_below_tail {id : Nat} {Q : Exit → Act → World → Prop} {a : Act} {w : World} {l : List Oper} (n : Nat) (hm : P.follows .mixedOrders = true) (hB : Region.lexTailB .any l.toArray n = true)
    (h : wpQuiet P l.toArray (fun w' => ∃ p : Regrown, w' = grow (redrawn w p.d) p.os) (fun a' => ∀ w', (∃ p : Regrown, w' = grow (redrawn w p.d) p.os) → wpList P l.toArray Q (l.drop n) a' w') (l.take n) a) : (Code.region id l.toArray true).wp P Q a w :=
  wp_region_quiet_tail n hm hB ⟨⟨w.drawn + 1, #[]⟩, by rw [grow_empty]; rfl⟩ h
end
end Go.Proofs.Ythppdgiobflfpaa
/- A rule on the way through a policy (the project's walk.rule, and each over rules). -/
namespace Go.Proofs.Ythppdgiobflfpaa
set_option linter.unusedVariables false
open Go.RowKit Go.Sort

/-- Only blocks g and B, and what is new, have changed. -/
def Only2 (g B : Nat) (w w' : World) : Prop := w'.os = w.os ∧ w'.tape = w.tape ∧ w'.output = w.output ∧ w.heap.size ≤ w'.heap.size ∧ ∀ k, k < w.heap.size → k ≠ g → k ≠ B → w'.heap[k]? = w.heap[k]?
section
variable {g B : Nat} {w w' w'' : World}
theorem Only2.refl : Only2 g B w w := ⟨rfl, rfl, rfl, Nat.le_refl _, fun _ _ _ _ => rfl⟩
theorem Only2.trans (h : Only2 g B w w') (k : Only2 g B w' w'') : Only2 g B w w'' :=
  ⟨k.1.trans h.1, k.2.1.trans h.2.1, k.2.2.1.trans h.2.2.1, Nat.le_trans h.2.2.2.1 k.2.2.2.1, fun i hi h1 h2 => (k.2.2.2.2 i (Nat.lt_of_lt_of_le hi h.2.2.2.1) h1 h2).trans (h.2.2.2.2 i hi h1 h2)⟩
theorem Only2.of_B (h : Only B w w') : Only2 g B w w' := ⟨h.os, h.tape, h.output, h.size, fun k hk _ h2 => h.heap hk h2⟩
theorem Only2.of_g (h : Only g w w') : Only2 g B w w' := ⟨h.os, h.tape, h.output, h.size, fun k hk h1 _ => h.heap hk h1⟩
theorem Only2.of_below (h : Below w.heap.size w w') : Only2 g B w w' := ⟨h.os, h.tape, h.output, h.size, fun k hk _ _ => h.block k hk⟩
theorem Only2.size (h : Only2 g B w w') : w.heap.size ≤ w'.heap.size := h.2.2.2.1
theorem Only2.heap (h : Only2 g B w w') {k : Nat} (hk : k < w.heap.size) (h1 : k ≠ g) (h2 : k ≠ B) : w'.heap[k]? = w.heap[k]? := h.2.2.2.2 k hk h1 h2
theorem Only2.kept (h : Only2 g B w w') {R : Nat → Prop} (hR : ∀ b, R b → b ≠ g ∧ b ≠ B) : Kept R w w' := ⟨h.size, fun b hb hl => h.heap hl (hR b hb).1 (hR b hb).2⟩
theorem Only2.below (h : Only2 g B w w') {L : Nat} (hL : L ≤ w.heap.size) (h1 : L ≤ g) (h2 : L ≤ B) : Below L w w' :=
  ⟨h.1, h.2.1, h.2.2.1, h.size, fun k hk => h.heap (by omega) (by omega) (by omega)⟩
theorem Only2.alloc (o : Obj) : Only2 g B w (w.alloc o) := Only2.of_below ((Below.refl _ _).alloc (Nat.le_refl _) _)
end

/-- What the project knows of the way so far. -/
structure Wk (w : World) (g B : Nat) (s : Seen) : Prop where
  ob : Ob w g 71 #[.map (some B), .int .i64 s.n]
  map : MapIs w B s.ids
  ne : g ≠ B
  few : s.n ≤ s.ids.length
theorem Wk.below {w w' : World} {g B : Nat} {s : Seen} (h : Wk w g B s) (hb : Below w.heap.size w w') : Wk w' g B s :=
  ⟨h.ob.below hb h.ob.lt, h.map.below hb, h.ne, h.few⟩
theorem Wk.alloc {w : World} {g B : Nat} {s : Seen} (h : Wk w g B s) (o : Obj) : Wk (w.alloc o) g B s := h.below ((Below.refl _ _).alloc (Nat.le_refl _) _)
/-- What is known of it behind a call: in an error whatever was met. -/
def WkE (w : World) (g B : Nat) (z : Int × Seen) : Prop := ∃ s, Wk w g B s ∧ (z.1 = 0 → s = z.2)
theorem WkE.ok {w : World} {g B : Nat} {z : Int × Seen} (h : WkE w g B z) (h0 : z.1 = 0) : Wk w g B z.2 := by obtain ⟨s, h1, h2⟩ := h; exact h2 h0 ▸ h1
theorem idS_some {x : ByteArray} {s : Seen} (h : (decide (Named (bl x)) && !metB x s.ids) = true) : idS x s = some ⟨s.ids ++ [x], s.n⟩ := by
  simp at h
  unfold idS
  rw [if_pos h]
theorem idS_none {x : ByteArray} {s : Seen} (h : (decide (Named (bl x)) && !metB x s.ids) = false) : idS x s = none := by
  unfold idS
  rw [if_neg]
  rintro ⟨h1, h2⟩
  simp [h1, h2] at h

set_option maxRecDepth 100000 in
set_option maxHeartbeats 3200000 in
theorem rule_any {w : World} {g B : Nat} {s : Seen} {R : Nat → Prop} {r : Rul} {A1 A2 A3 : Option Addr} {n1 k1 n2 k2 n3 k3 : Nat} (hk : Wk w g B s) (hlen : s.ids.length < 900000) (hR : ∀ b, R b → b ≠ g ∧ b ≠ B)
    (hid : r.id.size ≤ maxLen) (h1 : Tg w R A1 n1 k1 r.tg) (h2 : Nds w R A2 n2 k2 r.cond) (h3 : Dus w R A3 n3 k3 r.ob) :
    Calls Try.prog 59 #[.pointer (some ⟨g, 0, none⟩), .agg #[.string r.id, .bool r.deny, .slice A1 n1 k1, .slice A2 n2 k2, .slice A3 n3 k3]] w
      fun e w' => e = .returned (.int .i64 (ruleS r s).1) ∧ Only2 g B w w' ∧ WkE w' g B (ruleS r s) := by
  obtain ⟨id, dn, tg, cond, ob⟩ := r
  simp only at hid h1 h2 h3 ⊢
  have HW := Lib.hid hk
  have H1 := Lib.hid h1
  have H2 := Lib.hid h2
  have H3 := Lib.hid h3
  have HRR := Lib.hid hR
  have hkeep0 := hk.alloc (.cells #[.string id, .bool dn, .slice A1 n1 k1, .slice A2 n2 k2, .slice A3 n3 k3] 40)
  have HF := Lib.hid (fresh_any id hid hkeep0.ob hkeep0.map hkeep0.ne (by omega))
  have HW0 := Lib.hid hkeep0
  have hfew := hk.few
  have hgl : g < w.heap.size := hk.ob.lt
  have hBl : B < w.heap.size := hk.map.lt
  have hne := hk.ne
  clear hk hkeep0 h1 h2 h3 hR
  by_cases hfr : (decide (Named (bl id)) && !metB id s.ids) = true
  · rw [hfr] at HF
    have HE : Hid (ruleS ⟨id, dn, tg, cond, ob⟩ s = if 64 < s.n + 1 then (6, ⟨s.ids ++ [id], s.n + 1⟩) else (orE (tgE tg) (orE (exprE cond) (obE ob)), ⟨s.ids ++ [id], s.n + 1⟩)) := by
      show ruleS ⟨id, dn, tg, cond, ob⟩ s = _
      unfold ruleS
      simp only [idS_some hfr]
    clear hfr
    generalize ruleS ⟨id, dn, tg, cond, ob⟩ s = z at *
    go_enter Try.func59, Try.ntmps59
    by_cases h64 : 64 < s.n + 1
    · go_wp2_with (first
        | (go_at_call 53; refine HF.out.mono ?_; rintro e w1 ⟨rfl, hb1, hm1⟩; have O1 := Lib.hid (Ob.keep HW0.out.ob (hb1.heap HW0.out.ob.lt hne)); have c1 := O1.out.cell 1; have f1 := O1.out.frozen 1))
      go_ret
      rw [HE.out, if_pos h64]
      refine ⟨rfl, ((Only2.alloc _).trans (Only2.of_B hb1)).trans (Only2.of_g (Only.refl.setCell rfl _)), ⟨s.ids ++ [id], s.n + 1⟩, ⟨O1.out.put 1 (.int .i64 ((s.n : Int) + 1)), ?_, hne, ?_⟩, fun h => by cases h⟩
      · exact hm1.kept (Only.refl.setCell (r := g) (p := ⟨g, 1, none⟩) rfl (.int .i64 ((s.n : Int) + 1))) (Ne.symm hne)
      · show s.n + 1 ≤ (s.ids ++ [id]).length
        rw [List.length_append, List.length_singleton]; omega
    · rw [if_neg h64] at HE
      go_wp2_with (first
        | (go_at_call 53; refine HF.out.mono ?_; rintro e w1 ⟨rfl, hb1, hm1⟩; have O1 := Lib.hid (Ob.keep HW0.out.ob (hb1.heap HW0.out.ob.lt hne)); have c1 := O1.out.cell 1; have f1 := O1.out.frozen 1))
      have O3 := Lib.hid (O1.out.put 1 (.int .i64 ((s.n : Int) + 1)))
      have M3 := Lib.hid (hm1.kept (Only.refl.setCell (r := g) (p := ⟨g, 1, none⟩) rfl (.int .i64 ((s.n : Int) + 1))) (Ne.symm hne))
      have G3 := Lib.hid (((Only2.alloc (g := g) (B := B) (w := w) (.cells #[.string id, .bool dn, .slice A1 n1 k1, .slice A2 n2 k2, .slice A3 n3 k3] 40)).trans (Only2.of_B hb1)).trans (Only2.of_g (Only.refl.setCell (r := g) (p := ⟨g, 1, none⟩) rfl (.int .i64 ((s.n : Int) + 1)))))
      have X3 := Lib.hid (show Ob (w1.setCell ⟨g, 1, none⟩ (.int .i64 ((s.n : Int) + 1))) w.heap.size 40 #[.string id, .bool dn, .slice A1 n1 k1, .slice A2 n2 k2, .slice A3 n3 k3] from
        Ob.keep (Ob.keep (Ob.made w _ _) (hb1.heap (by simp) (by omega))) (Below.heap_setCell _ _ _ _ (by simp; omega)))
      clear c1 f1 O1 hb1 hm1 HF HW0
      generalize w1.setCell ⟨g, 1, none⟩ (.int .i64 ((s.n : Int) + 1)) = W3 at *
      have K3 := Lib.hid (G3.out.kept HRR.out)
      have T1 := Lib.hid (H1.out.keep K3.out (fun _ h _ => h))
      have T2 := Lib.hid (H2.out.keep K3.out (fun _ h _ => h))
      have T3 := Lib.hid (H3.out.keep K3.out (fun _ h _ => h))
      have KK := Lib.hid (below_regrown W3)
      have Q1 : Hid (∀ d os, Calls Try.prog 56 #[.slice A1 n1 k1] (grow (redrawn W3 d) os) fun e w'' => e = .returned (.int .i64 (tgE tg)) ∧ ∃ p : Regrown, w'' = grow (redrawn W3 p.d) p.os) := fun d os => Calls.regrown_of (target_any _ (T1.out.keep (Kept.all (KK.out d os) R) (fun _ h _ => h)))
      have Q2 : Hid (∀ d os, Calls Try.prog 73 #[.slice A2 n2 k2] (grow (redrawn W3 d) os) fun e w'' => e = .returned (.int .i64 (exprE cond)) ∧ ∃ p : Regrown, w'' = grow (redrawn W3 p.d) p.os) := fun d os => Calls.regrown_of (expr_any _ (T2.out.keep (Kept.all (KK.out d os) R) (fun _ h _ => h)))
      have Q3 : Hid (∀ d os, Calls Try.prog 57 #[.slice A3 n3 k3] (grow (redrawn W3 d) os) fun e w'' => e = .returned (.int .i64 (obE ob)) ∧ ∃ p : Regrown, w'' = grow (redrawn W3 p.d) p.os) := fun d os => Calls.regrown_of (obls_any _ (T3.out.keep (Kept.all (KK.out d os) R) (fun _ h _ => h)))
      have x2 := fun d os => cell_regrown (X3.out.cell 2) d os
      have x3 := fun d os => cell_regrown (X3.out.cell 3) d os
      have x4 := fun d os => cell_regrown (X3.out.cell 4) d os
      have HOR := Lib.hid (or3 (tgE tg) (exprE cond) (obE ob))
      generalize tgE tg = a1 at *
      generalize exprE cond = a2 at *
      generalize obE ob = a3 at *
      refine wp_region_below_tail 9 (by kernel_rfl) (by kernel_rfl) ?_
      simp only [List.take_succ_cons, List.take_zero, List.drop_succ_cons, List.drop_zero]
      repeat (go_big_quiet_step ((first
        | (go_at_call 56; exact Q1.out _ _)
        | (go_at_call 73; exact Q2.out _ _)
        | (go_at_call 57; exact Q3.out _ _))))
      refine wpQuiet_nil ?_
      intro _ hw'
      obtain ⟨⟨dq, osq⟩, hw''⟩ := hw'
      subst hw''
      have hbel := below_regrown W3 dq osq
      have O4 := Lib.hid (O3.out.below hbel O3.out.lt)
      have M4 := Lib.hid (M3.out.below hbel)
      have G4 := Lib.hid (G3.out.trans (Only2.of_below hbel))
      clear x2 x3 x4 hbel Q1 Q2 Q3 KK O3 M3 G3 K3 T1 T2 T3 X3
      dsimp only at O4 M4 G4 ⊢
      generalize grow (redrawn W3 dq) osq = W4 at *
      have HSL := Lib.hid (Sl.lit W4 29 (ev [a1, a2, a3]) 3 rfl (by simp [maxLen]))
      go_wp2_with (first
        | (go_at_call 55; refine (or_any (l := [a1, a2, a3]) HSL.out (by omega) (by simp)).mono ?_; rintro e w5 ⟨rfl, rfl⟩))
      go_ret
      rw [HE.out]
      refine ⟨by rw [HOR.out]; rfl, G4.out.trans (Only2.alloc _), ⟨s.ids ++ [id], s.n + 1⟩, ⟨?_, ?_, hne, ?_⟩, fun _ => rfl⟩
      · exact (O4.out.keep (Below.heap_alloc _ _ _ O4.out.lt))
      · exact M4.out.below ((Below.refl _ _).alloc (Nat.le_refl _) _)
      · show s.n + 1 ≤ (s.ids ++ [id]).length
        rw [List.length_append, List.length_singleton]; omega
  · rw [Bool.not_eq_true] at hfr
    rw [hfr] at HF
    have HE : Hid (ruleS ⟨id, dn, tg, cond, ob⟩ s = (1, s)) := by
      show ruleS ⟨id, dn, tg, cond, ob⟩ s = _
      unfold ruleS
      simp only [idS_none hfr]
    clear hfr
    generalize ruleS ⟨id, dn, tg, cond, ob⟩ s = z at *
    go_enter Try.func59, Try.ntmps59
    go_wp2_with (first
      | (go_at_call 53; refine HF.out.mono ?_; rintro e w1 ⟨rfl, hb1, hm1⟩))
    go_ret
    rw [HE.out]
    exact ⟨rfl, (Only2.alloc _).trans (Only2.of_B hb1), ⟨s.ids ++ [id], s.n⟩, ⟨HW0.out.ob.keep (hb1.heap HW0.out.ob.lt hne), hm1, hne, by show s.n ≤ (s.ids ++ [id]).length; rw [List.length_append, List.length_singleton]; omega⟩, fun h => by cases h⟩

theorem firstS_app {α : Type} (f : α → Seen → Int × Seen) : ∀ (l m : List α) (s : Seen), firstS f (l ++ m) s = if (firstS f l s).1 ≠ 0 then firstS f l s else firstS f m (firstS f l s).2
  | [], m, s => by simp [firstS]
  | x :: l, m, s => by
    simp only [List.cons_append, firstS]
    by_cases h : (f x s).1 = 0
    · simp only [h, ne_eq, not_true, if_false]
      exact firstS_app f l m (f x s).2
    · simp [h]
/-- So far without an error, and this was met. -/
def StTo {α : Type} (f : α → Seen → Int × Seen) (l : List α) (s0 : Seen) (k : Nat) (s : Seen) : Prop := firstS f (l.take k) s0 = (0, s)
section
variable {α : Type} {f : α → Seen → Int × Seen} {l : List α} {s0 s : Seen} {k : Nat} {x : α}
theorem StTo.zero (f : α → Seen → Int × Seen) (l : List α) (s0 : Seen) : StTo f l s0 0 s0 := rfl
theorem StTo.step (h : StTo f l s0 k s) (hx : l[k]? = some x) (h0 : (f x s).1 = 0) : StTo f l s0 (k + 1) (f x s).2 := by
  unfold StTo at h ⊢
  rw [take_next hx, firstS_app, h]
  simp only [ne_eq, not_true, if_false, firstS, h0]
theorem StTo.err (h : StTo f l s0 k s) (hx : l[k]? = some x) (h0 : (f x s).1 ≠ 0) : firstS f l s0 = f x s := by
  have e : firstS f (l.take (k + 1)) s0 = f x s := by
    unfold StTo at h
    rw [take_next hx, firstS_app, h]
    simp [firstS, h0]
  rw [← List.take_append_drop (k + 1) l, firstS_app, e, if_pos h0]
theorem StTo.all {n : Nat} (h : StTo f l s0 n s) (hn : l.length = n) : firstS f l s0 = (0, s) := by
  unfold StTo at h
  rwa [List.take_of_length_le (by omega)] at h
end
theorem idS_ids {x : ByteArray} {s s1 : Seen} (h : idS x s = some s1) : s1.ids.length = s.ids.length + 1 := by
  unfold idS at h
  split at h
  · obtain rfl := Option.some.inj h; simp
  · cases h
theorem ruleS_ids (r : Rul) (s : Seen) : (ruleS r s).2.ids.length ≤ s.ids.length + 1 := by
  unfold ruleS
  split
  · exact Nat.le_succ _
  · rename_i s1 h
    have := idS_ids h
    split <;> (simp only; omega)

set_option maxHeartbeats 1600000 in
theorem each_rule {w : World} {g B : Nat} {s : Seen} {R : Nat → Prop} {A : Option Addr} {n c : Nat} {l : List Rul} (hk : Wk w g B s) (hlen : s.ids.length < 800000) (hn : n ≤ 1000) (hR : ∀ b, R b → b ≠ g ∧ b ≠ B) (h : Rus w R A n c l) :
    Calls Try.prog 58 #[.slice A n c, .func (.func 59) #[.pointer (some ⟨g, 0, none⟩)] #[]] w
      fun e w' => e = .returned (.int .i64 (firstS ruleS l s).1) ∧ Only2 g B w w' ∧ WkE w' g B (firstS ruleS l s) := by
  have hle := Rw.le h
  have hcap := Rw.cap h
  have HL := Lib.hid (Rw.len h)
  unfold maxLen at hcap
  have H := Lib.hid h
  have HW := Lib.hid hk
  have HRR := Lib.hid hR
  have HGL : Hid (g < w.heap.size ∧ B < w.heap.size) := ⟨hk.ob.lt, hk.map.lt⟩
  clear h hk hR
  go_enter Try.func58, Try.ntmps58
  go_wp2
  go_loopw [10] (fun i wr => ∃ (k : Nat) (s' : Seen), k ≤ n ∧ i = .int .i64 k ∧ StTo ruleS l s k s' ∧ s'.ids.length ≤ s.ids.length + k ∧ Wk wr g B s' ∧ Only2 g B w wr) (fun i _ => n - (intOf i).toNat)
  case atStart => exact ⟨0, s, Nat.zero_le _, rfl, StTo.zero _ _ _, Nat.le_refl _, HW.out, Only2.refl⟩
  case round =>
    obtain ⟨k, s', hk, rfl, hf, hids, hw, hb⟩ := hrel
    have HF := Lib.hid hf
    have HB := Lib.hid hb
    have HW' := Lib.hid hw
    have HI := Lib.hid hids
    clear hf hb hw hids
    by_cases hlt : k < n
    · obtain ⟨b, o, x, A1, n1, k1, A2, n2, k2, A3, n3, k3, rfl, hRb, hbl, hx, hid, ⟨c0, c1, c2, c3, c4⟩, h1, h2, h3⟩ := (H.out.keep (HB.out.kept HRR.out) (fun _ h _ => h)).at_ hlt
      have HX := Lib.hid hx
      have hka := Kept.all ((Below.refl _ wr).alloc (Nat.le_refl _) (.cells #[.string x.id, .bool x.deny, .slice A1 n1 k1, .slice A2 n2 k2, .slice A3 n3 k3] 40)) R
      have hcon := rule_any (HW'.out.alloc (.cells #[.string x.id, .bool x.deny, .slice A1 n1 k1, .slice A2 n2 k2, .slice A3 n3 k3] 40)) (by have := HI.out; omega) HRR.out hid (h1.keep hka (fun _ h _ => h)) (h2.keep hka (fun _ h _ => h)) (h3.keep hka (fun _ h _ => h))
      have HIX := Lib.hid (ruleS_ids x s')
      clear hx hka h1 h2 h3
      by_cases hz : (ruleS x s').1 = 0
      · have HZ := Lib.hid hz
        rw [hz] at hcon
        have HC := Lib.hid hcon
        clear hz hcon
        go_wp2_with (go_at_call 59; refine HC.out.mono ?_; rintro e w1 ⟨rfl, hb1, hw1⟩; have B1 := Lib.hid hb1; have W1 := Lib.hid (hw1.ok HZ.out))
        go_roundw
        case rel => exact ⟨k + 1, _, by omega, by go_num, HF.out.step HX.out HZ.out, by have := HI.out; have := HIX.out; omega, W1.out, HB.out.trans ((Only2.alloc _).trans B1.out)⟩
        case measure => simp [intOf]; omega
      · have HZ := Lib.hid hz
        obtain ⟨r, hr⟩ : ∃ r, r = ruleS x s' := ⟨_, rfl⟩
        have HR := Lib.hid hr
        rw [← hr] at hz hcon
        have hne : (r.1 != 0) = true := by simpa using hz
        have HC := Lib.hid hcon
        clear hcon hr
        clear hz
        go_wp2_with (go_at_call 59; refine HC.out.mono ?_; rintro e w1 ⟨rfl, hb1, hw1⟩; have B1 := Lib.hid hb1; have W1 := Lib.hid hw1; clear hw1)
        go_ret
        rw [HF.out.err HX.out HZ.out, ← HR.out]
        exact ⟨rfl, HB.out.trans ((Only2.alloc _).trans B1.out), W1.out⟩
    · obtain rfl : k = n := by omega
      go_wp2
      go_ret
      rw [HF.out.all HL.out]
      exact ⟨rfl, HB.out, s', HW'.out, fun _ => rfl⟩
end Go.Proofs.Ythppdgiobflfpaa
/- A policy and its kids, on the way through (the project's walk.policy, its closure, each over policies). -/
namespace Go.Proofs.Ythppdgiobflfpaa
set_option linter.unusedVariables false
open Go.RowKit Go.Sort

/-- How many names may be met at most. -/
def idsB : Nat → Nat
  | 0 => 0
  | d + 1 => 17 + 16 * idsB d
theorem firstS_ids {α : Type} {f : α → Seen → Int × Seen} {c : Nat} (hf : ∀ x s, (f x s).2.ids.length ≤ s.ids.length + c) : ∀ (l : List α) (s : Seen), (firstS f l s).2.ids.length ≤ s.ids.length + l.length * c
  | [], s => by simp [firstS]
  | x :: l, s => by
    have h1 := hf x s
    have h2 := firstS_ids hf l (f x s).2
    simp only [firstS, List.length_cons, Nat.add_mul, Nat.one_mul]
    split <;> omega
theorem polS_ids : ∀ (d : Nat) (p : Pol) (s : Seen), (polS d p s).2.ids.length ≤ s.ids.length + idsB d
  | 0, p, s => by simp [polS, idsB]
  | d + 1, p, s => by
    simp only [polS, idsB]
    split
    · simp only; omega
    · rename_i s1 h
      have h1 := idS_ids h
      split
      · simp only; omega
      split
      · simp only; omega
      split
      · simp only; omega
      rename_i hn
      have h2 := firstS_ids (c := 1) ruleS_ids p.rules s1
      have hr : p.rules.length ≤ 16 := by omega
      have hk : p.kids.length ≤ 16 := by omega
      split
      · omega
      have h3 := firstS_ids (c := idsB d) (polS_ids d) p.kids (firstS ruleS p.rules s1).2
      have h4 : p.kids.length * idsB d ≤ 16 * idsB d := Nat.mul_le_mul_right _ hk
      omega

/-- The project's walk over a policy, at a depth of which so many are left. -/
def PolOk (d : Nat) : Prop :=
  ∀ {w : World} {g B : Nat} {s : Seen} {R : Nat → Prop} {m : Nat} {p : Pol} {A1 A2 A3 A4 : Option Addr} {n1 k1 n2 k2 n3 k3 n4 k4 : Nat}, Wk w g B s → s.ids.length + idsB d < 800000 → (∀ b, R b → b ≠ g ∧ b ≠ B) →
    p.id.size ≤ maxLen → Tg w R A1 n1 k1 p.tg → Rus w R A2 n2 k2 p.rules → Pls w R m A3 n3 k3 p.kids → Dus w R A4 n4 k4 p.ob →
    Calls Try.prog 41 #[.pointer (some ⟨g, 0, none⟩), .agg #[.string p.id, .bool p.set, .int .i64 p.alg, .slice A1 n1 k1, .slice A2 n2 k2, .slice A3 n3 k3, .slice A4 n4 k4], .int .i64 (5 - (d : Int))] w
      fun e w' => e = .returned (.int .i64 (polS d p s).1) ∧ Only2 g B w w' ∧ WkE w' g B (polS d p s)

theorem pol_zero : PolOk 0 := by
  intro w g B s R m p A1 A2 A3 A4 n1 k1 n2 k2 n3 k3 n4 k4 hk _ _ _ _ _ _ _
  go_enter Try.func41, Try.ntmps41
  go_wp2_with fail
  go_ret
  exact ⟨rfl, ((Only2.alloc _).trans (Only2.alloc _)).trans (Only2.alloc _), s, ((hk.alloc _).alloc _).alloc _, fun h => by cases h⟩

set_option maxHeartbeats 800000 in
/-- The closure that goes one deeper. -/
theorem deeper_any {d : Nat} (ih : PolOk d) {w : World} {g B h3 h5 : Nat} {s : Seen} {R : Nat → Prop} {m : Nat} {p : Pol} {A1 A2 A3 A4 : Option Addr} {n1 k1 n2 k2 n3 k3 n4 k4 : Nat} (hd : d ≤ 4) (hk : Wk w g B s) (hlen : s.ids.length + idsB d < 800000) (hR : ∀ b, R b → b ≠ g ∧ b ≠ B)
    (hid : p.id.size ≤ maxLen) (h1 : Tg w R A1 n1 k1 p.tg) (h2 : Rus w R A2 n2 k2 p.rules) (h3' : Pls w R m A3 n3 k3 p.kids) (h4 : Dus w R A4 n4 k4 p.ob)
    (hp : Ob w h3 104 #[.pointer (some ⟨g, 0, none⟩)]) (hi : Ob w h5 3 #[.int .i64 (4 - (d : Int))]) :
    Calls Try.prog 61 #[.agg #[.string p.id, .bool p.set, .int .i64 p.alg, .slice A1 n1 k1, .slice A2 n2 k2, .slice A3 n3 k3, .slice A4 n4 k4], .pointer (some ⟨h3, 0, none⟩), .pointer (some ⟨h5, 0, none⟩)] w
      fun e w' => e = .returned (.int .i64 (polS d p s).1) ∧ Only2 g B w w' ∧ WkE w' g B (polS d p s) := by
  have c3 := hp.cell 0
  have c5 := hi.cell 0
  have l3 := hp.lt
  have l5 := hi.lt
  have hka := Kept.all ((Below.refl _ w).alloc (Nat.le_refl _) (.cells #[.string p.id, .bool p.set, .int .i64 p.alg, .slice A1 n1 k1, .slice A2 n2 k2, .slice A3 n3 k3, .slice A4 n4 k4] 28)) R
  have hcon := ih (hk.alloc (.cells #[.string p.id, .bool p.set, .int .i64 p.alg, .slice A1 n1 k1, .slice A2 n2 k2, .slice A3 n3 k3, .slice A4 n4 k4] 28)) hlen hR hid (h1.keep hka (fun _ h _ => h)) (h2.keep hka (fun _ h _ => h)) (h3'.keep hka (fun _ h _ => h)) (h4.keep hka (fun _ h _ => h))
  have hdd : (4 - (d : Int)) + 1 = 5 - (d : Int) := by omega
  have hd2 : -10 ≤ (4 - (d : Int)) ∧ (4 - (d : Int)) ≤ 4 := by omega
  rw [← hdd] at hcon
  have HC := Lib.hid hcon
  clear hcon hka hk hlen hR hid h1 h2 h3' h4 hp hi hdd ih
  generalize 4 - (d : Int) = q at *
  go_enter Try.func61, Try.ntmps61
  go_wp2_with (go_at_call 41; refine HC.out.mono ?_; rintro e w1 ⟨rfl, hb1, hw1⟩)
  go_ret
  exact ⟨rfl, (Only2.alloc _).trans hb1, hw1⟩

set_option maxHeartbeats 1600000 in
theorem each_pol {d : Nat} (ih : PolOk d) {w : World} {g B h3 h5 : Nat} {s : Seen} {R : Nat → Prop} {m : Nat} {A : Option Addr} {n c : Nat} {l : List Pol} (hd : d ≤ 4) (hk : Wk w g B s) (hlen : s.ids.length + n * idsB d < 800000) (hR : ∀ b, R b → b ≠ g ∧ b ≠ B)
    (hp : Ob w h3 104 #[.pointer (some ⟨g, 0, none⟩)]) (hi : Ob w h5 3 #[.int .i64 (4 - (d : Int))]) (hh : (h3 ≠ g ∧ h3 ≠ B) ∧ h5 ≠ g ∧ h5 ≠ B) (h : Pls w R m A n c l) :
    Calls Try.prog 60 #[.slice A n c, .func (.func 61) #[] #[.pointer (some ⟨h3, 0, none⟩), .pointer (some ⟨h5, 0, none⟩)]] w
      fun e w' => e = .returned (.int .i64 (firstS (polS d) l s).1) ∧ Only2 g B w w' ∧ WkE w' g B (firstS (polS d) l s) := by
  have hle := Rw.le h
  have hcap := Rw.cap h
  have HL := Lib.hid (Rw.len h)
  unfold maxLen at hcap
  have H := Lib.hid h
  have HW := Lib.hid hk
  have HRR := Lib.hid hR
  have HP := Lib.hid hp
  have HII := Lib.hid hi
  have HH := Lib.hid hh
  have HLEN := Lib.hid hlen
  clear h hk hR hp hi hh hlen
  go_enter Try.func60, Try.ntmps60
  go_wp2
  go_loopw [10] (fun i wr => ∃ (k : Nat) (s' : Seen), k ≤ n ∧ i = .int .i64 k ∧ StTo (polS d) l s k s' ∧ s'.ids.length ≤ s.ids.length + k * idsB d ∧ Wk wr g B s' ∧ Only2 g B w wr) (fun i _ => n - (intOf i).toNat)
  case atStart => exact ⟨0, s, Nat.zero_le _, rfl, StTo.zero _ _ _, by omega, HW.out, Only2.refl⟩
  case round =>
    obtain ⟨k, s', hk, rfl, hf, hids, hw, hb⟩ := hrel
    have HF := Lib.hid hf
    have HB := Lib.hid hb
    have HW' := Lib.hid hw
    have HI := Lib.hid hids
    clear hf hb hw hids
    by_cases hlt : k < n
    · obtain ⟨b, o, x, m', A1, n1, k1, A2, n2, k2, A3, n3, k3, A4, n4, k4, rfl, hRb, hbl, hx, hm, ⟨hid, halg⟩, ⟨c0, c1, c2, c3, c4, c5, c6⟩, h1, h2, h3', h4⟩ := (H.out.keep (HB.out.kept HRR.out) (fun _ h _ => h)).at_ hlt
      have HX := Lib.hid hx
      have hbel := (Below.refl _ wr).alloc (Nat.le_refl _) (.cells #[.string x.id, .bool x.set, .int .i64 x.alg, .slice A1 n1 k1, .slice A2 n2 k2, .slice A3 n3 k3, .slice A4 n4 k4] 28)
      have hka := Kept.all hbel R
      have hp' := (HP.out.keep (HB.out.heap HP.out.lt HH.out.1.1 HH.out.1.2))
      have hi' := (HII.out.keep (HB.out.heap HII.out.lt HH.out.2.1 HH.out.2.2))
      have hlen' : s'.ids.length + idsB d < 800000 := by
        have e1 := HI.out
        have e2 := HLEN.out
        have e3 : (k + 1) * idsB d ≤ n * idsB d := Nat.mul_le_mul_right _ hlt
        rw [Nat.add_mul, Nat.one_mul] at e3
        omega
      have hcon := deeper_any ih hd (HW'.out.alloc (.cells #[.string x.id, .bool x.set, .int .i64 x.alg, .slice A1 n1 k1, .slice A2 n2 k2, .slice A3 n3 k3, .slice A4 n4 k4] 28)) hlen' HRR.out hid (h1.keep hka (fun _ h _ => h)) (h2.keep hka (fun _ h _ => h)) (h3'.keep hka (fun _ h _ => h)) (h4.keep hka (fun _ h _ => h))
        (hp'.below hbel hp'.lt) (hi'.below hbel hi'.lt)
      have HIX := Lib.hid (polS_ids d x s')
      have HRel : Hid ((k + 1) * idsB d = k * idsB d + idsB d) := by show (k + 1) * idsB d = _; rw [Nat.add_mul, Nat.one_mul]
      clear hx hka h1 h2 h3' h4 hbel hp' hi' hlen' halg hid hm
      by_cases hz : (polS d x s').1 = 0
      · have HZ := Lib.hid hz
        rw [hz] at hcon
        have HC := Lib.hid hcon
        clear hz hcon
        go_wp2_with (go_at_call 61; refine HC.out.mono ?_; rintro e w1 ⟨rfl, hb1, hw1⟩; have B1 := Lib.hid hb1; have W1 := Lib.hid (hw1.ok HZ.out))
        go_roundw
        case rel => exact ⟨k + 1, _, by omega, by go_num, HF.out.step HX.out HZ.out, by have := HI.out; have := HIX.out; have := HRel.out; omega, W1.out, HB.out.trans ((Only2.alloc _).trans B1.out)⟩
        case measure => simp [intOf]; omega
      · have HZ := Lib.hid hz
        obtain ⟨r, hr⟩ : ∃ r, r = polS d x s' := ⟨_, rfl⟩
        have HR := Lib.hid hr
        rw [← hr] at hz hcon
        have hne : (r.1 != 0) = true := by simpa using hz
        have HC := Lib.hid hcon
        clear hcon hr
        clear hz
        go_wp2_with (go_at_call 61; refine HC.out.mono ?_; rintro e w1 ⟨rfl, hb1, hw1⟩; have B1 := Lib.hid hb1; have W1 := Lib.hid hw1; clear hw1)
        go_ret
        rw [HF.out.err HX.out HZ.out, ← HR.out]
        exact ⟨rfl, HB.out.trans ((Only2.alloc _).trans B1.out), W1.out⟩
    · obtain rfl : k = n := by omega
      go_wp2
      go_ret
      rw [HF.out.all HL.out]
      exact ⟨rfl, HB.out, s', HW'.out, fun _ => rfl⟩
end Go.Proofs.Ythppdgiobflfpaa
