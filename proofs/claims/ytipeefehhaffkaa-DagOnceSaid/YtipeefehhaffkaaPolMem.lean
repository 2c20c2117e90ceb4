/- Policies in memory: rows of structs, of lists, of policies. -/
import Derived.Test.YtipeefehhaffkaaPolMath
import Derived.Test.YtipeefehhaffkaaVBox
import Derived.Test.YtipeefehhaffkaaMem
namespace Go.Proofs.Ytipeefehhaffkaa
set_option linter.unusedVariables false
open Go.RowKit

/-- The slice 'A n c' reads as a row of so many cells each, which say l; they lie in blocks that R lets in. -/
def Rw {α : Type} (k : Nat) (P : List Value → α → Prop) (w : World) (R : Nat → Prop) (A : Option Addr) (n c : Nat) (l : List α) : Prop :=
  l.length = n ∧ n ≤ c ∧ (c ≤ maxLen ∧ n ≤ 140737488351232) ∧ (n = 0 ∨ ∃ b o, A = some ⟨b, o, none⟩ ∧ R b ∧ b < w.heap.size ∧ ∀ j x, l[j]? = some x → ∃ vs : List Value, vs.length = k ∧ (∀ i v, vs[i]? = some v → w.cell? ⟨b, o + j * k + i, none⟩ = some v) ∧ P vs x)

/-- What lies in R is kept. -/
def Kept (R : Nat → Prop) (w w' : World) : Prop := w.heap.size ≤ w'.heap.size ∧ ∀ b, R b → b < w.heap.size → w'.heap[b]? = w.heap[b]?
theorem Kept.refl (R : Nat → Prop) (w : World) : Kept R w w := ⟨Nat.le_refl _, fun _ _ _ => rfl⟩
theorem Kept.below {w w' : World} {B : Nat} (h : Below B w w') {R : Nat → Prop} (hR : ∀ b, R b → b < w.heap.size → b < B) : Kept R w w' := ⟨h.size, fun b hb hlt => h.block b (hR b hb hlt)⟩
theorem Kept.all {w w' : World} (h : Below w.heap.size w w') (R : Nat → Prop) : Kept R w w' := Kept.below h fun _ _ h => h
theorem Kept.trans {R : Nat → Prop} {a b c : World} (h1 : Kept R a b) (h2 : Kept R b c) : Kept R a c :=
  ⟨Nat.le_trans h1.1 h2.1, fun k hk hl => (h2.2 k hk (Nat.lt_of_lt_of_le hl h1.1)).trans (h1.2 k hk hl)⟩

section
variable {α : Type} {k : Nat} {P P' : List Value → α → Prop} {w w' : World} {R R' : Nat → Prop} {A : Option Addr} {n c : Nat} {l : List α}
theorem Rw.len (h : Rw k P w R A n c l) : l.length = n := h.1
theorem Rw.le (h : Rw k P w R A n c l) : n ≤ c := h.2.1
theorem Rw.cap (h : Rw k P w R A n c l) : c ≤ maxLen := h.2.2.1.1
theorem Rw.big (h : Rw k P w R A n c l) : n ≤ 140737488351232 := h.2.2.1.2
theorem Rw.nil_ (k : Nat) (P : List Value → α → Prop) (w : World) (R : Nat → Prop) : Rw k P w R none 0 0 [] := ⟨rfl, Nat.le_refl _, ⟨by simp [maxLen], by omega⟩, .inl rfl⟩
theorem Rw.keep (h : Rw k P w R A n c l) (hk : Kept R w w') (hR : ∀ b, R b → b < w.heap.size → R' b) (hP : ∀ vs x, x ∈ l → P vs x → P' vs x) : Rw k P' w' R' A n c l := by
  obtain ⟨h1, h2, h3, h4⟩ := h
  refine ⟨h1, h2, h3, ?_⟩
  rcases h4 with h4 | ⟨b, o, e, hb, hlt, hc⟩
  · exact .inl h4
  · refine .inr ⟨b, o, e, hR b hb hlt, Nat.lt_of_lt_of_le hlt hk.1, fun j x hx => ?_⟩
    obtain ⟨vs, hl, hv, hp⟩ := hc j x hx
    exact ⟨vs, hl, fun i v hi => (World.cell?_of_block (hk.2 b hb hlt)).trans (hv i v hi), hP vs x (List.mem_of_getElem? hx) hp⟩
theorem Rw.at_ (h : Rw k P w R A n c l) {j : Nat} (hj : j < n) : ∃ b o x vs, A = some ⟨b, o, none⟩ ∧ R b ∧ b < w.heap.size ∧ l[j]? = some x ∧ vs.length = k ∧ (∀ i v, vs[i]? = some v → w.cell? ⟨b, o + j * k + i, none⟩ = some v) ∧ P vs x := by
  obtain ⟨h1, h2, h3, h4⟩ := h
  rcases h4 with h4 | ⟨b, o, e, hb, hlt, hc⟩
  · omega
  · have hl : j < l.length := by omega
    obtain ⟨vs, a1, a2, a3⟩ := hc j l[j] (List.getElem?_eq_getElem hl)
    exact ⟨b, o, l[j], vs, e, hb, hlt, List.getElem?_eq_getElem hl, a1, a2, a3⟩
theorem Rw.take (h : Rw k P w R A n c l) {m : Nat} (hm : m ≤ n) : Rw k P w R A m c (l.take m) := by
  obtain ⟨h1, h2, h3, h4⟩ := h
  refine ⟨by rw [List.length_take]; omega, by omega, ⟨h3.1, by have := h3.2; omega⟩, ?_⟩
  rcases h4 with h4 | ⟨b, o, e, hb, hlt, hc⟩
  · left; omega
  · refine .inr ⟨b, o, e, hb, hlt, fun j x hx => hc j x ?_⟩
    rw [List.getElem?_take] at hx
    split at hx
    · exact hx
    · cases hx
end

def Atr.cells (a : Atr) : List Value := [.int .i64 a.cat, .string a.name, .bool a.must]
def Atr.val (a : Atr) : Value := .agg #[.int .i64 a.cat, .string a.name, .bool a.must]
def Mat.cells (m : Mat) : List Value := [.int .i64 m.a.cat, .string m.a.name, .bool m.a.must, .int .i64 m.op, .int .i64 m.v.k, .int .i64 m.v.n, .string m.v.s]
def Mat.val (m : Mat) : Value := .agg #[.int .i64 m.a.cat, .string m.a.name, .bool m.a.must, .int .i64 m.op, .int .i64 m.v.k, .int .i64 m.v.n, .string m.v.s]
def Nod.cells (m : Nod) : List Value := [.int .i64 m.op, .int .i64 m.v.k, .int .i64 m.v.n, .string m.v.s, .int .i64 m.a.cat, .string m.a.name, .bool m.a.must]
def Nod.val (m : Nod) : Value := .agg #[.int .i64 m.op, .int .i64 m.v.k, .int .i64 m.v.n, .string m.v.s, .int .i64 m.a.cat, .string m.a.name, .bool m.a.must]
def Dut.cells (m : Dut) : List Value := [.int .i64 m.on, .int .i64 m.kind, .string m.arg]
def Dut.val (m : Dut) : Value := .agg #[.int .i64 m.on, .int .i64 m.kind, .string m.arg]

/-- A row of matches, of AllOfs, of AnyOfs; of nodes; of duties. -/
def Ms (w : World) (R : Nat → Prop) := Rw 7 (fun vs (m : Mat) => vs = m.cells ∧ m.ok) w R
def Als (w : World) (R : Nat → Prop) := Rw 1 (fun vs (l : List Mat) => ∃ A n c, vs = [.slice A n c] ∧ Ms w R A n c l) w R
def Tg (w : World) (R : Nat → Prop) := Rw 1 (fun vs (l : List (List Mat)) => ∃ A n c, vs = [.slice A n c] ∧ Als w R A n c l) w R
def Nds (w : World) (R : Nat → Prop) := Rw 7 (fun vs (m : Nod) => vs = m.cells ∧ m.ok) w R
def Dus (w : World) (R : Nat → Prop) := Rw 3 (fun vs (m : Dut) => vs = m.cells ∧ m.ok) w R
/-- A rule's cells. -/
def RulAt (w : World) (R : Nat → Prop) (vs : List Value) (r : Rul) : Prop :=
  ∃ A1 n1 c1 A2 n2 c2 A3 n3 c3, vs = [.string r.id, .bool r.deny, .slice A1 n1 c1, .slice A2 n2 c2, .slice A3 n3 c3] ∧ r.id.size ≤ maxLen ∧ Tg w R A1 n1 c1 r.tg ∧ Nds w R A2 n2 c2 r.cond ∧ Dus w R A3 n3 c3 r.ob
def Rus (w : World) (R : Nat → Prop) := Rw 5 (RulAt w R) w R
/-- A policy's cells, of no more than so many depths. -/
def PolAt (w : World) (R : Nat → Prop) : Nat → List Value → Pol → Prop
  | 0, _, _ => False
  | d + 1, vs, p => ∃ A1 n1 c1 A2 n2 c2 A3 n3 c3 A4 n4 c4, vs = [.string p.id, .bool p.set, .int .i64 p.alg, .slice A1 n1 c1, .slice A2 n2 c2, .slice A3 n3 c3, .slice A4 n4 c4] ∧ p.id.size ≤ maxLen ∧ InI p.alg ∧
      Tg w R A1 n1 c1 p.tg ∧ Rus w R A2 n2 c2 p.rules ∧ Rw 7 (PolAt w R d) w R A3 n3 c3 p.kids ∧ Dus w R A4 n4 c4 p.ob
def Pls (w : World) (R : Nat → Prop) (d : Nat) := Rw 7 (PolAt w R d) w R

section
variable {w w' : World} {R R' : Nat → Prop} {A : Option Addr} {n c : Nat}
theorem Ms.keep {l : List Mat} (h : Ms w R A n c l) (hk : Kept R w w') (hR : ∀ b, R b → b < w.heap.size → R' b) : Ms w' R' A n c l := Rw.keep h hk hR fun _ _ _ h => h
theorem Nds.keep {l : List Nod} (h : Nds w R A n c l) (hk : Kept R w w') (hR : ∀ b, R b → b < w.heap.size → R' b) : Nds w' R' A n c l := Rw.keep h hk hR fun _ _ _ h => h
theorem Dus.keep {l : List Dut} (h : Dus w R A n c l) (hk : Kept R w w') (hR : ∀ b, R b → b < w.heap.size → R' b) : Dus w' R' A n c l := Rw.keep h hk hR fun _ _ _ h => h
theorem Als.keep {l : List (List Mat)} (h : Als w R A n c l) (hk : Kept R w w') (hR : ∀ b, R b → b < w.heap.size → R' b) : Als w' R' A n c l :=
  Rw.keep h hk hR fun _ _ _ ⟨a, b, c, e, h⟩ => ⟨a, b, c, e, h.keep hk hR⟩
theorem Tg.keep {l : Tgt} (h : Tg w R A n c l) (hk : Kept R w w') (hR : ∀ b, R b → b < w.heap.size → R' b) : Tg w' R' A n c l :=
  Rw.keep h hk hR fun _ _ _ ⟨a, b, c, e, h⟩ => ⟨a, b, c, e, h.keep hk hR⟩
theorem RulAt.keep {vs : List Value} {r : Rul} (h : RulAt w R vs r) (hk : Kept R w w') (hR : ∀ b, R b → b < w.heap.size → R' b) : RulAt w' R' vs r := by
  obtain ⟨A1, n1, c1, A2, n2, c2, A3, n3, c3, e, h0, h1, h2, h3⟩ := h
  exact ⟨A1, n1, c1, A2, n2, c2, A3, n3, c3, e, h0, h1.keep hk hR, h2.keep hk hR, h3.keep hk hR⟩
theorem Rus.keep {l : List Rul} (h : Rus w R A n c l) (hk : Kept R w w') (hR : ∀ b, R b → b < w.heap.size → R' b) : Rus w' R' A n c l := Rw.keep h hk hR fun _ _ _ h => h.keep hk hR
theorem PolAt.keep (hk : Kept R w w') (hR : ∀ b, R b → b < w.heap.size → R' b) : ∀ {d : Nat} {vs : List Value} {p : Pol}, PolAt w R d vs p → PolAt w' R' d vs p
  | 0, _, _, h => h
  | d + 1, _, _, ⟨A1, n1, c1, A2, n2, c2, A3, n3, c3, A4, n4, c4, e, h0, h00, h1, h2, h3, h4⟩ =>
    ⟨A1, n1, c1, A2, n2, c2, A3, n3, c3, A4, n4, c4, e, h0, h00, h1.keep hk hR, h2.keep hk hR, Rw.keep h3 hk hR fun _ _ _ h => PolAt.keep hk hR h, h4.keep hk hR⟩
theorem Pls.keep {d : Nat} {l : List Pol} (h : Pls w R d A n c l) (hk : Kept R w w') (hR : ∀ b, R b → b < w.heap.size → R' b) : Pls w' R' d A n c l := Rw.keep h hk hR fun _ _ _ h => PolAt.keep hk hR h
theorem PolAt.more : ∀ {d d' : Nat} {vs : List Value} {p : Pol}, d ≤ d' → PolAt w R d vs p → PolAt w R d' vs p
  | 0, _, _, _, _, h => h.elim
  | d + 1, 0, _, _, hd, _ => by omega
  | d + 1, d' + 1, _, _, hd, ⟨A1, n1, c1, A2, n2, c2, A3, n3, c3, A4, n4, c4, e, h0, h00, h1, h2, h3, h4⟩ =>
    ⟨A1, n1, c1, A2, n2, c2, A3, n3, c3, A4, n4, c4, e, h0, h00, h1, h2, Rw.keep h3 (Kept.refl _ _) (fun _ h _ => h) fun _ _ _ h => PolAt.more (by omega) h, h4⟩

theorem Ms.at_ {l : List Mat} (h : Ms w R A n c l) {j : Nat} (hj : j < n) : ∃ b o m, A = some ⟨b, o, none⟩ ∧ R b ∧ b < w.heap.size ∧ l[j]? = some m ∧ m.ok ∧
    (w.cell? ⟨b, o + j * 7, none⟩ = some (.int .i64 m.a.cat) ∧ w.cell? ⟨b, o + j * 7 + 1, none⟩ = some (.string m.a.name) ∧ w.cell? ⟨b, o + j * 7 + 2, none⟩ = some (.bool m.a.must) ∧ w.cell? ⟨b, o + j * 7 + 3, none⟩ = some (.int .i64 m.op) ∧
      w.cell? ⟨b, o + j * 7 + 4, none⟩ = some (.int .i64 m.v.k) ∧ w.cell? ⟨b, o + j * 7 + 5, none⟩ = some (.int .i64 m.v.n) ∧ w.cell? ⟨b, o + j * 7 + 6, none⟩ = some (.string m.v.s)) := by
  obtain ⟨b, o, m, vs, e, hb, hlt, hm, hl, hv, rfl, hok⟩ := Rw.at_ h hj
  exact ⟨b, o, m, e, hb, hlt, hm, hok, hv 0 _ rfl, hv 1 _ rfl, hv 2 _ rfl, hv 3 _ rfl, hv 4 _ rfl, hv 5 _ rfl, hv 6 _ rfl⟩
theorem Nds.at_ {l : List Nod} (h : Nds w R A n c l) {j : Nat} (hj : j < n) : ∃ b o m, A = some ⟨b, o, none⟩ ∧ R b ∧ b < w.heap.size ∧ l[j]? = some m ∧ m.ok ∧
    (w.cell? ⟨b, o + j * 7, none⟩ = some (.int .i64 m.op) ∧ w.cell? ⟨b, o + j * 7 + 1, none⟩ = some (.int .i64 m.v.k) ∧ w.cell? ⟨b, o + j * 7 + 2, none⟩ = some (.int .i64 m.v.n) ∧ w.cell? ⟨b, o + j * 7 + 3, none⟩ = some (.string m.v.s) ∧
      w.cell? ⟨b, o + j * 7 + 4, none⟩ = some (.int .i64 m.a.cat) ∧ w.cell? ⟨b, o + j * 7 + 5, none⟩ = some (.string m.a.name) ∧ w.cell? ⟨b, o + j * 7 + 6, none⟩ = some (.bool m.a.must)) := by
  obtain ⟨b, o, m, vs, e, hb, hlt, hm, hl, hv, rfl, hok⟩ := Rw.at_ h hj
  exact ⟨b, o, m, e, hb, hlt, hm, hok, hv 0 _ rfl, hv 1 _ rfl, hv 2 _ rfl, hv 3 _ rfl, hv 4 _ rfl, hv 5 _ rfl, hv 6 _ rfl⟩
theorem Dus.at_ {l : List Dut} (h : Dus w R A n c l) {j : Nat} (hj : j < n) : ∃ b o m, A = some ⟨b, o, none⟩ ∧ R b ∧ b < w.heap.size ∧ l[j]? = some m ∧ m.ok ∧
    (w.cell? ⟨b, o + j * 3, none⟩ = some (.int .i64 m.on) ∧ w.cell? ⟨b, o + j * 3 + 1, none⟩ = some (.int .i64 m.kind) ∧ w.cell? ⟨b, o + j * 3 + 2, none⟩ = some (.string m.arg)) := by
  obtain ⟨b, o, m, vs, e, hb, hlt, hm, hl, hv, rfl, hok⟩ := Rw.at_ h hj
  exact ⟨b, o, m, e, hb, hlt, hm, hok, hv 0 _ rfl, hv 1 _ rfl, hv 2 _ rfl⟩
theorem Als.at_ {l : List (List Mat)} (h : Als w R A n c l) {j : Nat} (hj : j < n) : ∃ b o x A' n' c', A = some ⟨b, o, none⟩ ∧ R b ∧ b < w.heap.size ∧ l[j]? = some x ∧ w.cell? ⟨b, o + j, none⟩ = some (.slice A' n' c') ∧ Ms w R A' n' c' x := by
  obtain ⟨b, o, x, vs, e, hb, hlt, hm, hl, hv, A', n', c', rfl, h'⟩ := Rw.at_ h hj
  have := hv 0 _ rfl
  rw [Nat.mul_one] at this
  exact ⟨b, o, x, A', n', c', e, hb, hlt, hm, this, h'⟩
theorem Tg.at_ {l : Tgt} (h : Tg w R A n c l) {j : Nat} (hj : j < n) : ∃ b o x A' n' c', A = some ⟨b, o, none⟩ ∧ R b ∧ b < w.heap.size ∧ l[j]? = some x ∧ w.cell? ⟨b, o + j, none⟩ = some (.slice A' n' c') ∧ Als w R A' n' c' x := by
  obtain ⟨b, o, x, vs, e, hb, hlt, hm, hl, hv, A', n', c', rfl, h'⟩ := Rw.at_ h hj
  have := hv 0 _ rfl
  rw [Nat.mul_one] at this
  exact ⟨b, o, x, A', n', c', e, hb, hlt, hm, this, h'⟩
theorem Rus.at_ {l : List Rul} (h : Rus w R A n c l) {j : Nat} (hj : j < n) : ∃ b o r A1 n1 c1 A2 n2 c2 A3 n3 c3, A = some ⟨b, o, none⟩ ∧ R b ∧ b < w.heap.size ∧ l[j]? = some r ∧ r.id.size ≤ maxLen ∧
    (w.cell? ⟨b, o + j * 5, none⟩ = some (.string r.id) ∧ w.cell? ⟨b, o + j * 5 + 1, none⟩ = some (.bool r.deny) ∧ w.cell? ⟨b, o + j * 5 + 2, none⟩ = some (.slice A1 n1 c1) ∧ w.cell? ⟨b, o + j * 5 + 3, none⟩ = some (.slice A2 n2 c2) ∧ w.cell? ⟨b, o + j * 5 + 4, none⟩ = some (.slice A3 n3 c3)) ∧
    Tg w R A1 n1 c1 r.tg ∧ Nds w R A2 n2 c2 r.cond ∧ Dus w R A3 n3 c3 r.ob := by
  obtain ⟨b, o, r, vs, e, hb, hlt, hm, hl, hv, A1, n1, c1, A2, n2, c2, A3, n3, c3, rfl, h0, h1, h2, h3⟩ := Rw.at_ h hj
  exact ⟨b, o, r, A1, n1, c1, A2, n2, c2, A3, n3, c3, e, hb, hlt, hm, h0, ⟨hv 0 _ rfl, hv 1 _ rfl, hv 2 _ rfl, hv 3 _ rfl, hv 4 _ rfl⟩, h1, h2, h3⟩
theorem Pls.at_ {d : Nat} {l : List Pol} (h : Pls w R d A n c l) {j : Nat} (hj : j < n) : ∃ b o p d' A1 n1 c1 A2 n2 c2 A3 n3 c3 A4 n4 c4, A = some ⟨b, o, none⟩ ∧ R b ∧ b < w.heap.size ∧ l[j]? = some p ∧ d = d' + 1 ∧ (p.id.size ≤ maxLen ∧ InI p.alg) ∧
    (w.cell? ⟨b, o + j * 7, none⟩ = some (.string p.id) ∧ w.cell? ⟨b, o + j * 7 + 1, none⟩ = some (.bool p.set) ∧ w.cell? ⟨b, o + j * 7 + 2, none⟩ = some (.int .i64 p.alg) ∧ w.cell? ⟨b, o + j * 7 + 3, none⟩ = some (.slice A1 n1 c1) ∧
      w.cell? ⟨b, o + j * 7 + 4, none⟩ = some (.slice A2 n2 c2) ∧ w.cell? ⟨b, o + j * 7 + 5, none⟩ = some (.slice A3 n3 c3) ∧ w.cell? ⟨b, o + j * 7 + 6, none⟩ = some (.slice A4 n4 c4)) ∧
    Tg w R A1 n1 c1 p.tg ∧ Rus w R A2 n2 c2 p.rules ∧ Pls w R d' A3 n3 c3 p.kids ∧ Dus w R A4 n4 c4 p.ob := by
  obtain ⟨b, o, p, vs, e, hb, hlt, hm, hl, hv, hp⟩ := Rw.at_ h hj
  match d, hp with
  | d' + 1, ⟨A1, n1, c1, A2, n2, c2, A3, n3, c3, A4, n4, c4, hvs, h0, h00, h1, h2, h3, h4⟩ =>
    subst hvs
    exact ⟨b, o, p, d', A1, n1, c1, A2, n2, c2, A3, n3, c3, A4, n4, c4, e, hb, hlt, hm, rfl, ⟨h0, h00⟩, ⟨hv 0 _ rfl, hv 1 _ rfl, hv 2 _ rfl, hv 3 _ rfl, hv 4 _ rfl, hv 5 _ rfl, hv 6 _ rfl⟩, h1, h2, h3, h4⟩
end
end Go.Proofs.Ytipeefehhaffkaa
