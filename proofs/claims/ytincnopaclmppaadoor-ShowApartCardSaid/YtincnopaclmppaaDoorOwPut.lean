/- A store into a row of the call's own whose elements lead to memory. -/
import Derived.Test.YtincnopaclmppaaDoorKeepCopy
import Derived.Test.YtincnopaclmppaaDoorPolRight
namespace Go.Proofs.YtincnopaclmppaaDoor
set_option linter.unusedVariables false
open Go.RowKit

theorem flatten_set0 {k : Nat} {u : Value} : ∀ {raw : List (List Value)} {j : Nat} {vs : List Value}, (∀ y ∈ raw, y.length = k) → raw[j]? = some vs → 0 < k → (raw.set j (vs.set 0 u)).flatten = raw.flatten.set (j * k) u
  | [], _, _, _, h, _ => by simp at h
  | y :: raw, 0, vs, hk, h, h0 => by
    simp at h
    subst h
    rw [List.set_cons_zero, List.flatten_cons, List.flatten_cons, Nat.zero_mul, List.set_append_left _ _ (by rw [hk y (by simp)]; exact h0)]
  | y :: raw, j + 1, vs, hk, h, h0 => by
    have hy := hk y (by simp)
    rw [List.set_cons_succ, List.flatten_cons, List.flatten_cons, flatten_set0 (fun z hz => hk z (by simp [hz])) (by simpa using h) h0,
      List.set_append_right _ _ (by rw [hy, Nat.add_mul]; omega), hy, show (j + 1) * k - k = j * k by rw [Nat.add_mul]; omega]
/-- Into an element's first cell. -/
theorem Ow.put0 {α : Type} {k : Nat} {P : List Value → α → Prop} {w : World} {base : Nat} {E : TypeId} {A : Option Addr} {n c : Nat} {l : List α} (h : Ow k P w base E A n c l) {j : Nat} (hj : j < n) (hk : 0 < k) (u : Value) :
    ∃ g vs x, A = some ⟨g, 0, none⟩ ∧ base ≤ g ∧ g < w.heap.size ∧ l[j]? = some x ∧ P vs x ∧ w.cell? ⟨g, j * k, none⟩ = vs[0]? ∧ vs.length = k ∧ w.frozen? ⟨g, j * k, none⟩ = false ∧ Only g w (w.setCell ⟨g, j * k, none⟩ u) ∧
      ∀ (P' : List Value → α → Prop) y, (∀ vs x, P vs x → P' vs x) → P' (vs.set 0 u) y → Ow k P' (w.setCell ⟨g, j * k, none⟩ u) base E A n c (l.set j y) := by
  obtain ⟨raw, h1, h2, h3, h4, h5⟩ := h
  rcases h1.2 with ⟨hv, hn⟩ | ⟨g, cap, cur, hv, hb, hg, hnc, hcm, hcs, ht⟩
  · omega
  · injection hv with e1 e2 e3
    subst e1 e3
    have hr : raw[j]? = some raw[j] := List.getElem?_eq_getElem (by omega)
    have hx : l[j]? = some l[j] := List.getElem?_eq_getElem (by omega)
    have hlen := h4 _ (List.getElem_mem (show j < raw.length by omega))
    obtain ⟨s1, s2⟩ := h1.stored (j * k) u
    have hlt : g < w.heap.size := by
      rcases Nat.lt_or_ge g w.heap.size with hlt | hge
      · exact hlt
      · rw [Array.getElem?_eq_none hge] at hg; cases hg
    refine ⟨g, raw[j], l[j], rfl, hb, hlt, hx, h5 j _ _ hr hx, ?_, hlen, by simp [World.frozen?, hg], s2, fun P' y hP hy => ⟨raw.set j (raw[j].set 0 u), ?_, by rw [List.length_set]; exact h2, by rw [List.length_set]; exact h3, fun z hz => ?_, fun i vs x a b => ?_⟩⟩
    · have hv0 : (raw[j])[0]? = some (raw[j])[0] := List.getElem?_eq_getElem (by omega)
      rw [hv0]
      have := h1.cells (g := g) rfl (j * k + 0) _ (flatten_at h4 hr hv0)
      have add : (⟨g, 0, none⟩ : Addr).add (j * k + 0) = ⟨g, j * k, none⟩ := by by_cases hj : j * k = 0 <;> simp [Addr.add, hj]
      rwa [add] at this
    · rw [flatten_set0 h4 hr hk]; exact s1
    · rcases List.mem_or_eq_of_mem_set hz with hz | hz
      · exact h4 z hz
      · rw [hz, List.length_set]; exact hlen
    · by_cases hij : j = i
      · subst hij
        rw [List.getElem?_set_self (by omega)] at a b
        obtain rfl := Option.some.inj a
        obtain rfl := Option.some.inj b
        exact hy
      · rw [List.getElem?_set_ne hij] at a b
        exact hP _ _ (h5 i vs x a b)
/-- The copy, one of its rules under another name. -/
theorem CopyTo.rule {w w' : World} {d : Nat} {p : Pol} {B1 B2 B3 B4 : Option Addr} {n1 n2 n3 n4 d1 d2 d3 d4 : Nat} (h : CopyTo w w' d p B1 n1 d1 B2 n2 d2 B3 n3 d3 B4 n4 d4) (hid : p.id.size ≤ maxLen) (ha : InI p.alg) (hn2 : n2 ≤ 3000) (hn3 : n3 ≤ 3000) {j : Nat} (hj : j < n2) {x : ByteArray} (hx : x.size ≤ maxLen) :
    ∃ g u, B2 = some ⟨g, 0, none⟩ ∧ w.heap.size ≤ g ∧ g < w'.heap.size ∧ w'.cell? ⟨g, j * 5, none⟩ = some u ∧ w'.frozen? ⟨g, j * 5, none⟩ = false ∧ Only g w' (w'.setCell ⟨g, j * 5, none⟩ (.string x)) ∧
      ∃ r : Rul, r.id = x ∧ PolIn (w'.setCell ⟨g, j * 5, none⟩ (.string x)) (fun b => w.heap.size ≤ b) (.mk p.id p.set p.alg p.tg (p.rules.set j r) p.kids p.ob) B1 n1 d1 B2 n2 d2 B3 n3 d3 B4 n4 d4 := by
  obtain ⟨s1, s2, l1, l2, l3, ht, hd, hr, hl, hkd⟩ := h
  obtain ⟨g, vs, r, rfl, hb, hlt, hrj, hp, hc, hvl, hf, ho, hput⟩ := hr.put0 hj (by omega) (.string x)
  have hg2 : g < s2 := hl g rfl
  have kp : ∀ {R : Nat → Prop}, (∀ b, R b → b ≠ g) → Kept R w' (w'.setCell ⟨g, j * 5, none⟩ (.string x)) := fun h => ho.kept h
  obtain ⟨A1, m1, c1, A2, m2, c2, A3, m3, c3, rfl, hr0, hr1, hr2, hr3⟩ := hp
  refine ⟨g, _, rfl, Nat.le_trans l1 hb, hlt, hc, hf, ho, { r with id := x }, rfl, ⟨hid, ha⟩, ?_, ?_, ⟨d, ?_⟩, ?_⟩
  · exact (ht.keep (kp (fun b hb' => by have := hb'.2; omega)) (fun b hb _ => hb.1))
  · have K : Kept (fun b => Nb s1 (.slice (some ⟨g, 0, none⟩) n2 d2) b ∧ b < s2) w' (w'.setCell ⟨g, j * 5, none⟩ (.string x)) := kp (fun b hb' e => hb'.1.2 (by rw [e]; rfl))
    have hR : ∀ b, (Nb s1 (.slice (some ⟨g, 0, none⟩) n2 d2) b ∧ b < s2) → b < w'.heap.size → s1 ≤ b := fun b hb _ => hb.1.1
    have e := hput (RulAt (w'.setCell ⟨g, j * 5, none⟩ (.string x)) (fun b => s1 ≤ b)) { r with id := x } (fun vs y hy => hy.keep K hR) ⟨A1, m1, c1, A2, m2, c2, A3, m3, c3, rfl, hx, hr1.keep K hR, hr2.keep K hR, hr3.keep K hR⟩
    have := e.rw (by omega) (R := fun b => s1 ≤ b) (fun _ _ h => h)
    exact Rus.keep this (Kept.refl _ _) (fun b hb _ => Nat.le_trans l1 hb)
  · have e := Gr.only (keeps_pol d) hkd ho hg2
    have := Gr.rw (keeps_pol d) e (by omega)
    exact Pls.keep this (Kept.refl _ _) (fun b hb _ => Nat.le_trans (Nat.le_trans l1 l2) hb)
  · exact (hd.keep (kp (fun b hb' => by have := hb'.2; omega)) (fun b hb _ => hb.1))
/-- The copy, one of its kids under another name. -/
theorem CopyTo.kid {w w' : World} {d : Nat} {p : Pol} {B1 B2 B3 B4 : Option Addr} {n1 n2 n3 n4 d1 d2 d3 d4 : Nat} (h : CopyTo w w' d p B1 n1 d1 B2 n2 d2 B3 n3 d3 B4 n4 d4) (hid : p.id.size ≤ maxLen) (ha : InI p.alg) (hn2 : n2 ≤ 3000) (hn3 : n3 ≤ 3000) {j : Nat} (hj : j < n3) {x : ByteArray} (hx : x.size ≤ maxLen) :
    ∃ g u, B3 = some ⟨g, 0, none⟩ ∧ w.heap.size ≤ g ∧ g < w'.heap.size ∧ w'.cell? ⟨g, j * 7, none⟩ = some u ∧ w'.frozen? ⟨g, j * 7, none⟩ = false ∧ Only g w' (w'.setCell ⟨g, j * 7, none⟩ (.string x)) ∧
      ∃ k : Pol, k.id = x ∧ PolIn (w'.setCell ⟨g, j * 7, none⟩ (.string x)) (fun b => w.heap.size ≤ b) (.mk p.id p.set p.alg p.tg p.rules (p.kids.set j k) p.ob) B1 n1 d1 B2 n2 d2 B3 n3 d3 B4 n4 d4 := by
  obtain ⟨s1, s2, l1, l2, l3, ht, hd, hr, hl, hkd⟩ := h
  obtain ⟨g, vs, k, rfl, hb, hlt, hrj, hp, hc, hvl, hf, ho, hput⟩ := hkd.1.put0 hj (by omega) (.string x)
  have kp : ∀ {R : Nat → Prop}, (∀ b, R b → b ≠ g) → Kept R w' (w'.setCell ⟨g, j * 7, none⟩ (.string x)) := fun h => ho.kept h
  match d, hp, hput with
  | d + 1, hp, hput =>
    obtain ⟨A1, m1, c1, A2, m2, c2, A3, m3, c3, A4, m4, c4, rfl, hk0, hk00, hk1, hk2, hk3, hk4⟩ := hp
    refine ⟨g, _, rfl, Nat.le_trans (Nat.le_trans l1 l2) hb, hlt, hc, hf, ho, .mk x k.set k.alg k.tg k.rules k.kids k.ob, rfl, ⟨hid, ha⟩, ?_, ?_, ⟨d + 1, ?_⟩, ?_⟩
    · exact (ht.keep (kp (fun b hb' => by have := hb'.2; omega)) (fun b hb _ => hb.1))
    · have e := (hr.mapP (P' := RulAt (w'.setCell ⟨g, j * 7, none⟩ (.string x)) (fun b => s1 ≤ b)) (fun vs y _ hy => hy.keep (kp (fun b hb' => by have := hb'.2; omega)) (fun b hb _ => hb.1.1)))
      have e2 := e.grown (row := some g) ho (by
        by_cases hv : (Value.slice B2 n2 d2).ownBlock = none
        · exact .inl hv
        · refine .inr (fun e => ?_)
          have := hl g e
          omega)
      have := e2.rw (by omega) (R := fun b => s1 ≤ b) (fun _ _ h => h)
      exact Rus.keep this (Kept.refl _ _) (fun b hb _ => Nat.le_trans l1 hb)
    · have K : Kept (Nb s2 (.slice (some ⟨g, 0, none⟩) n3 d3)) w' (w'.setCell ⟨g, j * 7, none⟩ (.string x)) := kp (fun b hb' e => hb'.2 (by rw [e]; rfl))
      have hR : ∀ b, Nb s2 (.slice (some ⟨g, 0, none⟩) n3 d3) b → b < w'.heap.size → s2 ≤ b := fun b hb _ => hb.1
      have e := hput (PolAt (w'.setCell ⟨g, j * 7, none⟩ (.string x)) (fun b => s2 ≤ b) (d + 1)) (.mk x k.set k.alg k.tg k.rules k.kids k.ob) (fun vs y hy => PolAt.keep K hR hy) ⟨A1, m1, c1, A2, m2, c2, A3, m3, c3, A4, m4, c4, rfl, hx, hk00, hk1.keep K hR, hk2.keep K hR, Rw.keep hk3 K hR (fun _ _ _ h => PolAt.keep K hR h), hk4.keep K hR⟩
      have := e.rw (by omega) (R := fun b => s2 ≤ b) (fun _ _ h => h)
      exact Pls.keep this (Kept.refl _ _) (fun b hb _ => Nat.le_trans (Nat.le_trans l1 l2) hb)
    · exact (hd.keep (kp (fun b hb' => by have := hb'.2; omega)) (fun b hb _ => hb.1))
end Go.Proofs.YtincnopaclmppaaDoor
