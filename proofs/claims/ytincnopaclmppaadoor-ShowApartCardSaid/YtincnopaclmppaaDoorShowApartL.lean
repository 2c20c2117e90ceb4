/- ShowApart: a rule of a copy with another effect. -/
import Derived.Test.YtincnopaclmppaaDoorOwPut
namespace Go.Proofs.YtincnopaclmppaaDoor
set_option linter.unusedVariables false
open Go.RowKit

theorem flatten_seti {k i : Nat} {u : Value} : ∀ {raw : List (List Value)} {j : Nat} {vs : List Value}, (∀ y ∈ raw, y.length = k) → raw[j]? = some vs → i < k → (raw.set j (vs.set i u)).flatten = raw.flatten.set (j * k + i) u
  | [], _, _, _, h, _ => by simp at h
  | y :: raw, 0, vs, hk, h, h0 => by
    simp at h
    subst h
    rw [List.set_cons_zero, List.flatten_cons, List.flatten_cons, Nat.zero_mul, Nat.zero_add, List.set_append_left _ _ (by rw [hk y (by simp)]; exact h0)]
  | y :: raw, j + 1, vs, hk, h, h0 => by
    have hy := hk y (by simp)
    rw [List.set_cons_succ, List.flatten_cons, List.flatten_cons, flatten_seti (fun z hz => hk z (by simp [hz])) (by simpa using h) h0,
      List.set_append_right _ _ (by rw [hy, Nat.add_mul]; omega), hy, show (j + 1) * k + i - k = j * k + i by rw [Nat.add_mul]; omega]
/-- Into an element's cell. -/
theorem Ow.puti {α : Type} {k i : Nat} {P : List Value → α → Prop} {w : World} {base : Nat} {E : TypeId} {A : Option Addr} {n c : Nat} {l : List α} (h : Ow k P w base E A n c l) {j : Nat} (hj : j < n) (hk : i < k) (u : Value) :
    ∃ g vs x, A = some ⟨g, 0, none⟩ ∧ base ≤ g ∧ g < w.heap.size ∧ l[j]? = some x ∧ P vs x ∧ w.cell? ⟨g, j * k + i, none⟩ = vs[i]? ∧ vs.length = k ∧ w.frozen? ⟨g, j * k + i, none⟩ = false ∧ Only g w (w.setCell ⟨g, j * k + i, none⟩ u) ∧
      ∀ (P' : List Value → α → Prop) y, (∀ vs x, P vs x → P' vs x) → P' (vs.set i u) y → Ow k P' (w.setCell ⟨g, j * k + i, none⟩ u) base E A n c (l.set j y) := by
  obtain ⟨raw, h1, h2, h3, h4, h5⟩ := h
  rcases h1.2 with ⟨hv, hn⟩ | ⟨g, cap, cur, hv, hb, hg, hnc, hcm, hcs, ht⟩
  · omega
  · injection hv with e1 e2 e3
    subst e1 e3
    have hr : raw[j]? = some raw[j] := List.getElem?_eq_getElem (by omega)
    have hx : l[j]? = some l[j] := List.getElem?_eq_getElem (by omega)
    have hlen := h4 _ (List.getElem_mem (show j < raw.length by omega))
    obtain ⟨s1, s2⟩ := h1.stored (j * k + i) u
    have hlt : g < w.heap.size := by
      rcases Nat.lt_or_ge g w.heap.size with hlt | hge
      · exact hlt
      · rw [Array.getElem?_eq_none hge] at hg; cases hg
    refine ⟨g, raw[j], l[j], rfl, hb, hlt, hx, h5 j _ _ hr hx, ?_, hlen, by simp [World.frozen?, hg], s2, fun P' y hP hy => ⟨raw.set j (raw[j].set i u), ?_, by rw [List.length_set]; exact h2, by rw [List.length_set]; exact h3, fun z hz => ?_, fun i' vs x a b => ?_⟩⟩
    · have hv0 : (raw[j])[i]? = some (raw[j])[i] := List.getElem?_eq_getElem (by omega)
      rw [hv0]
      have := h1.cells (g := g) rfl (j * k + i) _ (flatten_at h4 hr hv0)
      have add : (⟨g, 0, none⟩ : Addr).add (j * k + i) = ⟨g, j * k + i, none⟩ := by generalize j * k + i = t; by_cases ht0 : t = 0 <;> simp [Addr.add, ht0]
      rwa [add] at this
    · rw [flatten_seti h4 hr hk]; exact s1
    · rcases List.mem_or_eq_of_mem_set hz with hz | hz
      · exact h4 z hz
      · rw [hz, List.length_set]; exact hlen
    · by_cases hij : j = i'
      · subst hij
        rw [List.getElem?_set_self (by omega)] at a b
        obtain rfl := Option.some.inj a
        obtain rfl := Option.some.inj b
        exact hy
      · rw [List.getElem?_set_ne hij] at a b
        exact hP _ _ (h5 i' vs x a b)
/-- The copy, where a block that lies below it has changed. -/
theorem CopyTo.only {V V' U : World} {s m : Nat} {p : Pol} {B1 B2 B3 B4 : Option Addr} {n1 n2 n3 n4 d1 d2 d3 d4 : Nat} (h : CopyTo V V' m p B1 n1 d1 B2 n2 d2 B3 n3 d3 B4 n4 d4) (ho : Only s V' U) (hs : s < V.heap.size) : CopyTo V U m p B1 n1 d1 B2 n2 d2 B3 n3 d3 B4 n4 d4 := by
  obtain ⟨s1, s2, l1, l2, l3, ht, hd, hr, hl, hk⟩ := h
  have k1 : Kept (fun b => V.heap.size ≤ b ∧ b < s1) V' U := ho.kept fun b hb => by have := hb.1; omega
  have k2 : Kept (fun b => Nb s1 (.slice B2 n2 d2) b ∧ b < s2) V' U := ho.kept fun b hb => by have := hb.1.1; omega
  refine ⟨s1, s2, l1, l2, Nat.le_trans l3 ho.le, ht.keep k1 (fun _ h _ => h), hd.keep k1 (fun _ h _ => h), ?_, hl, Gr.only (keeps_pol m) hk ho (by omega)⟩
  refine (hr.mapP (P' := RulAt U (fun b => Nb s1 (.slice B2 n2 d2) b ∧ b < s2)) (fun vs x _ h => h.keep k2 (fun _ h _ => h))).grown (row := some s) ho ?_
  by_cases hv : (Value.slice B2 n2 d2).ownBlock = none
  · exact .inl hv
  · refine .inr fun e => ?_
    have := (Ow.lt hr s e).1
    omega
/-- The copy, one of its rules with another effect. -/
theorem CopyTo.deny {w w' : World} {d : Nat} {p : Pol} {B1 B2 B3 B4 : Option Addr} {n1 n2 n3 n4 d1 d2 d3 d4 : Nat} (h : CopyTo w w' d p B1 n1 d1 B2 n2 d2 B3 n3 d3 B4 n4 d4) (hid : p.id.size ≤ maxLen) (ha : InI p.alg) (hn2 : n2 ≤ 3000) (hn3 : n3 ≤ 3000) {j : Nat} (hj : j < n2) :
    ∃ g, ∃ r : Rul, B2 = some ⟨g, 0, none⟩ ∧ w.heap.size ≤ g ∧ g < w'.heap.size ∧ w'.cell? ⟨g, j * 5 + 1, none⟩ = some (.bool r.deny) ∧ w'.frozen? ⟨g, j * 5 + 1, none⟩ = false ∧ Only g w' (w'.setCell ⟨g, j * 5 + 1, none⟩ (.bool (!r.deny))) ∧
      PolIn (w'.setCell ⟨g, j * 5 + 1, none⟩ (.bool (!r.deny))) (fun b => w.heap.size ≤ b) (.mk p.id p.set p.alg p.tg (p.rules.set j { r with deny := !r.deny }) p.kids p.ob) B1 n1 d1 B2 n2 d2 B3 n3 d3 B4 n4 d4 := by
  obtain ⟨s1, s2, l1, l2, l3, ht, hd, hr, hl, hkd⟩ := h
  have hcell : ∃ r : Rul, p.rules[j]? = some r := ⟨_, List.getElem?_eq_getElem (by have := hr.len; omega)⟩
  obtain ⟨r0, hr0⟩ := hcell
  obtain ⟨g, vs, r, rfl, hb, hlt, hrj, hp, hc, hvl, hf, ho, hput⟩ := hr.puti (i := 1) hj (by omega) (.bool (!r0.deny))
  obtain rfl : r0 = r := Option.some.inj (hr0.symm.trans hrj)
  have hg2 : g < s2 := hl g rfl
  have kp : ∀ {R : Nat → Prop}, (∀ b, R b → b ≠ g) → Kept R w' (w'.setCell ⟨g, j * 5 + 1, none⟩ (.bool (!r0.deny))) := fun h => ho.kept h
  obtain ⟨A1, m1, c1, A2, m2, c2, A3, m3, c3, rfl, hr0, hr1, hr2, hr3⟩ := hp
  refine ⟨g, r0, rfl, Nat.le_trans l1 hb, hlt, hc, hf, ho, ⟨hid, ha⟩, ?_, ?_, ⟨d, ?_⟩, ?_⟩
  · exact (ht.keep (kp (fun b hb' => by have := hb'.2; omega)) (fun b hb _ => hb.1))
  · have K : Kept (fun b => Nb s1 (.slice (some ⟨g, 0, none⟩) n2 d2) b ∧ b < s2) w' (w'.setCell ⟨g, j * 5 + 1, none⟩ (.bool (!r0.deny))) := kp (fun b hb' e => hb'.1.2 (by rw [e]; rfl))
    have hR : ∀ b, (Nb s1 (.slice (some ⟨g, 0, none⟩) n2 d2) b ∧ b < s2) → b < w'.heap.size → s1 ≤ b := fun b hb _ => hb.1.1
    have e := hput (RulAt (w'.setCell ⟨g, j * 5 + 1, none⟩ (.bool (!r0.deny))) (fun b => s1 ≤ b)) { r0 with deny := !r0.deny } (fun vs y hy => hy.keep K hR) ⟨A1, m1, c1, A2, m2, c2, A3, m3, c3, rfl, hr0, hr1.keep K hR, hr2.keep K hR, hr3.keep K hR⟩
    have := e.rw (by omega) (R := fun b => s1 ≤ b) (fun _ _ h => h)
    exact Rus.keep this (Kept.refl _ _) (fun b hb _ => Nat.le_trans l1 hb)
  · have e := Gr.only (keeps_pol d) hkd ho hg2
    have := Gr.rw (keeps_pol d) e (by omega)
    exact Pls.keep this (Kept.refl _ _) (fun b hb _ => Nat.le_trans (Nat.le_trans l1 l2) hb)
  · exact (hd.keep (kp (fun b hb' => by have := hb'.2; omega)) (fun b hb _ => hb.1))
end Go.Proofs.YtincnopaclmppaaDoor
