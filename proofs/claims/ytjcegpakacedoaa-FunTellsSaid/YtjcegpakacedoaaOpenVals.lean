/- Lists of values that come in. -/
import Derived.Test.YtjcegpakacedoaaVals
import Derived.Test.YtjcegpakacedoaaOpen
namespace Go.Proofs.Ytjcegpakacedoaa
set_option linter.unusedVariables false
open Go.RowKit

instance : Inhabited Vl := ⟨⟨0, 0, ⟨#[]⟩⟩⟩

theorem open_elem {H : Type} {enc : TypeId × Value → H} {P : Program} {w : World} {base : Nat} {spare : Nat → Bool} {held : Bool} {e t0 t1 t2 : TypeId} {f0 f1 f2 : Field} {a : Addr} {cs : List Value} {fuel : Nat} {x : DataW H × List MemPlace}
    (he : P.underlying e = some (.struct #[f0, f1, f2])) (hC : P.cellsOf e = 3) (h0 : f0.type = t0 ∧ f0.offset = 0) (h1 : f1.type = t1 ∧ f1.offset = 1) (h2 : f2.type = t2 ∧ f2.offset = 2)
    (u0 : P.underlying t0 = some (.int .i64)) (u1 : P.underlying t1 = some (.int .i64)) (u2 : P.underlying t2 = some .string) (c0 : P.cellsOf t0 = 1) (c1 : P.cellsOf t1 = 1) (c2 : P.cellsOf t2 = 1)
    (hc : w.cells? base a (P.cellsOf e) = some cs) (h : DataW.trod enc P w base spare held fuel e cs = some x) :
    ∃ v : Vl, (w.cell? (a.add 0) = some (.int .i64 v.k) ∧ w.cell? (a.add 1) = some (.int .i64 v.n) ∧ w.cell? (a.add 2) = some (.string v.s)) ∧ v.ok := by
  rw [hC] at hc
  obtain ⟨ys, n', hn', hy, hlen, hyl, hf⟩ := DataW.trod_struct he h
  obtain ⟨_, hcl, hat⟩ := World.cells?_some hc
  match cs, hlen.trans hC with
  | [v0, v1, v2], _ =>
    have ys3 : ys.length = 3 := hyl
    match ys, ys3 with
    | [y0, y1, y2], _ =>
      have g0 := hf 0 f0 rfl
      have g1 := hf 1 f1 rfl
      have g2 := hf 2 f2 rfl
      rw [h0.1, h0.2, c0] at g0
      rw [h1.1, h1.2, c1] at g1
      rw [h2.1, h2.2, c2] at g2
      obtain ⟨x0, e0, _, w0⟩ := DataW.trod_int u0 (show DataW.trod enc P w base spare held n' t0 [v0] = some y0 from g0)
      obtain ⟨x1, e1, _, w1⟩ := DataW.trod_int u1 (show DataW.trod enc P w base spare held n' t1 [v1] = some y1 from g1)
      obtain ⟨x2, e2, _, w2⟩ := DataW.trod_string u2 (show DataW.trod enc P w base spare held n' t2 [v2] = some y2 from g2)
      have a0 := hat 0 (by omega)
      have a1 := hat 1 (by omega)
      have a2 := hat 2 (by omega)
      injection e0 with e0
      injection e1 with e1
      injection e2 with e2
      subst e0 e1 e2
      exact ⟨⟨x0, x1, x2⟩, ⟨a0, a1, a2⟩, wf_bounds w0, wf_bounds w1, w2⟩

theorem open_vals {H : Type} {enc : TypeId × Value → H} {w : World} {base n c : Nat} {spare : Nat → Bool} {held : Bool} {A : Option Addr} {d : DataW H} {p : List MemPlace}
    (h : DataW.Trod enc Try.prog w base spare held 32 (.slice A n c) d p) : ∃ l, Vs w w.heap.size A n c l := by
  obtain ⟨fuel, hf⟩ := h
  rcases Go.Deep.open_slice Try.underlying32 hf with ⟨hcs, _⟩ | ⟨a, len, cap, m, n', D, Pl, hcs, hb, hl, hm, hmm, hx, hi⟩
  · simp [Value.cells] at hcs
    obtain ⟨rfl, rfl, rfl⟩ := hcs
    exact ⟨[], Vs.nil_ w _⟩
  · simp [Value.cells] at hcs
    obtain ⟨rfl, rfl, rfl⟩ := hcs
    have hnm : n ≤ m := by rw [hmm]; split <;> omega
    have hall : ∀ i, i < n → ∃ v : Vl, (w.cell? ((a.add (i * 3)).add 0) = some (.int .i64 v.k) ∧ w.cell? ((a.add (i * 3)).add 1) = some (.int .i64 v.n) ∧ w.cell? ((a.add (i * 3)).add 2) = some (.string v.s)) ∧ v.ok := fun i hin => by
      obtain ⟨cs', hc, ht⟩ := hi i (by omega)
      exact open_elem (t0 := 3) (t1 := 3) (t2 := 9) Try.underlying26 (by kernel_rfl) ⟨rfl, rfl⟩ ⟨rfl, rfl⟩ ⟨rfl, rfl⟩ Try.underlying3 Try.underlying3 Try.underlying9 (by kernel_rfl) (by kernel_rfl) (by kernel_rfl) hc ht
    obtain ⟨V, hV⟩ := Go.Deep.choose_lt hall
    refine ⟨(List.range n).map V, by simp, hl, hm, ?_, ?_⟩
    · by_cases h0 : n = 0
      · exact .inl h0
      · right
        obtain ⟨b, o, spot⟩ := a
        have h00 := (hV 0 (by omega)).1.1
        have hspot : spot = none := by simpa [Addr.add] using World.cell?_spot h00
        subst hspot
        refine ⟨b, o, rfl, by have := cell_lt h00; simpa [Addr.add] using this, fun j v hj => ?_⟩
        rw [List.getElem?_map, Option.map_eq_some_iff] at hj
        obtain ⟨i, hi', rfl⟩ := hj
        have hjn : j < n := by have := (List.getElem?_eq_some_iff.1 hi').1; simpa using this
        have hij : i = j := by rw [List.getElem?_range hjn] at hi'; exact (Option.some.inj hi').symm
        subst hij
        obtain ⟨⟨x0, x1, x2⟩, _⟩ := hV i hjn
        have add : ∀ i k : Nat, ((⟨b, o, none⟩ : Addr).add i).add k = ⟨b, o + i + k, none⟩ := by
          intro i k
          by_cases hi0 : i = 0 <;> by_cases hk0 : k = 0 <;> simp [Addr.add, hi0, hk0]
        rw [add] at x0 x1 x2
        exact ⟨by simpa using x0, x1, x2⟩
    · intro k hk
      obtain ⟨i, hir, rfl⟩ := List.mem_map.1 hk
      exact (hV i (by simpa using hir)).2
end Go.Proofs.Ytjcegpakacedoaa
