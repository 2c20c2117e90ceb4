/- A reader with which something is wrong: every call leaves the world as it is. And the asks that come in. -/
import Derived.Test.YtkmpckfpoaakfaaLaws
import Derived.Test.YtkmpckfpoaakfaaOpen
import Derived.Deep.Slices
import Derived.Deep.Fields
namespace Go.Proofs.Ytkmpckfpoaakfaa
set_option linter.unusedVariables false
open Go.RowKit

section
variable {w : World} {bs r p : Nat} {l : List UInt8} {q : Int}

theorem wnum (h : Rdr w 55 bs r l p q) (hq : q ≠ 0) : Calls Try.prog 13 #[.pointer (some ⟨r, 0, none⟩)] w fun e w' => e = .returned (.int .i64 0) ∧ w' = w := by
  obtain ⟨A, n, c, h0, h1, h2, f0, f1, f2, hs, hl, hp, hn⟩ := h.cells
  have hq' : (q != 0) = true := by rw [bne_iff_ne]; exact hq
  clear hq hs hl
  go_enter Try.func13, Try.ntmps13
  go_wp2_with fail
  go_ret
  exact ⟨rfl, rfl⟩
theorem win (lo hi : Int) (h : Rdr w 55 bs r l p q) (hq : q ≠ 0) : Calls Try.prog 24 #[.pointer (some ⟨r, 0, none⟩), .int .i64 lo, .int .i64 hi] w fun e w' => e = .returned (.int .i64 0) ∧ w' = w := by
  have hc := wnum h hq
  obtain ⟨A, n, c, h0, h1, h2, f0, f1, f2, hs, hl, hp, hn⟩ := h.cells
  have hq' : (q != 0) = true := by rw [bne_iff_ne]; exact hq
  have HC := Lib.hid hc
  clear hq hs hl hc
  go_enter Try.func24, Try.ntmps24
  go_wp2_with fail
  refine HC.out.mono ?_
  rintro e w' ⟨rfl, rfl⟩
  go_wp2_with fail
  go_ret
  exact ⟨rfl, rfl⟩
theorem wtext (most : Int) (h : Rdr w 55 bs r l p q) (hq : q ≠ 0) : Calls Try.prog 12 #[.pointer (some ⟨r, 0, none⟩), .int .i64 most] w fun e w' => e = .returned (.string ⟨#[]⟩) ∧ w' = w := by
  have hc := win 0 most h hq
  obtain ⟨A, n, c, h0, h1, h2, f0, f1, f2, hs, hl, hp, hn⟩ := h.cells
  have hq' : (q != 0) = true := by rw [bne_iff_ne]; exact hq
  have HC := Lib.hid hc
  clear hq hs hl hc
  go_enter Try.func12, Try.ntmps12
  go_wp2_with fail
  refine HC.out.mono ?_
  rintro e w' ⟨rfl, rfl⟩
  go_wp2_with fail
  go_ret
  exact ⟨rfl, rfl⟩
theorem wend (h : Rdr w 55 bs r l p q) (hq : q ≠ 0) : Calls Try.prog 27 #[.pointer (some ⟨r, 0, none⟩)] w fun e w' => e = .returned (.int .i64 q) ∧ w' = w := by
  obtain ⟨A, n, c, h0, h1, h2, f0, f1, f2, hs, hl, hp, hn⟩ := h.cells
  have hq' : (q != 0) = true := by rw [bne_iff_ne]; exact hq
  clear hq hs hl
  go_enter Try.func27, Try.ntmps27
  go_wp2_with fail
  go_ret
  exact ⟨rfl, rfl⟩
theorem wat (h : Rdr w 55 bs r l p q) : Calls Try.prog 18 #[.pointer (some ⟨r, 0, none⟩)] w fun e w' => e = .returned (.int .i64 (p : Int)) ∧ w' = w :=
  (at_any h).mono fun _ _ hh => ⟨hh.1, hh.2.symm⟩
theorem wwrong (h : Rdr w 55 bs r l p q) : Calls Try.prog 17 #[.pointer (some ⟨r, 0, none⟩)] w fun e w' => e = .returned (.int .i64 q) ∧ w' = w :=
  (wrong_any h).mono fun _ _ hh => ⟨hh.1, hh.2.symm⟩
end

/-- Asks that came in: three numbers each. -/
def Asks (w : World) (A : Option Addr) (n c : Nat) (ks : List (Int × Int × Int)) : Prop :=
  ks.length = n ∧ n ≤ c ∧ c ≤ maxLen ∧ (n = 0 ∨ ∃ b o, A = some ⟨b, o, none⟩ ∧ b < w.heap.size ∧ ∀ j (h : j < ks.length), w.cell? ⟨b, o + j * 3, none⟩ = some (.int .i64 ks[j].1) ∧ w.cell? ⟨b, o + j * 3 + 1, none⟩ = some (.int .i64 ks[j].2.1) ∧ w.cell? ⟨b, o + j * 3 + 2, none⟩ = some (.int .i64 ks[j].2.2)) ∧
    ∀ k ∈ ks, (-9223372036854775808 ≤ k.1 ∧ k.1 ≤ 9223372036854775807) ∧ (-9223372036854775808 ≤ k.2.1 ∧ k.2.1 ≤ 9223372036854775807) ∧ (-9223372036854775808 ≤ k.2.2 ∧ k.2.2 ≤ 9223372036854775807)

theorem Asks.below {w w' : World} {A : Option Addr} {n c : Nat} {ks : List (Int × Int × Int)} (h : Asks w A n c ks) (hb : Below w.heap.size w w') : Asks w' A n c ks := by
  obtain ⟨h1, h2, h3, h4, h5⟩ := h
  refine ⟨h1, h2, h3, ?_, h5⟩
  rcases h4 with h4 | ⟨b, o, e, hlt, hc⟩
  · exact .inl h4
  · refine .inr ⟨b, o, e, Nat.lt_of_lt_of_le hlt hb.size, fun j hj => ?_⟩
    obtain ⟨a1, a2, a3⟩ := hc j hj
    exact ⟨(hb.cell hlt).trans a1, (hb.cell hlt).trans a2, (hb.cell hlt).trans a3⟩

/-- One struct of three numbers. -/
theorem open_three {H : Type} {enc : TypeId × Value → H} {P : Program} {w : World} {base : Nat} {spare : Nat → Bool} {held : Bool} {e t : TypeId} {f0 f1 f2 : Field} {a : Addr} {cs : List Value} {fuel : Nat} {x : DataW H × List MemPlace}
    (he : P.underlying e = some (.struct #[f0, f1, f2])) (hC : P.cellsOf e = 3) (h0 : f0.type = t ∧ f0.offset = 0) (h1 : f1.type = t ∧ f1.offset = 1) (h2 : f2.type = t ∧ f2.offset = 2) (ht : P.underlying t = some (.int .i64)) (hc1 : P.cellsOf t = 1)
    (hc : w.cells? base a (P.cellsOf e) = some cs) (h : DataW.trod enc P w base spare held fuel e cs = some x) :
    ∃ k : Int × Int × Int, (w.cell? (a.add 0) = some (.int .i64 k.1) ∧ w.cell? (a.add 1) = some (.int .i64 k.2.1) ∧ w.cell? (a.add 2) = some (.int .i64 k.2.2)) ∧
      (-9223372036854775808 ≤ k.1 ∧ k.1 ≤ 9223372036854775807) ∧ (-9223372036854775808 ≤ k.2.1 ∧ k.2.1 ≤ 9223372036854775807) ∧ (-9223372036854775808 ≤ k.2.2 ∧ k.2.2 ≤ 9223372036854775807) := by
  rw [hC] at hc
  obtain ⟨ys, n', hn', hy, hlen, hyl, hf⟩ := DataW.trod_struct he h
  obtain ⟨_, hcl, hat⟩ := World.cells?_some hc
  match cs, hlen.trans hC with
  | [c0, c1, c2], _ =>
    have ys3 : ys.length = 3 := hyl
    match ys, ys3 with
    | [y0, y1, y2], _ =>
      have g0 := hf 0 f0 rfl
      have g1 := hf 1 f1 rfl
      have g2 := hf 2 f2 rfl
      rw [h0.1, h0.2, hc1] at g0
      rw [h1.1, h1.2, hc1] at g1
      rw [h2.1, h2.2, hc1] at g2
      obtain ⟨x0, e0, _, w0⟩ := DataW.trod_int ht (show DataW.trod enc P w base spare held n' t [c0] = some y0 from g0)
      obtain ⟨x1, e1, _, w1⟩ := DataW.trod_int ht (show DataW.trod enc P w base spare held n' t [c1] = some y1 from g1)
      obtain ⟨x2, e2, _, w2⟩ := DataW.trod_int ht (show DataW.trod enc P w base spare held n' t [c2] = some y2 from g2)
      have a0 := hat 0 (by omega)
      have a1 := hat 1 (by omega)
      have a2 := hat 2 (by omega)
      injection e0 with e0
      injection e1 with e1
      injection e2 with e2
      subst e0 e1 e2
      exact ⟨(x0, x1, x2), ⟨a0, a1, a2⟩, wf_bounds w0, wf_bounds w1, wf_bounds w2⟩

theorem open_asks {H : Type} {enc : TypeId × Value → H} {w : World} {base n c : Nat} {spare : Nat → Bool} {held : Bool} {A : Option Addr} {d : DataW H} {p : List MemPlace}
    (h : DataW.Trod enc Try.prog w base spare held 36 (.slice A n c) d p) : ∃ ks, Asks w A n c ks := by
  obtain ⟨fuel, hf⟩ := h
  rcases Go.Deep.open_slice Try.underlying36 hf with ⟨hcs, _⟩ | ⟨a, len, cap, m, n', D, Pl, hcs, hb, hl, hm, hmm, hx, hi⟩
  · simp [Value.cells] at hcs
    obtain ⟨rfl, rfl, rfl⟩ := hcs
    exact ⟨[], rfl, Nat.le_refl _, by simp [maxLen], .inl rfl, by simp⟩
  · simp [Value.cells] at hcs
    obtain ⟨rfl, rfl, rfl⟩ := hcs
    have hnm : n ≤ m := by rw [hmm]; split <;> omega
    have hall : ∀ i, i < n → ∃ k : Int × Int × Int, (w.cell? ((a.add (i * 3)).add 0) = some (.int .i64 k.1) ∧ w.cell? ((a.add (i * 3)).add 1) = some (.int .i64 k.2.1) ∧ w.cell? ((a.add (i * 3)).add 2) = some (.int .i64 k.2.2)) ∧
        (-9223372036854775808 ≤ k.1 ∧ k.1 ≤ 9223372036854775807) ∧ (-9223372036854775808 ≤ k.2.1 ∧ k.2.1 ≤ 9223372036854775807) ∧ (-9223372036854775808 ≤ k.2.2 ∧ k.2.2 ≤ 9223372036854775807) := fun i hin => by
      obtain ⟨cs', hc, ht⟩ := hi i (by omega)
      exact open_three (t := 3) Try.underlying41 (by kernel_rfl) ⟨rfl, rfl⟩ ⟨rfl, rfl⟩ ⟨rfl, rfl⟩ Try.underlying3 (by kernel_rfl) hc ht
    obtain ⟨V, hV⟩ := Go.Deep.choose_lt hall
    refine ⟨(List.range n).map V, by simp, hl, hm, ?_, ?_⟩
    · by_cases h0 : n = 0
      · exact .inl h0
      · right
        obtain ⟨b, o, spot⟩ := a
        have h00 := (hV 0 (by omega)).1.1
        have hspot : spot = none := by simpa [Addr.add] using World.cell?_spot h00
        subst hspot
        refine ⟨b, o, rfl, by have := cell_lt h00; simpa [Addr.add] using this, fun j hj => ?_⟩
        have hjn : j < n := by simpa using hj
        obtain ⟨⟨x0, x1, x2⟩, _⟩ := hV j hjn
        have add : ∀ i k : Nat, ((⟨b, o, none⟩ : Addr).add i).add k = ⟨b, o + i + k, none⟩ := by
          intro i k
          by_cases hi0 : i = 0 <;> by_cases hk0 : k = 0 <;> simp [Addr.add, hi0, hk0]
        rw [add] at x0 x1 x2
        simp only [List.getElem_map, List.getElem_range]
        exact ⟨by simpa using x0, x1, x2⟩
    · intro k hk
      obtain ⟨i, hir, rfl⟩ := List.mem_map.1 hk
      exact (hV i (by simpa using hir)).2
end Go.Proofs.Ytkmpckfpoaakfaa
