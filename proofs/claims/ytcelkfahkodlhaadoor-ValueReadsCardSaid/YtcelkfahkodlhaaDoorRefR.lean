/- bailiffref1.Reader's methods: they answer, and leave the reader, as the plain functions of XReadSpec say. -/
import Derived.Test.YtcelkfahkodlhaaDoorRText
import Derived.Test.YtcelkfahkodlhaaDoorOpen
namespace Go.Proofs.YtcelkfahkodlhaaDoor
set_option linter.unusedVariables false
open Go.RowKit

/-- A reader of the reference: its bytes lie below block hi, it itself at or above it. -/
def RR (w : World) (hi r : Nat) (l : List UInt8) (p : Nat) (q : Int) : Prop :=
  ∃ A n c, Ob w r 48 #[.slice A n c, .int .i64 (p : Int), .int .i64 q] ∧ Sl w hi A n c (bv l) ∧ p ≤ n ∧ n ≤ 70368744177664 ∧ hi ≤ r

section
variable {w w' : World} {hi r p : Nat} {l : List UInt8} {q : Int}
theorem RR.lt (h : RR w hi r l p q) : r < w.heap.size := by
  obtain ⟨A, n, c, h, _⟩ := h
  exact h.lt
theorem RR.keep (h : RR w hi r l p q) (h1 : w'.heap[r]? = w.heap[r]?) (h2 : ∀ k, k < hi → w'.heap[k]? = w.heap[k]?) : RR w' hi r l p q := by
  obtain ⟨A, n, c, ho, hs, hp⟩ := h
  exact ⟨A, n, c, ho.keep h1, hs.keep h2, hp⟩
theorem RR.base (h : RR w hi r l p q) : hi ≤ r := by obtain ⟨A, n, c, _, _, _, _, h⟩ := h; exact h
theorem RR.only {s : Nat} (h : RR w hi r l p q) (ho : Only s w w') (h1 : s ≠ r) (h2 : hi ≤ s) : RR w' hi r l p q :=
  h.keep (ho.heap h.lt (Ne.symm h1)) fun k hk => ho.heap (by have := h.lt; have := h.base; omega) (by omega)
theorem RR.then_ (h : RR w hi r l p q) (hb : Below w.heap.size w w') : RR w' hi r l p q :=
  h.keep (hb.block r h.lt) fun k hk => hb.block k (by have := h.lt; have := h.base; omega)
theorem RR.drewN (h : RR w hi r l p q) (k : Nat) : RR (w.drewN k) hi r l p q := h
theorem RR.cells (h : RR w hi r l p q) : ∃ A n c, w.cell? ⟨r, 0, none⟩ = some (.slice A n c) ∧ w.cell? ⟨r, 1, none⟩ = some (.int .i64 (p : Int)) ∧ w.cell? ⟨r, 2, none⟩ = some (.int .i64 q) ∧
    w.frozen? ⟨r, 0, none⟩ = false ∧ w.frozen? ⟨r, 1, none⟩ = false ∧ w.frozen? ⟨r, 2, none⟩ = false ∧ Sl w hi A n c (bv l) ∧ l.length = n ∧ p ≤ n ∧ n ≤ 70368744177664 := by
  obtain ⟨A, n, c, ho, hs, hp, hn, _⟩ := h
  have hl := hs.len
  rw [bv_len] at hl
  exact ⟨A, n, c, ho.cell 0, ho.cell 1, ho.cell 2, ho.frozen 0, ho.frozen 1, ho.frozen 2, hs, hl, hp, hn⟩
theorem RR.setq (h : RR w hi r l p q) (q' : Int) : RR (w.setCell ⟨r, 2, none⟩ (.int .i64 q')) hi r l p q' := by
  obtain ⟨A, n, c, ho, hs, hp, hn, hr⟩ := h
  refine ⟨A, n, c, ?_, hs.keep (fun k hk => ?_), hp, hn, hr⟩
  · simpa using ho.put 2 (.int .i64 q')
  · rw [Below.heap_setCell _ _ _ _ (by simp; omega)]
theorem RR.setp (h : RR w hi r l p q) {p' : Nat} (hp' : p' ≤ l.length) {x : Int} (hx : x = (p' : Int)) : RR (w.setCell ⟨r, 1, none⟩ (.int .i64 x)) hi r l p' q := by
  subst hx
  obtain ⟨A, n, c, ho, hs, hp, hn, hr⟩ := h
  have hl := hs.len
  rw [bv_len] at hl
  refine ⟨A, n, c, ?_, hs.keep (fun k hk => ?_), by omega, hn, hr⟩
  · simpa using ho.put 1 (.int .i64 (p' : Int))
  · rw [Below.heap_setCell _ _ _ _ (by simp; omega)]

theorem rrfail (c : Int) (h : RR w hi r l p q) : Calls Tryd.prog 55 #[.pointer (some ⟨r, 0, none⟩), .int .i64 c] w fun e w' => e = .returned (.int .i64 0) ∧ RR w' hi r l p c ∧ Only r w w' := by
  have HR := Lib.hid h
  obtain ⟨A, n, c', h0, h1, h2, f0, f1, f2, hs, hl, hp, hn⟩ := h.cells
  clear hs hl h
  go_enter Tryd.func55, Tryd.ntmps55
  go_wp2_with fail
  go_ret
  exact ⟨rfl, HR.out.setq c, Only.refl.setCell (p := ⟨r, 2, none⟩) rfl _⟩

end
end Go.Proofs.YtcelkfahkodlhaaDoor
