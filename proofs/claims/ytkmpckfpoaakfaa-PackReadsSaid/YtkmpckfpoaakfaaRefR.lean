/- bailiffref1.Reader's methods: they answer, and leave the reader, as the plain functions of XReadSpec say. -/
import Derived.Test.YtkmpckfpoaakfaaRText
import Derived.Test.YtkmpckfpoaakfaaOpen
namespace Go.Proofs.Ytkmpckfpoaakfaa
set_option linter.unusedVariables false
open Go.RowKit

/-- A reader of the reference: its bytes lie below block hi, it itself at or above it. -/
def RR (w : World) (hi r : Nat) (l : List UInt8) (p : Nat) (q : Int) : Prop :=
  ∃ A n c, Ob w r 39 #[.slice A n c, .int .i64 (p : Int), .int .i64 q] ∧ Sl w hi A n c (bv l) ∧ p ≤ n ∧ n ≤ 70368744177664 ∧ hi ≤ r

section
variable {w w' : World} {hi r p : Nat} {l : List UInt8} {q : Int}
theorem RR.lt (h : RR w hi r l p q) : r < w.heap.size := by
  obtain ⟨A, n, c, h, _⟩ := h
  exact h.lt
theorem RR.keep (h : RR w hi r l p q) (h1 : w'.heap[r]? = w.heap[r]?) (h2 : ∀ k, k < hi → w'.heap[k]? = w.heap[k]?) : RR w' hi r l p q := by
  obtain ⟨A, n, c, ho, hs, hp⟩ := h
  exact ⟨A, n, c, ho.keep h1, hs.keep h2, hp⟩
theorem RR.base (h : RR w hi r l p q) : hi ≤ r := by obtain ⟨A, n, c, _, _, _, _, h⟩ := h; exact h
theorem RR.only {s : Nat} (h : RR w hi r l p q) (ho : Only s w w') (h1 : s ≠ r) (h2 : hi ≤ s) : RR w' hi r l p q :=
  h.keep (ho.heap h.lt (Ne.symm h1)) fun k hk => ho.heap (by have := h.lt; have := h.base; omega) (by omega)
theorem RR.then_ (h : RR w hi r l p q) (hb : Below w.heap.size w w') : RR w' hi r l p q :=
  h.keep (hb.block r h.lt) fun k hk => hb.block k (by have := h.lt; have := h.base; omega)
theorem RR.drewN (h : RR w hi r l p q) (k : Nat) : RR (w.drewN k) hi r l p q := h
theorem RR.cells (h : RR w hi r l p q) : ∃ A n c, w.cell? ⟨r, 0, none⟩ = some (.slice A n c) ∧ w.cell? ⟨r, 1, none⟩ = some (.int .i64 (p : Int)) ∧ w.cell? ⟨r, 2, none⟩ = some (.int .i64 q) ∧
    w.frozen? ⟨r, 0, none⟩ = false ∧ w.frozen? ⟨r, 1, none⟩ = false ∧ w.frozen? ⟨r, 2, none⟩ = false ∧ Sl w hi A n c (bv l) ∧ l.length = n ∧ p ≤ n ∧ n ≤ 70368744177664 := by
  obtain ⟨A, n, c, ho, hs, hp, hn, _⟩ := h
  have hl := hs.len
  rw [bv_len] at hl
  exact ⟨A, n, c, ho.cell 0, ho.cell 1, ho.cell 2, ho.frozen 0, ho.frozen 1, ho.frozen 2, hs, hl, hp, hn⟩
theorem RR.setq (h : RR w hi r l p q) (q' : Int) : RR (w.setCell ⟨r, 2, none⟩ (.int .i64 q')) hi r l p q' := by
  obtain ⟨A, n, c, ho, hs, hp, hn, hr⟩ := h
  refine ⟨A, n, c, ?_, hs.keep (fun k hk => ?_), hp, hn, hr⟩
  · simpa using ho.put 2 (.int .i64 q')
  · rw [Below.heap_setCell _ _ _ _ (by simp; omega)]
theorem RR.setp (h : RR w hi r l p q) {p' : Nat} (hp' : p' ≤ l.length) {x : Int} (hx : x = (p' : Int)) : RR (w.setCell ⟨r, 1, none⟩ (.int .i64 x)) hi r l p' q := by
  subst hx
  obtain ⟨A, n, c, ho, hs, hp, hn, hr⟩ := h
  have hl := hs.len
  rw [bv_len] at hl
  refine ⟨A, n, c, ?_, hs.keep (fun k hk => ?_), by omega, hn, hr⟩
  · simpa using ho.put 1 (.int .i64 (p' : Int))
  · rw [Below.heap_setCell _ _ _ _ (by simp; omega)]

theorem rrfail (c : Int) (h : RR w hi r l p q) : Calls Try.prog 34 #[.pointer (some ⟨r, 0, none⟩), .int .i64 c] w fun e w' => e = .returned (.int .i64 0) ∧ RR w' hi r l p c ∧ Only r w w' := by
  have HR := Lib.hid h
  obtain ⟨A, n, c', h0, h1, h2, f0, f1, f2, hs, hl, hp, hn⟩ := h.cells
  clear hs hl h
  go_enter Try.func34, Try.ntmps34
  go_wp2_with fail
  go_ret
  exact ⟨rfl, HR.out.setq c, Only.refl.setCell (p := ⟨r, 2, none⟩) rfl _⟩

theorem rrend (h : RR w hi r l p q) : Calls Try.prog 28 #[.pointer (some ⟨r, 0, none⟩)] w fun e w' => e = .returned (.int .i64 (endOf l p q)) ∧ ∃ k, w' = w.drewN k := by
  obtain ⟨A, n, c, h0, h1, h2, f0, f1, f2, hs, hl, hp, hn⟩ := h.cells
  have HL := Lib.hid hl
  clear hs hl
  by_cases hq : q = 0
  · subst hq
    by_cases hlt : p = n
    · have hd : ((p : Int) != (n : Int)) = false := by simp; omega
      have HLT := Lib.hid hlt
      clear hlt
      go_enter Try.func28, Try.ntmps28
      go_wp2_with fail
      go_quiet (fail)
      go_wp2_with fail
      go_ret
      exact ⟨ret_int (by unfold endOf; rw [if_neg (by simp), if_neg (by have := HL.out; have := HLT.out; omega)]), _, rfl⟩
    · have hd : ((p : Int) != (n : Int)) = true := by rw [bne_iff_ne]; omega
      have HLT := Lib.hid hlt
      clear hlt
      go_enter Try.func28, Try.ntmps28
      go_wp2_with fail
      go_quiet (fail)
      go_wp2_with fail
      go_ret
      exact ⟨ret_int (by unfold endOf; rw [if_neg (by simp), if_pos (by have := HL.out; have := HLT.out; omega)]), _, rfl⟩
  · have hq' : (q != 0) = true := by rw [bne_iff_ne]; exact hq
    have HQ := Lib.hid hq
    clear hq
    go_enter Try.func28, Try.ntmps28
    go_wp2_with fail
    go_ret
    exact ⟨ret_int (by unfold endOf; rw [if_pos HQ.out]), 0, rfl⟩

set_option maxHeartbeats 800000 in
theorem rrFail (a : Int) (h : RR w hi r l p q) : Calls Try.prog 30 #[.pointer (some ⟨r, 0, none⟩), .int .i64 a] w fun e w' =>
    e = .returned (.tuple #[]) ∧ RR w' hi r l (failTo p q a).1 (failTo p q a).2 ∧ Only r w w' := by
  have HR := Lib.hid h
  obtain ⟨A, n, c, h0, h1, h2, f0, f1, f2, hs, hl, hp, hn⟩ := h.cells
  have HL := Lib.hid hl
  clear hs hl
  have same : (q ≠ 0 ∨ a < 0 ∨ (p : Int) < a) → Hid (RR w hi r l (failTo p q a).1 (failTo p q a).2) := fun h => by
    show RR _ _ _ _ _ _
    unfold failTo
    rw [if_pos h]
    exact HR.out
  by_cases hq : q = 0
  · by_cases h3 : a < 0
    · have S := same (by omega)
      clear same
      subst hq
      go_enter Try.func30, Try.ntmps30
      go_wp2_with fail
      go_end0
      exact ⟨rfl, S.out, Only.refl⟩
    · by_cases h4 : (p : Int) < a
      · have S := same (by omega)
        clear same
        subst hq
        go_enter Try.func30, Try.ntmps30
        go_wp2_with fail
        go_end0
        exact ⟨rfl, S.out, Only.refl⟩
      · clear same
        subst hq
        have S : Hid ((failTo p 0 a) = (a.toNat, 7)) := by show _ = _; unfold failTo; rw [if_neg (by omega)]
        go_enter Try.func30, Try.ntmps30
        go_wp2_with fail
        go_end0
        refine ⟨rfl, ?_, (Only.refl.setCell (p := ⟨r, 1, none⟩) rfl _).setCell (p := ⟨r, 2, none⟩) rfl _⟩
        rw [S.out]
        exact (HR.out.setp (p' := a.toNat) (by have := HL.out; omega) (by omega)).setq 7
  · have S := same (.inl hq)
    clear same
    have hq' : (q == 0) = false := by rw [beq_eq_false_iff_ne]; exact hq
    clear hq
    go_enter Try.func30, Try.ntmps30
    go_wp2_with fail
    go_end0
    exact ⟨rfl, S.out, Only.refl⟩
end
end Go.Proofs.Ytkmpckfpoaakfaa
