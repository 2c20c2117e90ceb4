/- Size by marks, from the root downward, plainly. -/
import Derived.Test.YtipeefehhaffkaaDagSize
namespace Go.Proofs.Ytipeefehhaffkaa
set_option linter.unusedVariables false

section
variable {l : List Br}
theorem rch_self (h : Dg l) {w : Int} (h0 : 0 ≤ w) (hl : w < l.length) : rch l w w.toNat = true := by
  obtain ⟨b, hb⟩ := get_toNat h0 hl
  rw [rch_step h h0 hb]
  simp
theorem rch_way (h : Dg l) {w : Int} {b : Br} (h0 : 0 ≤ w) (hb : l[w.toNat]? = some b) (t : Nat) {j : Nat} (hr : rch l (b.to t) j = true) : rch l w j = true := by
  rw [rch_step h h0 hb]
  simp only [Bool.or_eq_true]
  match t, hr with
  | 0, hj => exact .inl (.inl (.inr hj))
  | 1, hj => exact .inl (.inr hj)
  | _ + 2, hj => exact .inr hj
/-- What a branch that is reached leads to is reached. -/
theorem rch_on (h : Dg l) {k j : Nat} {c : Br} (hc : l[k]? = some c) {t : Nat} (hj : c.to t = (j : Int)) : ∀ (n : Nat) (w : Int), w < n → rch l w k = true → rch l w j = true
  | 0, w, hn, hr => by rw [rch_neg (by omega)] at hr; cases hr
  | n + 1, w, hn, hr => by
    by_cases h0 : w < 0
    · rw [rch_neg h0] at hr; cases hr
    · by_cases hl : (l.length : Int) ≤ w
      · rw [rch_big hl] at hr; cases hr
      · obtain ⟨b, hb⟩ := get_toNat (l := l) (w := w) (by omega) (by omega)
        have hw := (h.2 w.toNat b hb).2.1
        have hx : b.x < (w.toNat : Int) := (hw 0).2.1
        have hy : b.y < (w.toNat : Int) := (hw 1).2.1
        have hz : b.z < (w.toNat : Int) := (hw 2).2.1
        rw [rch_step h (by omega) hb] at hr
        simp only [Bool.or_eq_true, decide_eq_true_eq] at hr
        rcases hr with ((e | e) | e) | e
        · subst e
          obtain rfl : b = c := Option.some.inj (hb.symm.trans hc)
          have hk := hw t
          have := rch_self h (w := b.to t) (by omega) (by have := (List.getElem?_eq_some_iff.1 hb).1; omega)
          rw [hj] at this
          refine rch_way h (by omega) hb t ?_
          rw [hj]
          simpa using this
        · exact rch_way h (by omega) hb 0 (rch_on h hc hj n b.x (by omega) e)
        · exact rch_way h (by omega) hb 1 (rch_on h hc hj n b.y (by omega) e)
        · exact rch_way h (by omega) hb 2 (rch_on h hc hj n b.z (by omega) e)
/-- What is reached is the root, or a branch that is reached leads to it. -/
theorem rch_from (h : Dg l) {j : Nat} : ∀ (n : Nat) (w : Int), w < n → rch l w j = true → w = (j : Int) ∨ ∃ (k : Nat) (c : Br) (t : Nat), l[k]? = some c ∧ rch l w k = true ∧ t ≤ 2 ∧ c.to t = (j : Int)
  | 0, w, hn, hr => by rw [rch_neg (by omega)] at hr; cases hr
  | n + 1, w, hn, hr => by
    by_cases h0 : w < 0
    · rw [rch_neg h0] at hr; cases hr
    · by_cases hl : (l.length : Int) ≤ w
      · rw [rch_big hl] at hr; cases hr
      · obtain ⟨b, hb⟩ := get_toNat (l := l) (w := w) (by omega) (by omega)
        have hw := (h.2 w.toNat b hb).2.1
        have step : ∀ t, t ≤ 2 → rch l (b.to t) j = true → w = (j : Int) ∨ ∃ (k : Nat) (c : Br) (t : Nat), l[k]? = some c ∧ rch l w k = true ∧ t ≤ 2 ∧ c.to t = (j : Int) := fun t ht hr => by
          have := (hw t).2.1
          rcases rch_from h n (b.to t) (by omega) hr with e | ⟨k, c, s, h1, h2, h3, h4⟩
          · exact .inr ⟨w.toNat, b, t, hb, rch_self h (by omega) (by omega), ht, e⟩
          · exact .inr ⟨k, c, s, h1, rch_way h (by omega) hb t h2, h3, h4⟩
        rw [rch_step h (by omega) hb] at hr
        simp only [Bool.or_eq_true, decide_eq_true_eq] at hr
        rcases hr with ((e | e) | e) | e
        · left; omega
        · exact step 0 (by omega) e
        · exact step 1 (by omega) e
        · exact step 2 (by omega) e
/-- What is marked once all from i on that are reached have marked where they lead. -/
def Marked (l : List Br) (w : Int) (i j : Nat) : Prop := w = (j : Int) ∨ ∃ (k : Nat) (c : Br) (t : Nat), i ≤ k ∧ l[k]? = some c ∧ rch l w k = true ∧ t ≤ 2 ∧ c.to t = (j : Int)
theorem marked_top (h : Dg l) {w : Int} {j : Nat} {i : Nat} (hi : w < (i : Int)) : Marked l w i j ↔ w = (j : Int) := by
  refine ⟨?_, .inl⟩
  rintro (e | ⟨k, c, t, h1, h2, h3, h4, h5⟩)
  · exact e
  · have := rch_le h (w + 1).toNat w (by omega) h3
    omega
/-- Marked when it is its turn: reached. -/
theorem marked_turn (h : Dg l) {w : Int} {i : Nat} (hi : i < l.length) (h0 : 0 ≤ w) (hl : w < l.length) : Marked l w (i + 1) i ↔ rch l w i = true := by
  constructor
  · rintro (e | ⟨k, c, t, h1, h2, h3, h4, h5⟩)
    · have := rch_self h h0 hl
      rwa [show w.toNat = i by omega] at this
    · exact rch_on h h2 h5 (w + 1).toNat w (by omega) h3
  · intro hr
    rcases rch_from h (w + 1).toNat w (by omega) hr with e | ⟨k, c, t, h2, h3, h4, h5⟩
    · exact .inl e
    · refine .inr ⟨k, c, t, ?_, h2, h3, h4, h5⟩
      have := ((h.2 k c h2).2.1 t).2.1
      omega
theorem marked_step {w : Int} {i j : Nat} {c : Br} (hc : l[i]? = some c) : Marked l w i j ↔ Marked l w (i + 1) j ∨ (rch l w i = true ∧ ∃ t, t ≤ 2 ∧ c.to t = (j : Int)) := by
  constructor
  · rintro (e | ⟨k, d, t, h1, h2, h3, h4, h5⟩)
    · exact .inl (.inl e)
    · by_cases e : k = i
      · subst e
        obtain rfl : c = d := Option.some.inj (hc.symm.trans h2)
        exact .inr ⟨h3, t, h4, h5⟩
      · exact .inl (.inr ⟨k, d, t, by omega, h2, h3, h4, h5⟩)
  · rintro ((e | ⟨k, d, t, h1, h2, h3, h4, h5⟩) | ⟨h3, t, h4, h5⟩)
    · exact .inl e
    · exact .inr ⟨k, d, t, by omega, h2, h3, h4, h5⟩
    · exact .inr ⟨i, c, t, Nat.le_refl _, hc, h3, h4, h5⟩
/-- How many are reached from i on. -/
def cntD (l : List Br) (w : Int) (i : Nat) : Nat := (List.range l.length).countP (fun k => decide (i ≤ k) && rch l w k)
theorem cnt_zero (w : Int) : cntD l w 0 = sizeD l w := by
  unfold cntD sizeD
  have e : (fun k => decide (0 ≤ k) && rch l w k) = rch l w := by funext k; simp
  rw [e]
theorem cnt_top (h : Dg l) {w : Int} {i : Nat} (hi : w < (i : Int)) : cntD l w i = 0 := by
  unfold cntD
  rw [List.countP_eq_zero]
  intro k _ hk
  simp only [Bool.and_eq_true, decide_eq_true_eq] at hk
  have := rch_le h (w + 1).toNat w (by omega) hk.2
  omega
theorem countP_at (f : Nat → Bool) (i : Nat) : ∀ n, i < n → (List.range n).countP (fun k => decide (i ≤ k) && f k) = (List.range n).countP (fun k => decide (i + 1 ≤ k) && f k) + (if f i = true then 1 else 0)
  | 0, h => by omega
  | n + 1, h => by
    rw [List.range_succ, List.countP_append, List.countP_append]
    by_cases e : i = n
    · subst e
      have h1 : (List.range i).countP (fun k => decide (i ≤ k) && f k) = 0 := by
        rw [List.countP_eq_zero]
        intro k hk
        rw [List.mem_range] at hk
        simp
        omega
      have h2 : (List.range i).countP (fun k => decide (i + 1 ≤ k) && f k) = 0 := by
        rw [List.countP_eq_zero]
        intro k hk
        rw [List.mem_range] at hk
        simp
        omega
      rw [h1, h2]
      cases hf : f i <;> simp [hf]
    · have h1 := countP_at f i n (by omega)
      have e1 : decide (i ≤ n) = true := by simp; omega
      have e2 : decide (i + 1 ≤ n) = true := by simp; omega
      rw [h1]
      simp only [List.countP_cons, List.countP_nil, e1, e2, Bool.true_and]
      omega
theorem cnt_step {w : Int} {i : Nat} (hi : i < l.length) : cntD l w i = cntD l w (i + 1) + (if rch l w i = true then 1 else 0) := countP_at (rch l w) i l.length hi
end
end Go.Proofs.Ytipeefehhaffkaa
