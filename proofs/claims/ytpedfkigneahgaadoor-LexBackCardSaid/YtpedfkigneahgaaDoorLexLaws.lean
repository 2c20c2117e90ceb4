/- Tokens of texts set together, plainly. -/
import Derived.Test.YtpedfkigneahgaaDoorLexMath
namespace Go.Proofs.YtpedfkigneahgaaDoor
set_option linter.unusedVariables false

def shT (d : Nat) (t : Tk) : Tk := ⟨t.k, t.p + d, t.n, t.s⟩
/-- Places moved. -/
def shE (d : Nat) : Except Nat (List Tk) → Except Nat (List Tk)
  | .error e => .error (e + d)
  | .ok ts => .ok (ts.map (shT d))
theorem shE_cat (d : Nat) (ts : List Tk) (x : Except Nat (List Tk)) : shE d (cat ts x) = cat (ts.map (shT d)) (shE d x) := by cases x <;> simp [shE, cat]
theorem lexB_shift_n : ∀ (n : Nat) (l : List UInt8) (p d : Nat), l.length ≤ n → lexB l (p + d) = shE d (lexB l p)
  | _, [], p, d, _ => by rw [lexB_nil, lexB_nil]; simp [shE, shT]
  | 0, c :: r, p, d, h => by simp at h
  | n + 1, c :: r, p, d, h => by
    simp only [List.length_cons] at h
    cases hb : blk c with
    | true => rw [lexB_blank hb, lexB_blank hb, show p + d + 1 = p + 1 + d by omega, lexB_shift_n n r (p + 1) d (by omega)]
    | false =>
      cases ht : tokB (c :: r) with
      | none => rw [lexB_bad hb ht, lexB_bad hb ht]; rfl
      | some q =>
        obtain ⟨k, m, s, j⟩ := q
        have hj := tokB_pos ht
        rw [lexB_tok hb ht, lexB_tok hb ht, shE_cat, show p + d + j = p + j + d by omega, lexB_shift_n n _ (p + j) d (by rw [List.length_drop, List.length_cons]; omega)]
        simp [shT]
theorem lexB_shift (l : List UInt8) (p d : Nat) : lexB l (p + d) = shE d (lexB l p) := lexB_shift_n l.length l p d (Nat.le_refl _)
theorem lexB_from (l : List UInt8) (d : Nat) : lexB l d = shE d (lexB l 0) := by have := lexB_shift l 0 d; rwa [Nat.zero_add] at this

theorem tw_sep {p : UInt8 → Bool} {x : UInt8} (h : p x = false) (l y : List UInt8) : (l ++ x :: y).takeWhile p = l.takeWhile p := by
  induction l with
  | nil => simp [h]
  | cons c r ih =>
    rw [List.cons_append, List.takeWhile_cons, List.takeWhile_cons]
    cases p c <;> simp [ih]
theorem escB_app {r : List UInt8} {q : UInt8 × Nat} (h : escB r = some q) (y : List UInt8) : escB (r ++ y) = some q := by
  match r, h with
  | a :: b :: r, h => exact h
theorem oneB_app {l : List UInt8} {q : UInt8 × Nat} (h : oneB l = some q) (y : List UInt8) : oneB (l ++ y) = some q := by
  cases l with
  | nil => cases h
  | cons c r =>
    rw [oneB_cons] at h
    rw [List.cons_append, oneB_cons]
    split at h
    · rename_i h1; rw [if_pos h1]; exact h
    · rename_i h1
      rw [if_neg h1]
      split at h
      · rename_i h2; rw [if_pos h2]; exact escB_app h y
      · cases h
theorem hexv_ten : hexv 10 = none := by decide
theorem escB_nl {r : List UInt8} (h : escB r = none) (y : List UInt8) : escB (r ++ 10 :: y) = none := by
  match r, h with
  | [], _ => cases y with
    | nil => rfl
    | cons a y => show hexB (hexv 10) (hexv a) = none; rw [hexv_ten, hexB_none1]
  | [a], _ => show hexB (hexv a) (hexv 10) = none; rw [hexv_ten, hexB_none2]
  | a :: b :: r, h => exact h
theorem oneB_nl {c : UInt8} {r : List UInt8} (h : oneB (c :: r) = none) (y : List UInt8) : oneB (c :: r ++ 10 :: y) = none := by
  rw [oneB_cons] at h
  rw [List.cons_append, oneB_cons]
  split at h
  · cases h
  · rename_i h1
    rw [if_neg h1]
    split at h
    · rename_i h2; rw [if_pos h2]; exact escB_nl h y
    · rename_i h2; rw [if_neg h2]
theorem qtB_app : ∀ (n : Nat) (l : List UInt8) (q : List UInt8 × Nat) (y : List UInt8), l.length ≤ n → qtB l = some q → qtB (l ++ y) = some q
  | _, [], q, y, _, h => by rw [qtB_nil] at h; cases h
  | 0, c :: r, q, y, hl, h => by simp at hl
  | n + 1, c :: r, q, y, hl, h => by
    by_cases hc : c = 34
    · subst hc; rw [qtB_end] at h; rw [List.cons_append, qtB_end]; exact h
    · cases ho : oneB (c :: r) with
      | none => rw [qtB_bad hc ho] at h; cases h
      | some xk =>
        obtain ⟨x, k⟩ := xk
        have hk := oneB_pos ho
        rw [qtB_one hc ho] at h
        have ho' := oneB_app ho y
        rw [List.cons_append] at ho'
        rw [List.cons_append, qtB_one hc ho', ← List.cons_append, List.drop_append_of_le_length hk.2]
        cases hq : qtB ((c :: r).drop k) with
        | none => rw [hq] at h; cases h
        | some q' =>
          rw [hq] at h
          rw [qtB_app n _ q' y (by simp only [List.length_drop]; simp only [List.length_cons] at hl ⊢; omega) hq]
          exact h
theorem qtB_nl : ∀ (n : Nat) (l : List UInt8) (y : List UInt8), l.length ≤ n → qtB l = none → qtB (l ++ 10 :: y) = none
  | _, [], y, _, _ => qtB_bad (by decide) (oneB_odd (by decide) (by decide))
  | 0, c :: r, y, hl, h => by simp at hl
  | n + 1, c :: r, y, hl, h => by
    by_cases hc : c = 34
    · subst hc; rw [qtB_end] at h; cases h
    · cases ho : oneB (c :: r) with
      | none => rw [List.cons_append]; exact qtB_bad hc (oneB_nl ho y)
      | some xk =>
        obtain ⟨x, k⟩ := xk
        have hk := oneB_pos ho
        rw [qtB_one hc ho] at h
        have ho' := oneB_app ho (10 :: y)
        rw [List.cons_append] at ho'
        rw [List.cons_append, qtB_one hc ho', ← List.cons_append, List.drop_append_of_le_length hk.2]
        cases hq : qtB ((c :: r).drop k) with
        | some q' => rw [hq] at h; cases h
        | none =>
          rw [qtB_nl n _ y (by simp only [List.length_drop]; simp only [List.length_cons] at hl ⊢; omega) hq]
          rfl
theorem tokB_cons (c : UInt8) (r : List UInt8) : tokB (c :: r) =
    if lett c = true then (if Named ((c :: r).takeWhile inm) then some (1, 0, (c :: r).takeWhile inm, ((c :: r).takeWhile inm).length) else none)
    else if dgt c = true then (decD 9223372036854775807 ((c :: r).takeWhile dgt)).map fun (n : Nat) => (2, (n : Int), [], ((c :: r).takeWhile dgt).length)
    else if c = 45 then (decD 9223372036854775808 (r.takeWhile dgt)).bind fun (n : Nat) => if n = 0 then none else some (2, -(n : Int), [], (r.takeWhile dgt).length + 1)
    else if c = 64 then (decD 1099511627776 (r.takeWhile dgt)).map fun (n : Nat) => (3, (n : Int), [], (r.takeWhile dgt).length + 1)
    else if c = 35 then (if Named (r.takeWhile inm) then some (4, 0, r.takeWhile inm, (r.takeWhile inm).length + 1) else none)
    else if c = 34 then (qtB r).bind fun p => if p.1.length ≤ 64 then some (5, 0, p.1, p.2 + 1) else none
    else if mrk c = true then some (6, 0, [c], 1)
    else none := rfl
/-- What isn't a text's inside is the same ahead of a blank. -/
theorem tokB_sep {c x : UInt8} (hi : inm x = false) (hd : dgt x = false) (r y : List UInt8) (hq : c = 34 → qtB (r ++ x :: y) = qtB r) : tokB (c :: r ++ x :: y) = tokB (c :: r) := by
  have e1 : (c :: r ++ x :: y).takeWhile inm = (c :: r).takeWhile inm := tw_sep hi _ _
  have e2 : (c :: r ++ x :: y).takeWhile dgt = (c :: r).takeWhile dgt := tw_sep hd _ _
  rw [List.cons_append] at e1 e2 ⊢
  rw [tokB_cons, tokB_cons, e1, e2, tw_sep hi, tw_sep hd]
  by_cases h34 : c = 34
  · rw [hq h34]
  · simp only [if_neg h34]
theorem tokB_app {c x : UInt8} (hi : inm x = false) (hd : dgt x = false) (r y : List UInt8) {q : Int × Int × List UInt8 × Nat} (h : tokB (c :: r) = some q) : tokB (c :: r ++ x :: y) = some q := by
  rw [← h]
  by_cases h34 : c = 34
  · subst h34
    have hh := h
    rw [tokB_cons, if_neg (by decide), if_neg (by decide), if_neg (by decide), if_neg (by decide), if_neg (by decide), if_pos rfl] at hh
    cases hq : qtB r with
    | none => rw [hq] at hh; cases hh
    | some p => exact tokB_sep hi hd r y fun _ => by rw [hq]; exact qtB_app _ _ _ _ (Nat.le_refl _) hq
  · exact tokB_sep hi hd r y fun hc => absurd hc h34
theorem tokB_nl {c : UInt8} (r y : List UInt8) (h : tokB (c :: r) = none) : tokB (c :: r ++ 10 :: y) = none := by
  rw [← h]
  refine tokB_sep (by decide) (by decide) r y fun _ => ?_
  cases hq : qtB r with
  | none => exact qtB_nl _ _ _ (Nat.le_refl _) hq
  | some p => exact qtB_app _ _ _ _ (Nat.le_refl _) hq

theorem lexB_ne : ∀ (n : Nat) (l : List UInt8) (p : Nat) (ts : List Tk), l.length ≤ n → lexB l p = .ok ts → ∃ us, ts = us ++ [⟨7, ((p + l.length : Nat) : Int), 0, ⟨#[]⟩⟩] ∧ us.length ≤ l.length
  | _, [], p, ts, _, h => by rw [lexB_nil] at h; cases h; exact ⟨[], by simp, by simp⟩
  | 0, c :: r, p, ts, hl, h => by simp at hl
  | n + 1, c :: r, p, ts, hl, h => by
    simp only [List.length_cons] at hl
    cases hb : blk c with
    | true =>
      rw [lexB_blank hb] at h
      obtain ⟨us, rfl, h2⟩ := lexB_ne n r (p + 1) ts (by omega) h
      exact ⟨us, by rw [List.length_cons, show p + 1 + r.length = p + (r.length + 1) by omega], by rw [List.length_cons]; omega⟩
    | false =>
      cases ht : tokB (c :: r) with
      | none => rw [lexB_bad hb ht] at h; cases h
      | some q =>
        obtain ⟨k, m, s, j⟩ := q
        have hj := tokB_pos ht
        rw [lexB_tok hb ht] at h
        cases hx : lexB ((c :: r).drop j) (p + j) with
        | error e => rw [hx] at h; cases h
        | ok ts' =>
          rw [hx] at h
          cases h
          obtain ⟨us, rfl, h2⟩ := lexB_ne n _ _ _ (by rw [List.length_drop, List.length_cons]; omega) hx
          rw [List.length_drop] at h2 ⊢
          exact ⟨⟨k, p, m, ⟨s.toArray⟩⟩ :: us, by rw [show p + j + ((c :: r).length - j) = p + (c :: r).length by omega]; rfl, by simp only [List.length_cons] at h2 ⊢; omega⟩
theorem lexB_places : ∀ (n : Nat) (l : List UInt8) (p : Nat) (ts : List Tk), l.length ≤ n → lexB l p = .ok ts → ∀ t ∈ ts, (p : Int) ≤ t.p ∧ t.p ≤ ((p + l.length : Nat) : Int)
  | _, [], p, ts, _, h => by rw [lexB_nil] at h; cases h; intro t ht; simp at ht; subst ht; simp
  | 0, c :: r, p, ts, hl, h => by simp at hl
  | n + 1, c :: r, p, ts, hl, h => by
    simp only [List.length_cons] at hl ⊢
    cases hb : blk c with
    | true =>
      rw [lexB_blank hb] at h
      intro t ht
      have := lexB_places n r (p + 1) ts (by omega) h t ht
      omega
    | false =>
      cases htk : tokB (c :: r) with
      | none => rw [lexB_bad hb htk] at h; cases h
      | some q =>
        obtain ⟨k, m, s, j⟩ := q
        have hj := tokB_pos htk
        rw [lexB_tok hb htk] at h
        cases hx : lexB ((c :: r).drop j) (p + j) with
        | error e => rw [hx] at h; cases h
        | ok ts' =>
          rw [hx] at h
          cases h
          intro t ht
          rcases List.mem_cons.1 ht with rfl | ht
          · dsimp only; omega
          · have := lexB_places n _ _ _ (by rw [List.length_drop, List.length_cons]; omega) hx t ht
            rw [List.length_drop] at this
            simp only [List.length_cons] at this hj
            omega
theorem lexB_err_le : ∀ (n : Nat) (l : List UInt8) (p e : Nat), l.length ≤ n → lexB l p = .error e → e ≤ p + l.length
  | _, [], p, e, _, h => by rw [lexB_nil] at h; cases h
  | 0, c :: r, p, e, hl, h => by simp at hl
  | n + 1, c :: r, p, e, hl, h => by
    simp only [List.length_cons] at hl ⊢
    cases hb : blk c with
    | true =>
      rw [lexB_blank hb] at h
      have := lexB_err_le n r (p + 1) e (by omega) h
      omega
    | false =>
      cases htk : tokB (c :: r) with
      | none => rw [lexB_bad hb htk] at h; cases h; omega
      | some q =>
        obtain ⟨k, m, s, j⟩ := q
        have hj := tokB_pos htk
        rw [lexB_tok hb htk] at h
        cases hx : lexB ((c :: r).drop j) (p + j) with
        | ok ts' => rw [hx] at h; cases h
        | error e' =>
          rw [hx] at h
          cases h
          have := lexB_err_le n _ _ _ (by rw [List.length_drop, List.length_cons]; omega) hx
          rw [List.length_drop] at this
          simp only [List.length_cons] at this hj
          omega
theorem lexB_join_n {x : UInt8} (hx : blk x = true) (hi : inm x = false) (hd : dgt x = false) (y : List UInt8) : ∀ (n : Nat) (a : List UInt8) (p : Nat) (ts : List Tk), a.length ≤ n → lexB a p = .ok ts → lexB (a ++ x :: y) p = cat ts.dropLast (lexB y (p + a.length + 1))
  | _, [], p, ts, _, h => by rw [lexB_nil] at h; cases h; rw [List.nil_append, lexB_blank hx]; simp [cat_nil]
  | 0, c :: r, p, ts, hl, h => by simp at hl
  | n + 1, c :: r, p, ts, hl, h => by
    simp only [List.length_cons] at hl
    cases hb : blk c with
    | true =>
      rw [lexB_blank hb] at h
      rw [List.cons_append, lexB_blank hb, lexB_join_n hx hi hd y n r (p + 1) ts (by omega) h, List.length_cons, show p + 1 + r.length + 1 = p + (r.length + 1) + 1 by omega]
    | false =>
      cases ht : tokB (c :: r) with
      | none => rw [lexB_bad hb ht] at h; cases h
      | some q =>
        obtain ⟨k, m, s, j⟩ := q
        have hj := tokB_pos ht
        have ht' := tokB_app hi hd r y ht
        rw [List.cons_append] at ht'
        rw [lexB_tok hb ht] at h
        rw [List.cons_append, lexB_tok hb ht', ← List.cons_append, List.drop_append_of_le_length hj.2.1]
        cases hq : lexB ((c :: r).drop j) (p + j) with
        | error e => rw [hq] at h; cases h
        | ok ts' =>
          rw [hq] at h
          cases h
          obtain ⟨us, rfl, _⟩ := lexB_ne _ _ _ _ (Nat.le_refl _) hq
          rw [lexB_join_n hx hi hd y n _ (p + j) _ (by rw [List.length_drop, List.length_cons]; omega) hq, cat_cat, List.length_drop, show p + j + ((c :: r).length - j) + 1 = p + (c :: r).length + 1 by omega]
          congr 1
          rw [List.dropLast_concat, ← List.append_assoc, List.dropLast_concat]
theorem lexB_join {x : UInt8} (hx : x = 32 ∨ x = 10) {a y : List UInt8} {p : Nat} {ts : List Tk} (h : lexB a p = .ok ts) : lexB (a ++ x :: y) p = cat ts.dropLast (lexB y (p + a.length + 1)) := by
  rcases hx with rfl | rfl
  · exact lexB_join_n (by decide) (by decide) (by decide) y _ a p ts (Nat.le_refl _) h
  · exact lexB_join_n (by decide) (by decide) (by decide) y _ a p ts (Nat.le_refl _) h
theorem lexB_nl : ∀ (n : Nat) (a y : List UInt8) (p e : Nat), a.length ≤ n → lexB a p = .error e → lexB (a ++ 10 :: y) p = .error e
  | _, [], y, p, e, _, h => by rw [lexB_nil] at h; cases h
  | 0, c :: r, y, p, e, hl, h => by simp at hl
  | n + 1, c :: r, y, p, e, hl, h => by
    simp only [List.length_cons] at hl
    cases hb : blk c with
    | true =>
      rw [lexB_blank hb] at h
      rw [List.cons_append, lexB_blank hb]
      exact lexB_nl n r y _ _ (by omega) h
    | false =>
      cases ht : tokB (c :: r) with
      | none =>
        have ht' := tokB_nl r y ht
        rw [List.cons_append] at ht'
        rw [List.cons_append, lexB_bad hb ht']
        rw [lexB_bad hb ht] at h
        exact h
      | some q =>
        obtain ⟨k, m, s, j⟩ := q
        have hj := tokB_pos ht
        have ht' := tokB_app (x := 10) (by decide) (by decide) r y ht
        rw [List.cons_append] at ht'
        rw [lexB_tok hb ht] at h
        rw [List.cons_append, lexB_tok hb ht', ← List.cons_append, List.drop_append_of_le_length hj.2.1]
        cases hq : lexB ((c :: r).drop j) (p + j) with
        | ok ts' => rw [hq] at h; cases h
        | error e' =>
          rw [hq] at h
          rw [lexB_nl n _ y _ _ (by rw [List.length_drop, List.length_cons]; omega) hq]
          exact h
theorem lexB_ahead : ∀ (a l : List UInt8) (p : Nat), (∀ c ∈ a, blk c = true) → lexB (a ++ l) p = lexB l (p + a.length)
  | [], l, p, _ => rfl
  | c :: a, l, p, h => by
    rw [List.cons_append, lexB_blank (h c (List.mem_cons_self ..)), lexB_ahead a l (p + 1) (fun d hd => h d (List.mem_cons_of_mem _ hd)), List.length_cons, show p + 1 + a.length = p + (a.length + 1) by omega]
end Go.Proofs.YtpedfkigneahgaaDoor
