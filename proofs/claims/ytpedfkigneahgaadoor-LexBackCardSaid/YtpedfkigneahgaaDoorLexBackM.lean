/- Tokens written, plainly: what LexBack writes of a token is that token again, and no longer than what stood there. -/
import Derived.Test.YtpedfkigneahgaaDoorLexVal
import Derived.Lib.ItoaMem
namespace Go.Proofs.YtpedfkigneahgaaDoor
set_option linter.unusedVariables false

/-- What LexBack writes of a token. -/
def wrT (k n : Int) (s : List UInt8) : List UInt8 := if k = 2 then Lib.itoa n else if k = 3 then 64 :: Lib.itoa n else if k = 4 then 35 :: s else if k = 5 then quoteB s else s

theorem dgt_back {c : UInt8} (h : dgt c = true) : UInt8.ofNat (48 + (c.toNat - 48)) = c ∧ c.toNat - 48 < 10 := by
  unfold dgt at h
  simp at h
  refine ⟨?_, by omega⟩
  rw [show 48 + (c.toNat - 48) = c.toNat by omega]
  simp
theorem dec_numD : ∀ (m : Nat) (d : List UInt8), d.length ≤ m → AllD d → d ≠ [] → ¬ (d.head? = some 48 ∧ d ≠ [48]) → Lib.decDigits (numD d) = d
  | 0, d, hm, _, hne, _ => absurd (List.length_eq_zero_iff.1 (by omega)) hne
  | m + 1, d, hm, had, hne, hz => by
    rcases List.eq_nil_or_concat d with rfl | ⟨l, c, rfl⟩
    · exact absurd rfl hne
    rw [List.concat_eq_append] at *
    have hc := dgt_back (had c (by simp))
    rw [numD_app, Lib.decDigits]
    by_cases hl : l = []
    · subst hl
      have h0 : numD [] = 0 := rfl
      rw [h0, Nat.mul_zero, Nat.zero_add, dif_pos hc.2, hc.1]
      rfl
    · have hh : (l ++ [c]).head? = l.head? := by cases l with
        | nil => exact absurd rfl hl
        | cons a r => rfl
      have hne2 : l ++ [c] ≠ [48] := by
        intro h
        cases l with
        | nil => exact hl rfl
        | cons a r => injection h with _ h2; cases r <;> cases h2
      have hz2 : ¬ l.head? = some 48 := fun h => hz ⟨hh.trans h, hne2⟩
      have ih := dec_numD m l (by simp at hm; omega) (fun x hx => had x (by simp [hx])) hl (fun h => hz2 h.1)
      have hpos : 1 ≤ numD l := by
        rcases Nat.eq_zero_or_pos (numD l) with h | h
        · rw [h] at ih
          rw [show Lib.decDigits 0 = [48] by rw [Lib.decDigits]; rfl] at ih
          rw [← ih] at hz2
          exact absurd rfl hz2
        · exact h
      rw [dif_neg (by omega), show (10 * numD l + (c.toNat - 48)) / 10 = numD l by omega, show (10 * numD l + (c.toNat - 48)) % 10 = c.toNat - 48 by omega, ih, hc.1]
theorem decD_back {most : Nat} {d : List UInt8} {u : Nat} (had : AllD d) (h : decD most d = some u) : Lib.decDigits u = d ∧ u ≤ most := by
  unfold decD at h
  split at h
  · cases h
  · rename_i hn
    obtain rfl := Option.some.inj h
    exact ⟨dec_numD d.length d (Nat.le_refl _) had (fun h => hn (.inl h)) (fun h => hn (.inr (.inl h))), by omega⟩
theorem tw_all (p : UInt8 → Bool) (l : List UInt8) : ∀ c ∈ l.takeWhile p, p c = true := by
  induction l with
  | nil => intro c hc; cases hc
  | cons a r ih =>
    intro c hc
    rw [List.takeWhile_cons] at hc
    split at hc
    · rename_i h
      rcases List.mem_cons.1 hc with rfl | hc
      · exact h
      · exact ih c hc
    · cases hc
theorem qt_len : ∀ (n : Nat) (l m : List UInt8) (j : Nat), l.length ≤ n → qtB l = some (m, j) → (quoteL m).length + 1 ≤ j
  | n, [], m, j, _, h => by rw [qtB_nil] at h; cases h
  | 0, c :: r, m, j, hn, h => by simp at hn
  | n + 1, c :: r, m, j, hn, h => by
    by_cases hc : c = 34
    · subst hc
      rw [qtB_end] at h
      cases h
      exact Nat.le_refl _
    · cases ho : oneB (c :: r) with
      | none => rw [qtB_bad hc ho] at h; cases h
      | some q =>
        obtain ⟨x, k⟩ := q
        have hk := oneB_pos ho
        rw [qtB_one hc ho] at h
        cases hr : qtB ((c :: r).drop k) with
        | none => rw [hr] at h; cases h
        | some p =>
          obtain ⟨m', j'⟩ := p
          rw [hr] at h
          simp at h
          obtain ⟨rfl, rfl⟩ := h
          have ih := qt_len n _ m' j' (by simp at hn ⊢; omega) hr
          show (quoteC x ++ quoteL m').length + 1 ≤ k + j'
          have hx : (quoteC x).length ≤ k := by
            rw [oneB_cons] at ho
            unfold quoteC
            split at ho
            · rename_i h8
              cases ho
              rw [h8]
              simp
            · split at ho
              · have h3 : k = 3 := by
                  match r, ho with
                  | a :: b :: _, ho => exact hexB_three ho
                subst h3
                split <;> simp
              · cases ho
          rw [List.length_append]
          omega
/-- A token, written anew, is that token, and no longer than it was. -/
theorem tok_back {l : List UInt8} {k n : Int} {s : List UInt8} {m : Nat} (h : tokB l = some (k, n, s, m)) : tokB (wrT k n s) = some (k, n, s, (wrT k n s).length) ∧ (wrT k n s).length ≤ m := by
  cases l with
  | nil => cases h
  | cons c r =>
    rw [tokB_cons] at h
    by_cases h1 : lett c = true
    · rw [if_pos h1] at h
      split at h
      · rename_i hN
        cases h
        have e : (c :: r).takeWhile inm = c :: r.takeWhile inm := by rw [List.takeWhile_cons, if_pos (by unfold inm; rw [h1]; rfl)]
        have ha := tw_all inm (c :: r)
        rw [e] at hN ha ⊢
        show tokB (c :: r.takeWhile inm) = some (1, 0, c :: r.takeWhile inm, (c :: r.takeWhile inm).length) ∧ (c :: r.takeWhile inm).length ≤ _
        rw [tokB_cons, if_pos h1, tw_self ha, if_pos hN]
        exact ⟨rfl, Nat.le_refl _⟩
      · cases h
    rw [if_neg h1] at h
    by_cases h2 : dgt c = true
    · rw [if_pos h2] at h
      cases hd : decD 9223372036854775807 ((c :: r).takeWhile dgt) with
      | none => rw [hd] at h; cases h
      | some u =>
        rw [hd] at h
        cases h
        obtain ⟨hb, hu⟩ := decD_back (tw_all dgt _) hd
        have hi : Lib.itoa (u : Int) = (c :: r).takeWhile dgt := by rw [Lib.itoa_nonneg, hb]
        show tokB (Lib.itoa (u : Int)) = some (2, (u : Int), [], (Lib.itoa (u : Int)).length) ∧ (Lib.itoa (u : Int)).length ≤ _
        exact ⟨tok_itoa (by omega) (by omega), by rw [hi]; exact Nat.le_refl _⟩
    rw [if_neg h2] at h
    by_cases h3 : c = 45
    · rw [if_pos h3] at h
      cases hd : decD 9223372036854775808 (r.takeWhile dgt) with
      | none => rw [hd] at h; cases h
      | some u =>
        rw [hd, Option.bind_some] at h
        split at h
        · cases h
        · rename_i h0
          cases h
          obtain ⟨hb, hu⟩ := decD_back (tw_all dgt _) hd
          have hi : Lib.itoa (-(u : Int)) = 45 :: r.takeWhile dgt := by rw [Lib.itoa_neg u (by omega), hb]
          show tokB (Lib.itoa (-(u : Int))) = some (2, -(u : Int), [], (Lib.itoa (-(u : Int))).length) ∧ (Lib.itoa (-(u : Int))).length ≤ _
          exact ⟨tok_itoa (by omega) (by omega), by rw [hi]; exact Nat.le_refl _⟩
    rw [if_neg h3] at h
    by_cases h4 : c = 64
    · rw [if_pos h4] at h
      cases hd : decD 1099511627776 (r.takeWhile dgt) with
      | none => rw [hd] at h; cases h
      | some u =>
        rw [hd] at h
        cases h
        obtain ⟨hb, hu⟩ := decD_back (tw_all dgt _) hd
        have hi : Lib.itoa (u : Int) = r.takeWhile dgt := by rw [Lib.itoa_nonneg, hb]
        show tokB (64 :: Lib.itoa (u : Int)) = some (3, (u : Int), [], (Lib.itoa (u : Int)).length + 1) ∧ (Lib.itoa (u : Int)).length + 1 ≤ _
        exact ⟨tok_tick (by omega) (by omega), by rw [hi]; exact Nat.le_refl _⟩
    rw [if_neg h4] at h
    by_cases h5 : c = 35
    · rw [if_pos h5] at h
      split at h
      · rename_i hN
        cases h
        show tokB (35 :: r.takeWhile inm) = some (4, 0, r.takeWhile inm, (r.takeWhile inm).length + 1) ∧ (r.takeWhile inm).length + 1 ≤ _
        exact ⟨tok_id hN, Nat.le_refl _⟩
      · cases h
    rw [if_neg h5] at h
    by_cases h6 : c = 34
    · rw [if_pos h6] at h
      cases hq : qtB r with
      | none => rw [hq] at h; cases h
      | some p =>
        obtain ⟨x, j⟩ := p
        rw [hq, Option.bind_some] at h
        split at h
        · rename_i hx
          cases h
          have hl := qt_len _ _ _ _ (Nat.le_refl _) hq
          show tokB (quoteB x) = some (5, 0, x, (quoteB x).length) ∧ (quoteB x).length ≤ _
          refine ⟨tok_text hx, ?_⟩
          unfold quoteB
          simp
          omega
        · cases h
    rw [if_neg h6] at h
    split at h
    · rename_i hm
      cases h
      show tokB [c] = some (6, 0, [c], 1) ∧ 1 ≤ 1
      rw [tokB_cons, if_neg h1, if_neg h2, if_neg h3, if_neg h4, if_neg h5, if_neg h6, if_pos hm]
      exact ⟨rfl, Nat.le_refl _⟩
    · cases h
end Go.Proofs.YtpedfkigneahgaaDoor
