/- ParseCut, plainly: the tokens of a text that is cut short. -/
import Derived.Test.YthppdgiobflfpaaParCut
namespace Go.Proofs.Ythppdgiobflfpaa
set_option linter.unusedVariables false

theorem tw_more {p : UInt8 → Bool} {l : List UInt8} (h : (l.takeWhile p).length < l.length) (r : List UInt8) : (l ++ r).takeWhile p = l.takeWhile p := by
  induction l with
  | nil => simp at h
  | cons a l ih =>
    cases ha : p a with
    | false => simp [ha]
    | true =>
      rw [List.cons_append, List.takeWhile_cons, List.takeWhile_cons, if_pos ha, if_pos ha]
      rw [List.takeWhile_cons, if_pos ha] at h
      rw [ih (by simpa using h)]
/-- A token that ends ahead of the end is the same, whatever stands behind. -/
theorem tokB_more {c : UInt8} {b r : List UInt8} {k n : Int} {s : List UInt8} {m : Nat} (h : tokB (c :: b) = some (k, n, s, m)) (hm : m < (c :: b).length) : tokB (c :: (b ++ r)) = some (k, n, s, m) := by
  simp only [List.length_cons] at hm
  rw [tokB] at h ⊢
  split
  · rename_i hc
    rw [if_pos hc] at h
    split at h
    · rename_i hn
      cases h
      rw [← List.cons_append, tw_more (by simp only [List.length_cons]; omega), if_pos hn]
    · cases h
  · rename_i hc
    rw [if_neg hc] at h
    split
    · rename_i hd
      rw [if_pos hd] at h
      cases hq : decD 9223372036854775807 ((c :: b).takeWhile dgt) with
      | none => rw [hq] at h; cases h
      | some x =>
        rw [hq] at h
        cases h
        rw [← List.cons_append, tw_more (by simp only [List.length_cons]; omega), hq]
        rfl
    · rename_i hd
      rw [if_neg hd] at h
      split
      · rename_i h1
        rw [if_pos h1] at h
        cases hq : decD 9223372036854775808 (b.takeWhile dgt) with
        | none => rw [hq] at h; cases h
        | some x =>
          rw [hq] at h
          simp only [Option.bind_some] at h
          split at h
          · cases h
          · rename_i h0
            cases h
            rw [tw_more (by omega), hq]
            simp only [Option.bind_some]
            rw [if_neg h0]
      · rename_i h1
        rw [if_neg h1] at h
        split
        · rename_i h2
          rw [if_pos h2] at h
          cases hq : decD 1099511627776 (b.takeWhile dgt) with
          | none => rw [hq] at h; cases h
          | some x =>
            rw [hq] at h
            cases h
            rw [tw_more (by omega), hq]
            rfl
        · rename_i h2
          rw [if_neg h2] at h
          split
          · rename_i h3
            rw [if_pos h3] at h
            split at h
            · rename_i hn
              cases h
              rw [tw_more (by omega), if_pos hn]
            · cases h
          · rename_i h3
            rw [if_neg h3] at h
            split
            · rename_i h4
              rw [if_pos h4] at h
              cases hq : qtB b with
              | none => rw [hq] at h; cases h
              | some q =>
                rw [hq] at h
                rw [qtB_app _ b q r (Nat.le_refl _) hq]
                exact h
            · rename_i h4
              rw [if_neg h4] at h
              exact h
theorem tokB_nb {c : UInt8} {b : List UInt8} {k n : Int} {s : List UInt8} {m : Nat} (h : tokB (c :: b) = some (k, n, s, m)) (hc : c ≠ 123) (p : Int) : NbT ⟨k, p, n, ⟨s.toArray⟩⟩ := by
  have key : (k = 1 ∨ k = 6) → ∃ r, s = c :: r := by
    rw [tokB] at h
    split at h
    · rename_i hl
      split at h
      · cases h
        intro _
        rw [List.takeWhile_cons, if_pos (by unfold inm; rw [hl]; rfl)]
        exact ⟨_, rfl⟩
      · cases h
    · split at h
      · cases hq : decD 9223372036854775807 ((c :: b).takeWhile dgt) with
        | none => rw [hq] at h; cases h
        | some x => rw [hq] at h; cases h; intro hk; omega
      · split at h
        · cases hq : decD 9223372036854775808 (b.takeWhile dgt) with
          | none => rw [hq] at h; cases h
          | some x =>
            rw [hq] at h
            simp only [Option.bind_some] at h
            split at h
            · cases h
            · cases h; intro hk; omega
        · split at h
          · cases hq : decD 1099511627776 (b.takeWhile dgt) with
            | none => rw [hq] at h; cases h
            | some x => rw [hq] at h; cases h; intro hk; omega
          · split at h
            · split at h
              · cases h; intro hk; omega
              · cases h
            · split at h
              · cases hq : qtB b with
                | none => rw [hq] at h; cases h
                | some q =>
                  rw [hq] at h
                  simp only [Option.bind_some] at h
                  split at h
                  · cases h; intro hk; omega
                  · cases h
              · split at h
                · cases h; intro _; exact ⟨[], rfl⟩
                · cases h
  rintro ⟨hk, hs⟩
  obtain ⟨r, rfl⟩ := key hk
  have := congrArg (fun x : ByteArray => x.data.toList) hs
  simp at this
  exact hc this.1
/-- Tokens of a text, and of a beginning of it. -/
theorem lex_pre : ∀ (n : Nat) (b r : List UInt8) (p : Nat) (ts ts' : List Tk), b.length ≤ n → lexB (b ++ r) p = .ok ts → lexB b p = .ok ts' → (∀ c ∈ b, c ≠ 123) →
    (∃ l u t, ts = l ++ u ∧ ts' = l ++ t ∧ Tail2 t ∧ ∀ x ∈ l, x.k ≠ 7) ∧ ∀ t ∈ ts', NbT t
  | n, [], r, p, ts, ts', _, h, h', _ => by
    rw [lexB_nil] at h'
    cases h'
    refine ⟨⟨[], ts, _, rfl, rfl, ⟨_, rfl, .inl rfl⟩, by simp⟩, ?_⟩
    intro t ht
    simp at ht
    subst ht
    rintro ⟨hk, _⟩
    simp at hk
  | 0, c :: b, r, p, ts, ts', hl, _, _, _ => by simp at hl
  | n + 1, c :: b, r, p, ts, ts', hl, h, h', hn => by
    simp only [List.length_cons] at hl
    cases hb : blk c with
    | true =>
      rw [List.cons_append, lexB_blank hb] at h
      rw [lexB_blank hb] at h'
      exact lex_pre n b r (p + 1) ts ts' (by omega) h h' (fun x hx => hn x (by simp [hx]))
    | false =>
      cases hq : tokB (c :: b) with
      | none => rw [lexB_bad hb hq] at h'; cases h'
      | some q =>
        obtain ⟨k, m, s, j⟩ := q
        have hnb := tokB_nb hq (hn c (by simp)) (p : Int)
        obtain ⟨j1, j2, j3⟩ := tokB_pos hq
        obtain ⟨⟨k1, k2⟩, _⟩ := tokB_in hq
        rw [lexB_tok hb hq] at h'
        by_cases hj : j < (c :: b).length
        · have hq2 := tokB_more (r := r) hq hj
          rw [List.cons_append, lexB_tok hb hq2] at h
          have hd : (c :: (b ++ r)).drop j = (c :: b).drop j ++ r := by rw [← List.cons_append, List.drop_append_of_le_length (by omega)]
          rw [hd] at h
          cases hr : lexB ((c :: b).drop j ++ r) (p + j) with
          | error e => rw [hr] at h; cases h
          | ok us =>
            cases hr' : lexB ((c :: b).drop j) (p + j) with
            | error e => rw [hr'] at h'; cases h'
            | ok us' =>
              rw [hr] at h
              rw [hr'] at h'
              simp only [cat, Except.ok.injEq] at h h'
              subst h h'
              obtain ⟨⟨l, u, t, e1, e2, ht, hl2⟩, hnb2⟩ := lex_pre n _ r (p + j) us us' (by simp only [List.length_drop, List.length_cons]; omega) hr hr' (fun x hx => hn x (List.mem_of_mem_drop hx))
              refine ⟨⟨⟨k, (p : Int), m, ⟨s.toArray⟩⟩ :: l, u, t, by rw [e1]; rfl, by rw [e2]; rfl, ht, fun x hx => ?_⟩, fun x hx => ?_⟩
              · rcases List.mem_cons.1 hx with rfl | hx
                · show k ≠ 7; omega
                · exact hl2 x hx
              · rcases List.mem_append.1 hx with hx | hx
                · simp at hx; subst hx; exact hnb
                · exact hnb2 x hx
        · have hd : (c :: b).drop j = [] := List.drop_eq_nil_of_le (by omega)
          rw [hd, lexB_nil] at h'
          simp only [cat, Except.ok.injEq] at h'
          subst h'
          refine ⟨⟨[], ts, _, rfl, rfl, ⟨⟨7, ((p + j : Nat) : Int), 0, ⟨#[]⟩⟩, rfl, .inr ⟨⟨k, (p : Int), m, ⟨s.toArray⟩⟩, by show k ≠ 7; omega, rfl⟩⟩, by simp⟩, fun x hx => ?_⟩
          simp at hx
          rcases hx with rfl | rfl
          · exact hnb
          · rintro ⟨hk, _⟩
            simp at hk
/-- A text that is cut short is no policy. -/
theorem cut_read {s u : ByteArray} {p : Pol} {i : Int} {r : List UInt8} (hs : s.size ≤ 4096) (h : parseR s = (p, 0, i)) (hu : s.data.toList = u.data.toList ++ r) (hn : ∀ c ∈ u.data.toList, c ≠ 123) : ∃ j, parseR u = (noPol, 5, j) := by
  have hus : u.size ≤ 4096 := by
    have e1 : s.size = s.data.toList.length := rfl
    have e2 : u.size = u.data.toList.length := rfl
    rw [hu, List.length_append] at e1
    omega
  obtain ⟨ts, hl, hp, he, _, _⟩ := parseR_fine hs h
  cases hl' : lexB u.data.toList 0 with
  | error e => exact ⟨_, parseR_bad hus hl'⟩
  | ok ts' =>
    rw [hu] at hl
    obtain ⟨⟨l, v, t, e1, e2, ht, hk⟩, hnb⟩ := lex_pre _ _ r 0 ts ts' (Nat.le_refl _) hl hl' hn
    rw [← hu] at hl
    have o := (start_ok hs hl).1
    have o' := (start_ok hus hl').1
    have e0 := (kp_end (polR 5 ⟨ts, 0, 0, 0⟩).2).back he
    have hq : Short ⟨ts', 0, 0, 0⟩ ∨ Sync ⟨ts, 0, 0, 0⟩ ⟨ts', 0, 0, 0⟩ := by
      cases l with
      | nil => exact .inl ⟨rfl, by show Tail2 ts'; rw [e2]; exact ht, hnb⟩
      | cons a l => exact .inr ⟨rfl, rfl, hnb, a, l, v, t, hk a (by simp), fun b hb => hk b (by simp [hb]), ht, e1, e2⟩
    have o2 : (⟨ts, 0, 0, 0⟩ : Pz).ok 4096 := ⟨o.1, fun x hx => by obtain ⟨a, ⟨b1, b2⟩, c⟩ := o.2.1 x hx; exact ⟨a, ⟨b1, by omega⟩, c⟩, ⟨o.2.2.1.1, o.2.2.1.2.1, Nat.le_refl _⟩, o.2.2.2.1, o.2.2.2.2.1, by have := o.2.2.2.2.2; omega⟩
    have o2' : (⟨ts', 0, 0, 0⟩ : Pz).ok 4096 := ⟨o'.1, fun x hx => by obtain ⟨a, ⟨b1, b2⟩, c⟩ := o'.2.1 x hx; exact ⟨a, ⟨b1, by omega⟩, c⟩, ⟨o'.2.2.1.1, o'.2.2.1.2.1, Nat.le_refl _⟩, o'.2.2.2.1, o'.2.2.2.2.1, by have := o'.2.2.2.2.2; omega⟩
    have hb := pol_cut o2 o2' hq rfl e0
    have hz := hb.kp (kp_end _)
    obtain ⟨q, s1, hq1⟩ := pair_eq (polR 5 ⟨ts', 0, 0, 0⟩)
    obtain ⟨z, hz1⟩ : ∃ z, endR s1 = z := ⟨_, rfl⟩
    rw [hq1] at hz
    change Bad (endR s1) at hz
    rw [hz1] at hz
    unfold Bad at hz
    exact ⟨_, by rw [parseR_ok hus hl' hq1 hz1, if_neg (by rw [hz]; omega), hz]⟩
end Go.Proofs.Ythppdgiobflfpaa
