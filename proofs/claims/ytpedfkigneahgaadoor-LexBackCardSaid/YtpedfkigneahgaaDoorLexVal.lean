/- A right value's text as a token, plainly. -/
import Derived.Test.YtpedfkigneahgaaDoorLexLaws
import Derived.Test.YtpedfkigneahgaaDoorLexNum
import Derived.Test.YtpedfkigneahgaaDoorVShowM
namespace Go.Proofs.YtpedfkigneahgaaDoor
set_option linter.unusedVariables false

theorem tw_self {p : UInt8 → Bool} {l : List UInt8} (h : ∀ c ∈ l, p c = true) : l.takeWhile p = l := by
  induction l with
  | nil => rfl
  | cons c r ih => rw [List.takeWhile_cons, if_pos (h c (List.mem_cons_self ..)), ih fun d hd => h d (List.mem_cons_of_mem _ hd)]
theorem numD_dec (u : Nat) : numD (Lib.decDigits u) = u := valD_dec u
theorem dec_digs (u : Nat) : AllD (Lib.decDigits u) := by
  induction u using Nat.strongRecOn with
  | _ u ih =>
    intro c hc
    rw [Lib.decDigits] at hc
    split at hc
    · rename_i h
      simp at hc
      subst hc
      have := ofNat_toNat (show 48 + u < 256 by omega)
      unfold dgt
      simp
      omega
    · rename_i h
      rcases List.mem_append.1 hc with hc | hc
      · exact ih (u / 10) (by omega) c hc
      · simp at hc
        subst hc
        have := ofNat_toNat (show 48 + u % 10 < 256 by omega)
        unfold dgt
        simp
        omega
theorem dec_zero (u : Nat) : ∀ r, Lib.decDigits u = 48 :: r → r = [] := by
  induction u using Nat.strongRecOn with
  | _ u ih =>
    intro r hr
    rw [Lib.decDigits] at hr
    split at hr
    · injection hr with _ h; exact h.symm
    · rename_i h
      obtain ⟨c, r', e, _⟩ := dec_head (u / 10)
      rw [e] at hr
      injection hr with h1 h2
      subst h1
      have h0 := ih (u / 10) (by omega) r' e
      subst h0
      have := valD_dec (u / 10)
      rw [e] at this
      simp [valD] at this
      omega
theorem decD_dec {most u : Nat} (h : u ≤ most) : decD most (Lib.decDigits u) = some u := by
  obtain ⟨c, r, e, _⟩ := dec_head u
  unfold decD
  rw [if_neg, numD_dec]
  rintro (h1 | ⟨h1, h2⟩ | h1)
  · rw [e] at h1; cases h1
  · rw [e] at h1 h2
    simp at h1
    subst h1
    exact h2 (by rw [dec_zero u r e])
  · rw [numD_dec] at h1; omega
/-- A number's text is a token. -/
theorem tok_itoa {n : Int} (h1 : -9223372036854775808 ≤ n) (h2 : n ≤ 9223372036854775807) : tokB (Lib.itoa n) = some (2, n, [], (Lib.itoa n).length) := by
  unfold Lib.itoa
  split
  · rename_i hn
    rw [tokB_cons, if_neg (by decide), if_neg (by decide), if_pos rfl, tw_self (dec_digs _), decD_dec (show n.natAbs ≤ 9223372036854775808 by omega), Option.bind_some, if_neg (by omega)]
    simp
    omega
  · rename_i hn
    obtain ⟨c, r, e, h48, h57⟩ := dec_head n.toNat
    have hd := dec_digs n.toNat
    have ht := tw_self hd
    have hv := decD_dec (most := 9223372036854775807) (u := n.toNat) (by omega)
    rw [e] at hd ht hv ⊢
    have hl : lett c = false := by unfold lett; simp; omega
    rw [tokB_cons, if_neg (by rw [hl]; simp), if_pos (hd c (List.mem_cons_self ..)), ht, hv]
    simp
    omega
theorem tok_tick {n : Int} (h1 : 0 ≤ n) (h2 : n ≤ 1099511627776) : tokB (64 :: Lib.itoa n) = some (3, n, [], (Lib.itoa n).length + 1) := by
  unfold Lib.itoa
  rw [if_neg (by omega), tokB_cons, if_neg (by decide), if_neg (by decide), if_neg (by decide), if_pos rfl, tw_self (dec_digs _), decD_dec (show n.toNat ≤ 1099511627776 by omega)]
  simp
  omega
theorem named_inm {l : List UInt8} (h : Named l) : ∀ c ∈ l, inm c = true := by
  intro c hc
  obtain ⟨j, hj, rfl⟩ := List.getElem_of_mem hc
  have := h.2 j hj
  unfold okAt at this
  unfold inm
  cases hl : lett l[j] with
  | true => rfl
  | false => rw [hl] at this; simp at this; simp [this.2]
theorem tok_id {l : List UInt8} (h : Named l) : tokB (35 :: l) = some (4, 0, l, l.length + 1) := by
  rw [tokB_cons, if_neg (by decide), if_neg (by decide), if_neg (by decide), if_neg (by decide), if_pos rfl, tw_self (named_inm h), if_pos h]
theorem hexv_hexd : ∀ x : Fin 16, hexv (hexd x.val) = some x.val := by decide
theorem qt_quote : ∀ (l : List UInt8), qtB (quoteL l ++ [34]) = some (l, (quoteL l).length + 1)
  | [] => by show qtB [34] = _; rw [qtB_end]; rfl
  | c :: r => by
    have ih := qt_quote r
    show qtB (quoteC c ++ quoteL r ++ [34]) = some (c :: r, (quoteC c ++ quoteL r).length + 1)
    unfold quoteC
    cases ho : odd8 c with
    | true =>
      rw [if_pos rfl]
      have hlt := c.toNat_lt
      have e1 := hexv_hexd ⟨c.toNat / 16, by omega⟩
      have e2 := hexv_hexd ⟨c.toNat % 16, by omega⟩
      dsimp only at e1 e2
      have hc : UInt8.ofNat (16 * (c.toNat / 16) + c.toNat % 16) = c := by
        rw [show 16 * (c.toNat / 16) + c.toNat % 16 = c.toNat by omega]
        simp
      have hone : oneB (92 :: hexd (c.toNat / 16) :: hexd (c.toNat % 16) :: (quoteL r ++ [34])) = some (c, 3) := by
        rw [oneB_hex, e1, e2, hexB_some, hc, if_pos ho]
      show qtB (92 :: hexd (c.toNat / 16) :: hexd (c.toNat % 16) :: (quoteL r ++ [34])) = _
      rw [qtB_one (by decide) hone]
      show (qtB (quoteL r ++ [34])).map _ = _
      rw [ih]
      simp
      omega
    | false =>
      rw [if_neg (by simp)]
      have h34 : c ≠ 34 := by rintro rfl; revert ho; decide
      show qtB (c :: (quoteL r ++ [34])) = _
      rw [qtB_one h34 (oneB_plain ho)]
      show (qtB (quoteL r ++ [34])).map _ = _
      rw [ih]
      simp
      omega
theorem tok_text {l : List UInt8} (h : l.length ≤ 64) : tokB (quoteB l) = some (5, 0, l, (quoteB l).length) := by
  show tokB (34 :: (quoteL l ++ [34])) = some (5, 0, l, (34 :: (quoteL l ++ [34])).length)
  rw [tokB_cons, if_neg (by decide), if_neg (by decide), if_neg (by decide), if_neg (by decide), if_neg (by decide), if_pos rfl, qt_quote, Option.bind_some, if_pos h]
  simp
/-- A text that is one token, and nothing else. -/
theorem lex_one {l s : List UInt8} {k n : Int} (h : tokB l = some (k, n, s, l.length)) (hb : ∀ c r, l = c :: r → blk c = false) (p : Nat) : lexB l p = .ok [⟨k, p, n, ⟨s.toArray⟩⟩, ⟨7, ((p + l.length : Nat) : Int), 0, ⟨#[]⟩⟩] := by
  cases l with
  | nil => cases h
  | cons c r =>
    rw [lexB_tok (hb c r rfl) h, List.drop_length, lexB_nil]
    rfl
/-- What a right value's text is as tokens: the kind, the number, the text of the first. -/
theorem lex_show {v : Vl} (h : v.right) (hn : -9223372036854775808 ≤ v.n ∧ v.n ≤ 9223372036854775807) :
    ∃ (k n : Int) (s : List UInt8), lexB (showB v) 0 = .ok [⟨k, 0, n, ⟨s.toArray⟩⟩, ⟨7, (((showB v).length : Nat) : Int), 0, ⟨#[]⟩⟩] ∧
      (v.k = 1 ∧ k = 1 ∧ (v.n = 1 ∧ s = [116, 114, 117, 101] ∨ v.n = 0 ∧ s = [102, 97, 108, 115, 101]) ∨ v.k = 2 ∧ k = 2 ∧ n = v.n ∨ v.k = 3 ∧ k = 5 ∧ s = v.l ∨ v.k = 4 ∧ k = 3 ∧ n = v.n ∨ v.k = 5 ∧ k = 4 ∧ s = v.l) := by
  have hr := h
  unfold Vl.right RightV at hr
  obtain ⟨c0, r0, e0, h0⟩ := itoa_head v.n
  have hbi : ∀ c r, Lib.itoa v.n = c :: r → blk c = false := fun c r e => by
    rw [e0] at e
    injection e with e1 _
    subst e1
    unfold blk
    simp
    omega
  rcases show_cases h with ⟨hk, _, ⟨hn0, hs⟩ | ⟨hn0, hs⟩⟩ | ⟨hk, _, hs⟩ | ⟨hk, _, hs⟩ | ⟨hk, _, hs⟩ | ⟨hk, _, hs⟩
  all_goals rw [hs]
  · refine ⟨1, 0, [102, 97, 108, 115, 101], ?_, .inl ⟨hk, rfl, .inr ⟨hn0, rfl⟩⟩⟩
    have := lex_one (show tokB [102, 97, 108, 115, 101] = some (1, 0, [102, 97, 108, 115, 101], ([102, 97, 108, 115, 101] : List UInt8).length) by decide +kernel) (fun c r e => by injection e with e1 _; subst e1; decide) 0
    rwa [Nat.zero_add] at this
  · refine ⟨1, 0, [116, 114, 117, 101], ?_, .inl ⟨hk, rfl, .inl ⟨hn0, rfl⟩⟩⟩
    have := lex_one (show tokB [116, 114, 117, 101] = some (1, 0, [116, 114, 117, 101], ([116, 114, 117, 101] : List UInt8).length) by decide +kernel) (fun c r e => by injection e with e1 _; subst e1; decide) 0
    rwa [Nat.zero_add] at this
  · refine ⟨2, v.n, [], ?_, .inr (.inl ⟨hk, rfl, rfl⟩)⟩
    have := lex_one (tok_itoa hn.1 hn.2) hbi 0
    rwa [Nat.zero_add] at this
  · refine ⟨5, 0, v.l, ?_, .inr (.inr (.inl ⟨hk, rfl, rfl⟩))⟩
    have hl : v.l.length ≤ 64 := by rcases hr with h | h | h | h | h <;> omega
    have := lex_one (tok_text hl) (fun c r e => by injection e with e1 _; subst e1; decide) 0
    rwa [Nat.zero_add] at this
  · refine ⟨3, v.n, [], ?_, .inr (.inr (.inr (.inl ⟨hk, rfl, rfl⟩)))⟩
    have hb : 0 ≤ v.n ∧ v.n ≤ 1099511627776 := by rcases hr with h | h | h | h | h <;> omega
    have := lex_one (l := 64 :: Lib.itoa v.n) (tok_tick hb.1 hb.2) (fun c r e => by injection e with e1 _; subst e1; decide) 0
    rwa [Nat.zero_add] at this
  · refine ⟨4, 0, v.l, ?_, .inr (.inr (.inr (.inr ⟨hk, rfl, rfl⟩)))⟩
    have hnm : Named v.l := by rcases hr with h | h | h | h | h <;> first | exact h.2.2 | omega
    have := lex_one (l := 35 :: v.l) (tok_id hnm) (fun c r e => by injection e with e1 _; subst e1; decide) 0
    rwa [Nat.zero_add] at this
end Go.Proofs.YtpedfkigneahgaaDoor
