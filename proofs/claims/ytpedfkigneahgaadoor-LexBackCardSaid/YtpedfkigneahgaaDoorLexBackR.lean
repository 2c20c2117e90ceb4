/- A row of tokens, written with blanks between, plainly. -/
import Derived.Test.YtpedfkigneahgaaDoorLexBackM
namespace Go.Proofs.YtpedfkigneahgaaDoor
set_option linter.unusedVariables false

/-- A token as LexBack writes it. -/
def Tk.w (t : Tk) : List UInt8 := wrT t.k t.n t.l
/-- What LexBack writes of a row: each token, and so many blanks behind it. -/
def wrL (g : Nat) : List Tk → List UInt8
  | [] => []
  | t :: r => t.w ++ List.replicate g 32 ++ wrL g r
theorem wrL_app (g : Nat) : ∀ (a b : List Tk), wrL g (a ++ b) = wrL g a ++ wrL g b
  | [], b => rfl
  | t :: a, b => by
    show t.w ++ List.replicate g 32 ++ wrL g (a ++ b) = t.w ++ List.replicate g 32 ++ wrL g a ++ wrL g b
    rw [wrL_app g a b, List.append_assoc _ (wrL g a)]
theorem wrL_len (g : Nat) : ∀ (a : List Tk), (wrL g a).length = (wrL 0 a).length + g * a.length
  | [] => rfl
  | t :: a => by
    have := wrL_len g a
    show (t.w ++ List.replicate g 32 ++ wrL g a).length = (t.w ++ List.replicate 0 32 ++ wrL 0 a).length + g * (a.length + 1)
    simp only [List.length_append, List.length_replicate, this, Nat.mul_add]
    omega
/-- The row with the places that it gets when it is written. -/
def placed (g p : Nat) : List Tk → List Tk
  | [] => []
  | t :: r => ⟨t.k, p, t.n, t.s⟩ :: placed g (p + t.w.length + g) r
theorem placed_len (g : Nat) : ∀ (p : Nat) (a : List Tk), (placed g p a).length = a.length
  | p, [] => rfl
  | p, t :: r => by show (placed g _ r).length + 1 = r.length + 1; rw [placed_len]
theorem placed_at (g : Nat) : ∀ (a : List Tk) (p i : Nat) (t : Tk), a[i]? = some t → (placed g p a)[i]? = some ⟨t.k, ((p + (wrL g (a.take i)).length : Nat) : Int), t.n, t.s⟩
  | [], p, i, t, h => by cases h
  | x :: r, p, 0, t, h => by cases h; rfl
  | x :: r, p, i + 1, t, h => by
    show (placed g (p + x.w.length + g) r)[i]? = _
    rw [placed_at g r _ i t h]
    have e : p + x.w.length + g + (wrL g (r.take i)).length = p + (wrL g ((x :: r).take (i + 1))).length := by
      show _ = p + (x.w ++ List.replicate g 32 ++ wrL g (r.take i)).length
      simp only [List.length_append, List.length_replicate]
      omega
    rw [e]
/-- The places rise. -/
def rises (p : Int) : List Tk → Prop
  | [] => True
  | t :: r => p ≤ t.p ∧ rises (t.p + 1) r
theorem rises_mono : ∀ (a : List Tk) {p q : Int}, q ≤ p → rises p a → rises q a
  | [], _, _, _, _ => trivial
  | t :: r, p, q, h, hr => ⟨Int.le_trans h hr.1, hr.2⟩
theorem rises_at : ∀ (a : List Tk) (p : Int) (i : Nat) (t : Tk), rises p a → a[i]? = some t → p ≤ t.p
  | [], p, i, t, _, h => by cases h
  | x :: r, p, 0, t, hr, h => by cases h; exact hr.1
  | x :: r, p, i + 1, t, hr, h => by have h2 := rises_at r _ i t hr.2 h; have := hr.1; omega
theorem rises_next : ∀ (a : List Tk) (p : Int) (i : Nat) (t u : Tk), rises p a → a[i]? = some t → a[i + 1]? = some u → t.p < u.p
  | [], p, i, t, u, _, h, _ => by cases h
  | x :: r, p, 0, t, u, hr, h, h2 => by
    cases h
    have := rises_at r _ 0 u hr.2 h2
    omega
  | x :: r, p, i + 1, t, u, hr, h, h2 => rises_next r _ i t u hr.2 h h2
theorem tok_blk {c : UInt8} {r : List UInt8} (h : blk c = true) : tokB (c :: r) = none := by
  unfold blk at h
  simp at h
  rcases h with h | h
  · obtain rfl : c = 32 := UInt8.toNat_inj.1 h
    rw [tokB_cons, if_neg (by decide), if_neg (by decide), if_neg (by decide), if_neg (by decide), if_neg (by decide), if_neg (by decide), if_neg (by decide)]
  · obtain rfl : c = 10 := UInt8.toNat_inj.1 h
    rw [tokB_cons, if_neg (by decide), if_neg (by decide), if_neg (by decide), if_neg (by decide), if_neg (by decide), if_neg (by decide), if_neg (by decide)]
/-- A token that may be written anew. -/
def Tk.again (t : Tk) : Prop := tokB t.w = some (t.k, t.n, t.l, t.w.length)
theorem lex_wr {g : Nat} (hg : 1 ≤ g) : ∀ (us : List Tk) (p : Nat), (∀ t ∈ us, t.again) → lexB (wrL g us) p = .ok (placed g p us ++ [⟨7, ((p + (wrL g us).length : Nat) : Int), 0, ⟨#[]⟩⟩])
  | [], p, _ => lexB_nil p
  | t :: r, p, h => by
    have ht := h t (List.mem_cons_self ..)
    have ih := lex_wr hg r (p + t.w.length + g) fun x hx => h x (List.mem_cons_of_mem _ hx)
    unfold Tk.again at ht
    show lexB (t.w ++ List.replicate g 32 ++ wrL g r) p = _
    obtain ⟨c, q, e⟩ : ∃ c q, t.w = c :: q := by
      cases hw : t.w with
      | nil => rw [hw] at ht; cases ht
      | cons c q => exact ⟨c, q, rfl⟩
    have hb : blk c = false := by
      cases hb : blk c with
      | false => rfl
      | true => rw [e, tok_blk hb] at ht; cases ht
    obtain ⟨g', rfl⟩ : ∃ g', g = g' + 1 := ⟨g - 1, by omega⟩
    have ha := tokB_app (c := c) (x := 32) (r := q) (by decide) (by decide) (List.replicate g' 32 ++ wrL (g' + 1) r) (by rw [← e]; exact ht)
    have hl : t.w ++ List.replicate (g' + 1) 32 ++ wrL (g' + 1) r = c :: q ++ 32 :: (List.replicate g' 32 ++ wrL (g' + 1) r) := by
      rw [e, List.replicate_succ]
      simp
    rw [hl]
    rw [List.cons_append] at ha ⊢
    rw [lexB_tok hb ha, ← List.cons_append, ← e, List.drop_left]
    rw [show (32 : UInt8) :: (List.replicate g' 32 ++ wrL (g' + 1) r) = List.replicate (g' + 1) 32 ++ wrL (g' + 1) r by rw [List.replicate_succ]; rfl]
    rw [lexB_ahead _ _ _ (fun x hx => by rw [List.eq_of_mem_replicate hx]; decide), List.length_replicate, ih]
    have el : p + t.w.length + (g' + 1) + (wrL (g' + 1) r).length = p + (wrL (g' + 1) (t :: r)).length := by
      show _ = p + (t.w ++ List.replicate (g' + 1) 32 ++ wrL (g' + 1) r).length
      simp only [List.length_append, List.length_replicate]
      omega
    have es : (⟨t.l.toArray⟩ : ByteArray) = t.s := by show (⟨t.s.data.toList.toArray⟩ : ByteArray) = t.s; simp
    rw [el, es]
    rfl
/-- What a text's tokens are, for LexBack. -/
theorem lex_back : ∀ (n : Nat) (l : List UInt8) (p : Nat) (ts : List Tk), l.length ≤ n → lexB l p = .ok ts → ∃ us, ts = us ++ [⟨7, ((p + l.length : Nat) : Int), 0, ⟨#[]⟩⟩] ∧ us.length ≤ l.length ∧ (wrL 0 us).length ≤ l.length ∧ rises p us ∧ ∀ t ∈ us, t.again
  | _, [], p, ts, _, h => by rw [lexB_nil] at h; cases h; exact ⟨[], by simp, by simp, by simp [wrL], trivial, by simp⟩
  | 0, c :: r, p, ts, hl, h => by simp at hl
  | n + 1, c :: r, p, ts, hl, h => by
    simp only [List.length_cons] at hl
    cases hb : blk c with
    | true =>
      rw [lexB_blank hb] at h
      obtain ⟨us, rfl, h2, h3, h4, h5⟩ := lex_back n r (p + 1) ts (by omega) h
      exact ⟨us, by rw [List.length_cons, show p + 1 + r.length = p + (r.length + 1) by omega], by rw [List.length_cons]; omega, by rw [List.length_cons]; omega, rises_mono us (by omega) h4, h5⟩
    | false =>
      cases ht : tokB (c :: r) with
      | none => rw [lexB_bad hb ht] at h; cases h
      | some q =>
        obtain ⟨k, m, s, j⟩ := q
        have hj := tokB_pos ht
        have hbk := tok_back ht
        rw [lexB_tok hb ht] at h
        cases hx : lexB ((c :: r).drop j) (p + j) with
        | error e => rw [hx] at h; cases h
        | ok ts' =>
          rw [hx] at h
          cases h
          obtain ⟨us, rfl, h2, h3, h4, h5⟩ := lex_back n _ _ _ (by rw [List.length_drop, List.length_cons]; omega) hx
          rw [List.length_drop] at h2 h3 ⊢
          have hw : (⟨k, p, m, ⟨s.toArray⟩⟩ : Tk).w = wrT k m s := rfl
          refine ⟨⟨k, p, m, ⟨s.toArray⟩⟩ :: us, by rw [show p + j + ((c :: r).length - j) = p + (c :: r).length by omega]; rfl, by simp only [List.length_cons] at h2 ⊢; omega, ?_, ⟨Int.le_refl _, rises_mono us (by show (p : Int) + 1 ≤ _; omega) h4⟩, fun t htm => ?_⟩
          · show ((⟨k, p, m, ⟨s.toArray⟩⟩ : Tk).w ++ List.replicate 0 32 ++ wrL 0 us).length ≤ _
            rw [hw]
            simp only [List.length_append, List.length_replicate, List.length_cons] at h3 hj ⊢
            omega
          · rcases List.mem_cons.1 htm with rfl | htm
            · exact hbk.1
            · exact h5 t htm
end Go.Proofs.YtpedfkigneahgaaDoor
