/- The texts of values, plainly: which text a right value has; two have the same just if they are the same. -/
import Derived.Test.YtpedfkigneahgaaDoorVMath
namespace Go.Proofs.YtpedfkigneahgaaDoor
set_option linter.unusedVariables false

/-! ### Texts -/
def valD (l : List UInt8) : Nat := l.foldl (fun a c => 10 * a + (c.toNat - 48)) 0
theorem valD_dec (u : Nat) : valD (Lib.decDigits u) = u := by
  induction u using Nat.strongRecOn with
  | _ u ih =>
    rw [Lib.decDigits]
    split
    · rename_i h
      have := ofNat_toNat (show 48 + u < 256 by omega)
      simp only [valD, List.foldl_cons, List.foldl_nil, this]; omega
    · rename_i h
      have := ofNat_toNat (show 48 + u % 10 < 256 by omega)
      have ih := ih (u / 10) (by omega)
      unfold valD at *
      rw [List.foldl_append, ih]
      simp only [List.foldl_cons, List.foldl_nil, this]; omega
theorem dec_head (u : Nat) : ∃ c r, Lib.decDigits u = c :: r ∧ 48 ≤ c.toNat ∧ c.toNat ≤ 57 := by
  induction u using Nat.strongRecOn with
  | _ u ih =>
    rw [Lib.decDigits]
    split
    · rename_i h
      exact ⟨_, _, rfl, by rw [ofNat_toNat (by omega)]; omega, by rw [ofNat_toNat (by omega)]; omega⟩
    · rename_i h
      obtain ⟨c, r, e, h1⟩ := ih (u / 10) (by omega)
      exact ⟨c, r ++ [_], by rw [e]; rfl, h1⟩
theorem itoa_head (n : Int) : ∃ c r, Lib.itoa n = c :: r ∧ (c.toNat = 45 ∨ 48 ≤ c.toNat ∧ c.toNat ≤ 57) := by
  unfold Lib.itoa
  split
  · exact ⟨45, _, rfl, .inl rfl⟩
  · obtain ⟨c, r, e, h⟩ := dec_head n.toNat
    exact ⟨c, r, e, .inr h⟩
theorem itoa_inj {m n : Int} (h : Lib.itoa m = Lib.itoa n) : m = n := by
  unfold Lib.itoa at h
  have key : ∀ a b : Nat, Lib.decDigits a = Lib.decDigits b → a = b := fun a b e => by rw [← valD_dec a, ← valD_dec b, e]
  have hd : ∀ (u : Nat) (r : List UInt8), 45 :: r ≠ Lib.decDigits u := fun u r e => by
    obtain ⟨c, r', e2, h1, _⟩ := dec_head u
    rw [e2] at e
    injection e with e _
    subst e
    have : (45 : UInt8).toNat = 45 := rfl
    omega
  split at h
  · split at h
    · injection h with _ h
      have := key _ _ h
      omega
    · exact absurd h (hd _ _)
  · split at h
    · exact absurd h.symm (hd _ _)
    · have := key _ _ h
      omega

theorem hexd_inj : ∀ x y : Fin 16, hexd x.val = hexd y.val → x = y := by decide
theorem quoteC_inj {c d : UInt8} {x y : List UInt8} (h : quoteC c ++ x = quoteC d ++ y) : c = d ∧ x = y := by
  have plain : ∀ e : UInt8, odd8 e = false → e ≠ 92 := fun e he hh => by subst hh; revert he; decide
  unfold quoteC at h
  cases hc : odd8 c <;> cases hd : odd8 d <;> simp only [hc, hd, if_true, Bool.false_eq_true, if_false, List.cons_append, List.nil_append] at h
  · injection h with h1 h2; exact ⟨h1, h2⟩
  · injection h with h1 _; exact absurd h1 (plain c hc)
  · injection h with h1 _; exact absurd h1.symm (plain d hd)
  · injection h with _ h
    injection h with h1 h
    injection h with h2 h3
    have l1 := c.toNat_lt
    have l2 := d.toNat_lt
    have e1 := hexd_inj ⟨c.toNat / 16, by omega⟩ ⟨d.toNat / 16, by omega⟩ h1
    have e2 := hexd_inj ⟨c.toNat % 16, by omega⟩ ⟨d.toNat % 16, by omega⟩ h2
    injection e1 with e1
    injection e2 with e2
    exact ⟨UInt8.toNat_inj.1 (by omega), h3⟩
theorem quoteC_ne (c : UInt8) (x : List UInt8) : ∃ d r, quoteC c ++ x = d :: r ∧ (d = 34 → False) := by
  unfold quoteC
  cases hc : odd8 c
  · refine ⟨c, x, rfl, fun e => ?_⟩
    subst e; revert hc; decide
  · exact ⟨92, _, rfl, by decide⟩
theorem quoteL_inj : ∀ (l m : List UInt8), quoteL l ++ [34] = quoteL m ++ [34] → l = m
  | [], [], _ => rfl
  | [], d :: m, h => by
    obtain ⟨e, r, h1, h2⟩ := quoteC_ne d (quoteL m ++ [34])
    simp only [quoteL, List.nil_append, List.append_assoc] at h
    rw [h1] at h
    injection h with h _
    exact (h2 h.symm).elim
  | c :: l, [], h => by
    obtain ⟨e, r, h1, h2⟩ := quoteC_ne c (quoteL l ++ [34])
    simp only [quoteL, List.nil_append, List.append_assoc] at h
    rw [h1] at h
    injection h with h _
    exact (h2 h).elim
  | c :: l, d :: m, h => by
    simp only [quoteL, List.append_assoc] at h
    obtain ⟨rfl, h2⟩ := quoteC_inj h
    rw [quoteL_inj l m h2]
theorem quoteB_inj {l m : List UInt8} (h : quoteB l = quoteB m) : l = m := by
  unfold quoteB at h
  simp only [List.cons_append, List.nil_append] at h
  injection h with _ h
  exact quoteL_inj _ _ h

/-- A right value's text, by its kind. -/
theorem show_cases {v : Vl} (h : v.right) : (v.k = 1 ∧ v.l = [] ∧ (v.n = 0 ∧ showB v = [102, 97, 108, 115, 101] ∨ v.n = 1 ∧ showB v = [116, 114, 117, 101])) ∨ (v.k = 2 ∧ v.l = [] ∧ showB v = Lib.itoa v.n) ∨
    (v.k = 3 ∧ v.n = 0 ∧ showB v = quoteB v.l) ∨ (v.k = 4 ∧ v.l = [] ∧ showB v = 64 :: Lib.itoa v.n) ∨ (v.k = 5 ∧ v.n = 0 ∧ showB v = 35 :: v.l) := by
  have hr := h
  unfold Vl.right RightV at h
  unfold showB
  rw [if_pos hr]
  rcases h with ⟨hk, hl, hn⟩ | ⟨hk, hl⟩ | ⟨hk, hn, _⟩ | ⟨hk, hl, _⟩ | ⟨hk, hn, _⟩ <;> rw [hk]
  · refine .inl ⟨rfl, hl, ?_⟩
    rcases hn with hn | hn <;> rw [hn] <;> simp
  · exact .inr (.inl ⟨rfl, hl, by simp⟩)
  · exact .inr (.inr (.inl ⟨rfl, hn, by simp⟩))
  · exact .inr (.inr (.inr (.inl ⟨rfl, hl, by simp⟩)))
  · exact .inr (.inr (.inr (.inr ⟨rfl, hn, by simp⟩)))
theorem show_ne {v : Vl} (h : v.right) : showB v ≠ [] := by
  obtain ⟨c, r, e, _⟩ := itoa_head v.n
  rcases show_cases h with ⟨_, _, ⟨_, h⟩ | ⟨_, h⟩⟩ | ⟨_, _, h⟩ | ⟨_, _, h⟩ | ⟨_, _, h⟩ | ⟨_, _, h⟩ <;> rw [h]
  · simp
  · simp
  · rw [e]; simp
  · simp [quoteB]
  · simp
  · simp
theorem head_ne {c d : UInt8} {r s : List UInt8} (h : c :: r = d :: s) (hne : c.toNat ≠ d.toNat) : False := by
  injection h with h _
  subst h
  exact hne rfl
theorem show_inj {a b : Vl} (ha : a.right) (hb : b.right) (h : showB a = showB b) : a = b := by
  obtain ⟨c, r, ec, hc⟩ := itoa_head a.n
  obtain ⟨d, s, ed, hd⟩ := itoa_head b.n
  have q : ∀ l, quoteB l = 34 :: (quoteL l ++ [34]) := fun _ => rfl
  rcases show_cases ha with ⟨ka, la, ⟨na, h1⟩ | ⟨na, h1⟩⟩ | ⟨ka, la, h1⟩ | ⟨ka, na, h1⟩ | ⟨ka, la, h1⟩ | ⟨ka, na, h1⟩ <;>
  rcases show_cases hb with ⟨kb, lb, ⟨nb, h2⟩ | ⟨nb, h2⟩⟩ | ⟨kb, lb, h2⟩ | ⟨kb, nb, h2⟩ | ⟨kb, lb, h2⟩ | ⟨kb, nb, h2⟩ <;>
  rw [h1, h2] at h
  all_goals first
    | exact Vl.ext' (by omega) (by omega) (by rw [la, lb])
    | exact Vl.ext' (by omega) (itoa_inj h) (by rw [la, lb])
    | exact Vl.ext' (by omega) (by omega) (quoteB_inj h)
    | exact Vl.ext' (by omega) (itoa_inj ((List.cons.inj h).2)) (by rw [la, lb])
    | exact Vl.ext' (by omega) (by omega) ((List.cons.inj h).2)
    | (exfalso; exact head_ne h (by decide))
    | (exfalso; rw [ec] at h; exact head_ne h (by simp; omega))
    | (exfalso; rw [ed] at h; exact head_ne h (by simp; omega))
    | (exfalso; rw [q] at h; exact head_ne h (by decide))
    | (exfalso; rw [ec, q] at h; exact head_ne h (by simp; omega))
    | (exfalso; rw [ed, q] at h; exact head_ne h (by simp; omega))
end Go.Proofs.YtpedfkigneahgaaDoor
