/- The order of values, plainly. -/
import Derived.Test.YtcelkfahkodlhaaDoorVLess
namespace Go.Proofs.YtcelkfahkodlhaaDoor
set_option linter.unusedVariables false

theorem bl_cons (x y : UInt8) (a b : List UInt8) : Op.bytesLess (x :: a) (y :: b) = true ↔ x.toNat < y.toNat ∨ x = y ∧ Op.bytesLess a b = true := by
  simp [Op.bytesLess, UInt8.lt_iff_toNat_lt]
theorem bl_irrefl (a : List UInt8) : ¬ Op.bytesLess a a = true := by
  induction a with
  | nil => simp [Op.bytesLess]
  | cons x a ih => rw [bl_cons]; rintro (h | ⟨_, h⟩); · omega
                   · exact ih h
theorem bl_trans : ∀ a b c : List UInt8, Op.bytesLess a b = true → Op.bytesLess b c = true → Op.bytesLess a c = true
  | a, [], c, h, _ => by cases a <;> simp [Op.bytesLess] at h
  | a, y :: b, [], _, h => by simp [Op.bytesLess] at h
  | [], y :: b, z :: c, _, _ => by simp [Op.bytesLess]
  | x :: a, y :: b, z :: c, h1, h2 => by
    rw [bl_cons] at *
    rcases h1 with h1 | ⟨rfl, h1⟩ <;> rcases h2 with h2 | ⟨rfl, h2⟩
    · left; omega
    · left; omega
    · left; omega
    · right; exact ⟨rfl, bl_trans a b c h1 h2⟩
theorem bl_total : ∀ a b : List UInt8, Op.bytesLess a b = true ∨ Op.bytesLess b a = true ∨ a = b
  | [], [] => by simp
  | [], y :: b => by simp [Op.bytesLess]
  | x :: a, [] => by simp [Op.bytesLess]
  | x :: a, y :: b => by
    rw [bl_cons, bl_cons]
    rcases Nat.lt_trichotomy x.toNat y.toNat with h | h | h
    · exact .inl (.inl h)
    · have e : x = y := UInt8.toNat_inj.1 h
      subst e
      rcases bl_total a b with h | h | h
      · exact .inl (.inr ⟨rfl, h⟩)
      · exact .inr (.inl (.inr ⟨rfl, h⟩))
      · exact .inr (.inr (by rw [h]))
    · exact .inr (.inl (.inl h))

/-- Which of the three: less, more, the same. -/
def One (x y e : Prop) : Prop := x ∧ ¬ y ∧ ¬ e ∨ ¬ x ∧ y ∧ ¬ e ∨ ¬ x ∧ ¬ y ∧ e
theorem bl_one (a b : List UInt8) : One (Op.bytesLess a b = true) (Op.bytesLess b a = true) (a = b) := by
  rcases bl_total a b with h | h | h
  · exact .inl ⟨h, fun h' => bl_irrefl a (bl_trans _ _ _ h h'), fun e => by subst e; exact bl_irrefl a h⟩
  · exact .inr (.inl ⟨fun h' => bl_irrefl a (bl_trans _ _ _ h' h), h, fun e => by subst e; exact bl_irrefl a h⟩)
  · subst h
    exact .inr (.inr ⟨bl_irrefl a, bl_irrefl a, rfl⟩)

theorem right_num {v : Vl} (h : v.right) (h1 : inT v.k = true) : v.n = 0 := by
  unfold Vl.right RightV at h
  unfold inT at h1
  simp at h1
  rcases h with h | h | h | h | h <;> omega
theorem right_txt {v : Vl} (h : v.right) (h1 : inT v.k = false) : v.l = [] := by
  unfold Vl.right RightV at h
  unfold inT at h1
  simp at h1
  rcases h with h | h | h | h | h
  · exact h.2.1
  · exact h.2
  · exact absurd h.1 h1.1
  · exact h.2.1
  · exact absurd h.1 h1.2

theorem less_sort (a b : Vl) : (¬ a.right ∨ ¬ b.right) ∧ lessOf a b = (false, 1) ∧ lessOf b a = (false, 1) ∨
    (a.right ∧ b.right ∧ (a.k ≠ b.k ∨ a.k = 1)) ∧ lessOf a b = (false, 2) ∧ lessOf b a = (false, 2) ∨
    (a.right ∧ b.right ∧ a.k = b.k ∧ a.k ≠ 1 ∧ inT a.k = true) ∧ lessOf a b = (Op.bytesLess a.l b.l, 0) ∧ lessOf b a = (Op.bytesLess b.l a.l, 0) ∨
    (a.right ∧ b.right ∧ a.k = b.k ∧ a.k ≠ 1 ∧ inT a.k = false) ∧ lessOf a b = (decide (a.n < b.n), 0) ∧ lessOf b a = (decide (b.n < a.n), 0) := by
  by_cases h1 : a.right
  · by_cases h2 : b.right
    · by_cases h3 : a.k = b.k
      · by_cases h4 : a.k = 1
        · exact .inr (.inl ⟨⟨h1, h2, .inr h4⟩, less_type h1 h2 (.inr h4), less_type h2 h1 (.inr (h3 ▸ h4))⟩)
        · cases h5 : inT a.k with
          | true => exact .inr (.inr (.inl ⟨⟨h1, h2, h3, h4, rfl⟩, less_text h1 h2 h3 h4 h5, less_text h2 h1 h3.symm (h3 ▸ h4) (h3 ▸ h5)⟩))
          | false => exact .inr (.inr (.inr ⟨⟨h1, h2, h3, h4, rfl⟩, less_num h1 h2 h3 h4 h5, less_num h2 h1 h3.symm (h3 ▸ h4) (h3 ▸ h5)⟩))
      · exact .inr (.inl ⟨⟨h1, h2, .inl h3⟩, less_type h1 h2 (.inl h3), less_type h2 h1 (.inl (Ne.symm h3))⟩)
    · exact .inl ⟨.inr h2, less_wrong (.inr h2), less_wrong (.inl h2)⟩
  · exact .inl ⟨.inl h1, less_wrong (.inl h1), less_wrong (.inr h1)⟩

/-- Of two values both ways: no order, or just one of less, more, same. -/
theorem less_both (a b : Vl) : (∃ x : Int, x ≠ 0 ∧ lessOf a b = (false, x) ∧ lessOf b a = (false, x)) ∨
    (∃ p q : Bool, lessOf a b = (p, 0) ∧ lessOf b a = (q, 0) ∧ One (p = true) (q = true) (a = b)) := by
  rcases less_sort a b with ⟨_, h1, h2⟩ | ⟨_, h1, h2⟩ | ⟨⟨r1, r2, hk, _, ht⟩, h1, h2⟩ | ⟨⟨r1, r2, hk, _, ht⟩, h1, h2⟩
  · exact .inl ⟨1, by omega, h1, h2⟩
  · exact .inl ⟨2, by omega, h1, h2⟩
  · refine .inr ⟨_, _, h1, h2, ?_⟩
    have e : (a = b) = (a.l = b.l) := propext ⟨fun h => by rw [h], fun h => Vl.ext' hk (by rw [right_num r1 ht, right_num r2 (hk ▸ ht)]) h⟩
    rw [e]
    exact bl_one _ _
  · refine .inr ⟨_, _, h1, h2, ?_⟩
    have e : (a = b) = (a.n = b.n) := propext ⟨fun h => by rw [h], fun h => Vl.ext' hk h (by rw [right_txt r1 ht, right_txt r2 (hk ▸ ht)])⟩
    rw [e]
    simp only [decide_eq_true_eq]
    unfold One
    omega

/-- It goes on from one to the next. -/
theorem less_next {a b c : Vl} {x z : Bool} (h1 : lessOf a b = (x, 0)) (h2 : lessOf b c = (z, 0)) : ∃ u, lessOf a c = (u, 0) ∧ (x = true → z = true → u = true) := by
  rcases less_sort a b with ⟨_, e1, _⟩ | ⟨_, e1, _⟩ | ⟨⟨r1, r2, hk, hn, ht⟩, e1, _⟩ | ⟨⟨r1, r2, hk, hn, ht⟩, e1, _⟩
  · rw [e1] at h1; injection h1 with _ h1; omega
  · rw [e1] at h1; injection h1 with _ h1; omega
  · rcases less_sort b c with ⟨_, e2, _⟩ | ⟨_, e2, _⟩ | ⟨⟨r3, r4, hk2, hn2, ht2⟩, e2, _⟩ | ⟨⟨r3, r4, hk2, hn2, ht2⟩, e2, _⟩
    · rw [e2] at h2; injection h2 with _ h2; omega
    · rw [e2] at h2; injection h2 with _ h2; omega
    · refine ⟨_, less_text r1 r4 (hk.trans hk2) hn ht, fun hx hz => ?_⟩
      rw [e1] at h1; rw [e2] at h2
      injection h1 with h1 _; injection h2 with h2 _
      subst h1 h2
      exact bl_trans _ _ _ hx hz
    · rw [hk, ht2] at ht; cases ht
  · rcases less_sort b c with ⟨_, e2, _⟩ | ⟨_, e2, _⟩ | ⟨⟨r3, r4, hk2, hn2, ht2⟩, e2, _⟩ | ⟨⟨r3, r4, hk2, hn2, ht2⟩, e2, _⟩
    · rw [e2] at h2; injection h2 with _ h2; omega
    · rw [e2] at h2; injection h2 with _ h2; omega
    · rw [hk, ht2] at ht; cases ht
    · refine ⟨_, less_num r1 r4 (hk.trans hk2) hn ht, fun hx hz => ?_⟩
      rw [e1] at h1; rw [e2] at h2
      injection h1 with h1 _; injection h2 with h2 _
      subst h1 h2
      simp only [decide_eq_true_eq] at *
      omega
end Go.Proofs.YtcelkfahkodlhaaDoor
