/- Sums, differences and products of two numbers of 64 bits: which go, and how those that wrap round are told. Plain. -/
import Derived.Test.YtjcegpakacedoaaMade
namespace Go.Proofs.Ytjcegpakacedoaa
set_option linter.unusedVariables false
open Go.RowKit

/-- In the bounds of an int. -/
def In64 (n : Int) : Prop := -9223372036854775808 ≤ n ∧ n ≤ 9223372036854775807
instance (n : Int) : Decidable (In64 n) := by unfold In64; infer_instance
/-- P6.1, of the number that it would be. -/
def fits (n : Int) : Int × Int := if In64 n then (n, 0) else (0, 3)
theorem fits_in {n : Int} (h : In64 n) : fits n = (n, 0) := if_pos h
theorem fits_out {n : Int} (h : ¬ In64 n) : fits n = (0, 3) := if_neg h
theorem wrap_in {n : Int} (h : In64 n) : IntKind.i64.wrap n = n := IntWalk.i64_in n h
theorem wrap_is (n : Int) : ∃ q : Int, IntKind.i64.wrap n = n - 18446744073709551616 * q ∧ In64 (IntKind.i64.wrap n) := by
  refine ⟨(n + 9223372036854775808) / 18446744073709551616, ?_, ?_⟩
  · rw [IntKind.wrap_i64]; omega
  · unfold In64; rw [IntKind.wrap_i64]; omega
theorem wrap_out {n : Int} (h : ¬ In64 n) : ∃ q : Int, q ≠ 0 ∧ IntKind.i64.wrap n = n - 18446744073709551616 * q ∧ In64 (IntKind.i64.wrap n) := by
  obtain ⟨q, e, hi⟩ := wrap_is n
  refine ⟨q, ?_, e, hi⟩
  rintro rfl
  rw [e] at hi
  exact h (by simpa using hi)
/-- A number a little too great, or too small. -/
theorem wrap_near {n : Int} (h : ¬ In64 n) (hl : -18446744073709551616 ≤ n) (hu : n ≤ 18446744073709551615) : IntKind.i64.wrap n = if n < 0 then n + 18446744073709551616 else n - 18446744073709551616 := by
  unfold In64 at h
  rw [IntKind.wrap_i64]
  split <;> omega
/-- Divided back a product that wrapped round isn't what it was. -/
theorem prod_out {a b : Int} (ha : In64 a) (h0 : a ≠ 0) (h : ¬ In64 (a * b)) : Int.tdiv (IntKind.i64.wrap (a * b)) a ≠ b := by
  obtain ⟨q, hq, e, hi⟩ := wrap_out h
  intro hc
  have h1 := Int.tmod_add_mul_tdiv (IntKind.i64.wrap (a * b)) a
  rw [hc, e] at h1
  have h2 : (Int.tmod (IntKind.i64.wrap (a * b)) a).natAbs < a.natAbs := by
    rw [Int.natAbs_tmod]
    exact Nat.mod_lt _ (by omega)
  rw [e] at h2
  unfold In64 at ha
  generalize Int.tmod (a * b - 18446744073709551616 * q) a = r at *
  omega
theorem prod_in {a b : Int} (h0 : a ≠ 0) (h : In64 (a * b)) : Int.tdiv (IntKind.i64.wrap (a * b)) a = b := by
  rw [wrap_in h]
  exact Int.mul_tdiv_cancel_left b h0
theorem tdiv_in {a b : Int} (ha : In64 a) (h1 : b ≠ 0) (h2 : b ≠ -1) : In64 (Int.tdiv a b) := by
  have h : (Int.tdiv a b).natAbs = a.natAbs / b.natAbs := Int.natAbs_tdiv a b
  by_cases hb : b = 1
  · subst hb; simpa using ha
  · have : a.natAbs / b.natAbs ≤ a.natAbs / 2 := Nat.div_le_div_left (by omega) (by omega)
    unfold In64 at *
    omega
theorem sum_yes {a b c : Int} (ha : In64 a) (hb : In64 b) (hc : IntKind.i64.wrap (a + b) = c) (h : c < a ↔ b < 0) : fits (a + b) = (c, 0) := by
  by_cases hi : In64 (a + b)
  · rw [wrap_in hi] at hc; subst hc; exact fits_in hi
  · unfold In64 at ha hb
    rw [wrap_near hi (by omega) (by omega)] at hc
    unfold In64 at hi
    split at hc <;> omega
theorem sum_no {a b c : Int} (ha : In64 a) (hb : In64 b) (hc : IntKind.i64.wrap (a + b) = c) (h : ¬ (c < a ↔ b < 0)) : fits (a + b) = (0, 3) := by
  by_cases hi : In64 (a + b)
  · rw [wrap_in hi] at hc; subst hc; exact absurd (by omega) h
  · exact fits_out hi
theorem rest_yes {a b c : Int} (ha : In64 a) (hb : In64 b) (hc : IntKind.i64.wrap (a - b) = c) (h : a < c ↔ b < 0) : fits (a - b) = (c, 0) := by
  by_cases hi : In64 (a - b)
  · rw [wrap_in hi] at hc; subst hc; exact fits_in hi
  · unfold In64 at ha hb
    rw [wrap_near hi (by omega) (by omega)] at hc
    unfold In64 at hi
    split at hc <;> omega
theorem rest_no {a b c : Int} (ha : In64 a) (hb : In64 b) (hc : IntKind.i64.wrap (a - b) = c) (h : ¬ (a < c ↔ b < 0)) : fits (a - b) = (0, 3) := by
  by_cases hi : In64 (a - b)
  · rw [wrap_in hi] at hc; subst hc; exact absurd (by omega) h
  · exact fits_out hi
theorem bne_iff_no {p q : Prop} [Decidable p] [Decidable q] (h : (!decide p == decide q) = false) : p ↔ q := by
  by_cases hp : p <;> by_cases hq : q <;> simp_all
theorem bne_iff_yes {p q : Prop} [Decidable p] [Decidable q] (h : (!decide p == decide q) = true) : ¬ (p ↔ q) := by
  by_cases hp : p <;> by_cases hq : q <;> simp_all
theorem prod_yes {a b c : Int} (ha : In64 a) (h0 : a ≠ 0) (h1 : a ≠ -1) (hc : IntKind.i64.wrap (a * b) = c) (h : wrap64 (Int.tdiv c a) = b) : fits (a * b) = (c, 0) := by
  have hi : In64 (a * b) := Classical.byContradiction fun hi => by
    obtain ⟨_, _, _, hw⟩ := wrap_out hi
    rw [hc] at hw
    rw [IntWalk.wrap64_in _ (tdiv_in hw h0 h1)] at h
    exact prod_out ha h0 hi (by rw [hc]; exact h)
  rw [wrap_in hi] at hc
  subst hc
  exact fits_in hi
theorem prod_no {a b c : Int} (ha : In64 a) (hb : In64 b) (h0 : a ≠ 0) (h1 : a ≠ -1) (hc : IntKind.i64.wrap (a * b) = c) (h : ¬ wrap64 (Int.tdiv c a) = b) : fits (a * b) = (0, 3) := by
  refine fits_out fun hi => h ?_
  have := prod_in h0 hi
  rw [hc] at this
  rw [this, IntWalk.wrap64_in _ hb]
theorem ne_no {a b : Int} (h : (a != b) = false) : a = b := by simpa using h
theorem ne_yes {a b : Int} (h : (a != b) = true) : ¬ a = b := by simpa using h
theorem neg_one (b : Int) : fits (0 - b) = fits (-1 * b) := by rw [show (0 : Int) - b = -1 * b by omega]
/-- As the reference asks: by the side to which it came out, but for nought. -/
theorem rsum_yes {a b c : Int} (ha : In64 a) (hb : In64 b) (h0 : b ≠ 0) (hc : IntKind.i64.wrap (a + b) = c) (h : a < c ↔ 0 < b) : fits (a + b) = (c, 0) := by
  by_cases hi : In64 (a + b)
  · rw [wrap_in hi] at hc; subst hc; exact fits_in hi
  · unfold In64 at ha hb
    rw [wrap_near hi (by omega) (by omega)] at hc
    unfold In64 at hi
    split at hc <;> omega
theorem rsum_no {a b c : Int} (ha : In64 a) (hb : In64 b) (h0 : b ≠ 0) (hc : IntKind.i64.wrap (a + b) = c) (h : ¬ (a < c ↔ 0 < b)) : fits (a + b) = (0, 3) := by
  by_cases hi : In64 (a + b)
  · rw [wrap_in hi] at hc; subst hc; exact absurd (by omega) h
  · exact fits_out hi
theorem rrest_yes {a b c : Int} (ha : In64 a) (hb : In64 b) (h0 : b ≠ 0) (hc : IntKind.i64.wrap (a - b) = c) (h : c < a ↔ 0 < b) : fits (a - b) = (c, 0) := by
  by_cases hi : In64 (a - b)
  · rw [wrap_in hi] at hc; subst hc; exact fits_in hi
  · unfold In64 at ha hb
    rw [wrap_near hi (by omega) (by omega)] at hc
    unfold In64 at hi
    split at hc <;> omega
theorem rrest_no {a b c : Int} (ha : In64 a) (hb : In64 b) (h0 : b ≠ 0) (hc : IntKind.i64.wrap (a - b) = c) (h : ¬ (c < a ↔ 0 < b)) : fits (a - b) = (0, 3) := by
  by_cases hi : In64 (a - b)
  · rw [wrap_in hi] at hc; subst hc; exact absurd (by omega) h
  · exact fits_out hi
theorem rprod_yes {a b c : Int} (ha : In64 a) (hb : In64 b) (h0 : b ≠ 0) (hc : IntKind.i64.wrap (a * b) = c) (h : wrap64 (Int.tdiv c b) = a) (h2 : b = -1 → a ≠ -9223372036854775808) : fits (a * b) = (c, 0) := by
  by_cases h1 : b = -1
  · subst h1
    have hi : In64 (a * -1) := by have := h2 rfl; unfold In64 at *; omega
    rw [wrap_in hi] at hc
    subst hc
    exact fits_in hi
  · rw [Int.mul_comm] at hc ⊢
    exact prod_yes hb h0 h1 hc h
theorem rprod_no {a b c : Int} (ha : In64 a) (h0 : b ≠ 0) (hc : IntKind.i64.wrap (a * b) = c) (h : ¬ wrap64 (Int.tdiv c b) = a) : fits (a * b) = (0, 3) := by
  refine fits_out fun hi => h ?_
  rw [Int.mul_comm] at hi hc
  have := prod_in h0 hi
  rw [hc] at this
  rw [this, IntWalk.wrap64_in _ ha]
theorem rprod_never {a b c : Int} (h1 : a = -1) (h2 : b = -9223372036854775808) (hc : IntKind.i64.wrap (a * b) = c) (h : wrap64 (Int.tdiv c b) = a) : False := by
  subst h1 h2 hc
  revert h
  decide +kernel
end Go.Proofs.Ytjcegpakacedoaa
