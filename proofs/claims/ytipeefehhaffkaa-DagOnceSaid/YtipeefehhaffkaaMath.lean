/- The bytes of chapter 1's numbers as plain lists: enc (what is written), dec (what is read), zig and zag (the sign in the lowest bit). No Go, no program: plain mathematics. -/
import Derived.WalkKit
namespace Go.Proofs.Ytipeefehhaffkaa

def enc (u : Nat) : List UInt8 := if u < 128 then [UInt8.ofNat u] else UInt8.ofNat (u % 128 + 128) :: enc (u / 128)
termination_by u
decreasing_by omega

theorem enc_small {u : Nat} (h : u < 128) : enc u = [UInt8.ofNat u] := by rw [enc, if_pos h]
theorem enc_big {u : Nat} (h : 128 ≤ u) : enc u = UInt8.ofNat (u % 128 + 128) :: enc (u / 128) := by rw [enc, if_neg (by omega)]
theorem ofNat_toNat {u : Nat} (h : u < 256) : (UInt8.ofNat u).toNat = u := by simp; omega

def dec : Nat → Nat → List UInt8 → Option (Nat × Nat)
  | _, _, [] => none
  | i, u, c :: r => if 10 ≤ i then none else if 128 ≤ c.toNat then dec (i + 1) (u + (c.toNat - 128) * 128 ^ i) r
      else if (0 < i ∧ c.toNat = 0) ∨ (i = 9 ∧ 1 < c.toNat) then none else some (u + c.toNat * 128 ^ i, i + 1)

theorem pow9 {i : Nat} (h : 10 ≤ i) : 1180591620717411303424 ≤ 128 ^ i := by
  have : (128 : Nat) ^ 10 ≤ 128 ^ i := Nat.pow_le_pow_right (by omega) h
  have e : (128 : Nat) ^ 10 = 1180591620717411303424 := by decide
  omega

theorem dec_enc (v : Nat) : ∀ (i u : Nat) (r : List UInt8), v * 128 ^ i < 18446744073709551616 → (0 < i → 0 < v) → i ≤ 9 → dec i u (enc v ++ r) = some (u + v * 128 ^ i, i + (enc v).length) := by
  induction v using enc.induct with
  | case1 v h =>
    intro i u r hv hp hi
    rw [enc_small h]
    have e := ofNat_toNat (u := v) (by omega)
    simp only [List.cons_append, List.nil_append, dec, e]
    rw [if_neg (by omega), if_neg (by omega), if_neg]
    · rfl
    · rintro (⟨a, b⟩ | ⟨a, b⟩)
      · have := hp a; omega
      · subst a
        have e9 : (128 : Nat) ^ 9 = 9223372036854775808 := by decide
        rw [e9] at hv; omega
  | case2 v h ih =>
    intro i u r hv hp hi
    rw [enc_big (by omega)]
    have e := ofNat_toNat (u := v % 128 + 128) (by omega)
    simp only [List.cons_append, dec, e]
    have hs : v * 128 ^ i = (v % 128) * 128 ^ i + (v / 128) * 128 ^ (i + 1) := by
      conv => lhs; rw [show v = v % 128 + 128 * (v / 128) from by omega]
      rw [Nat.add_mul, Nat.pow_succ]
      congr 1
      rw [Nat.mul_comm 128 (v / 128), Nat.mul_assoc, Nat.mul_comm 128 (128 ^ i)]
    have hi9 : i ≠ 9 := by
      rintro rfl
      have e9 : (128 : Nat) ^ 9 = 9223372036854775808 := by decide
      rw [e9] at hv; omega
    rw [if_neg (by omega), if_pos (by omega), ih (i + 1) _ r (by omega) (by omega) (by omega)]
    rw [hs]
    simp only [List.length_cons, Option.some.injEq, Prod.mk.injEq]
    constructor
    · rw [show v % 128 + 128 - 128 = v % 128 from by omega]; omega
    · omega

theorem dec_cut (v : Nat) : ∀ (i u k : Nat), k < (enc v).length → dec i u ((enc v).take k) = none := by
  induction v using enc.induct with
  | case1 v h =>
    intro i u k hk
    rw [enc_small h] at hk ⊢
    obtain rfl : k = 0 := by simpa using hk
    rfl
  | case2 v h ih =>
    intro i u k hk
    rw [enc_big (by omega)] at hk ⊢
    cases k with
    | zero => rfl
    | succ k =>
      have e := ofNat_toNat (u := v % 128 + 128) (by omega)
      simp only [List.take_succ_cons, dec, e]
      rw [if_pos (show 128 ≤ v % 128 + 128 from by omega), ih _ _ k (by simpa using hk)]
      simp

theorem enc_pos (u : Nat) : 0 < (enc u).length := by
  rw [enc]; split <;> simp

theorem enc_len_le (u : Nat) : ∀ k : Nat, u < 128 ^ (k + 1) → (enc u).length ≤ k + 1 := by
  induction u using enc.induct with
  | case1 u h => intro k _; rw [enc_small h]; simp
  | case2 u h ih =>
    intro k hk
    rw [enc_big (by omega)]
    cases k with
    | zero => simp at hk; omega
    | succ k =>
      have := ih k (by rw [Nat.div_lt_iff_lt_mul (by omega)]; rw [Nat.pow_succ] at hk; exact hk)
      simp; omega

theorem enc_len_ge (u : Nat) : ∀ k : Nat, 128 ^ k ≤ u → k + 1 ≤ (enc u).length := by
  induction u using enc.induct with
  | case1 u h =>
    intro k hk; rw [enc_small h]
    cases k with
    | zero => simp
    | succ k =>
      have : 128 ^ (k + 1) ≥ 128 := by rw [Nat.pow_succ]; have := Nat.pow_pos (n := k) (show 0 < 128 by omega); omega
      omega
  | case2 u h ih =>
    intro k hk
    rw [enc_big (by omega)]
    cases k with
    | zero => simp
    | succ k =>
      have := ih k (by rw [Nat.le_div_iff_mul_le (by omega)]; rw [Nat.pow_succ] at hk; exact hk)
      simp; omega

theorem enc_len10 {u : Nat} (h : u < 18446744073709551616) : (enc u).length ≤ 10 :=
  enc_len_le u 9 (Nat.lt_of_lt_of_le h (by decide))

theorem enc_last (u : Nat) : (enc u).length = 1 ∨ ∃ l c, enc u = l ++ [c] ∧ c ≠ 0 := by
  induction u using enc.induct with
  | case1 u h => left; rw [enc_small h]; rfl
  | case2 u h ih =>
    right
    rw [enc_big (by omega)]
    rcases ih with h1 | ⟨l, c, h1, h2⟩
    · by_cases h3 : u / 128 < 128
      · rw [enc_small h3]
        refine ⟨[UInt8.ofNat (u % 128 + 128)], UInt8.ofNat (u / 128), rfl, fun e => ?_⟩
        have e' := congrArg UInt8.toNat e
        rw [ofNat_toNat (by omega)] at e'
        simp at e'; omega
      · rw [enc_big (by omega)] at h1
        have := enc_pos (u / 128 / 128)
        simp only [List.length_cons] at h1; omega
    · exact ⟨_ :: l, c, by rw [h1]; rfl, h2⟩

theorem dec_none_le {l : List UInt8} : ∀ {i u : Nat}, 10 ≤ i → dec i u l = none := by
  cases l with
  | nil => intros; rfl
  | cons c r => intro i u h; simp [dec, h]

theorem dec_some {l : List UInt8} : ∀ {i u v k : Nat}, dec i u l = some (v, k) → i < k ∧ k - i ≤ l.length ∧ k ≤ 10 ∧ (∃ c, l[k - i - 1]? = some c ∧ c.toNat < 128) := by
  induction l with
  | nil => intro i u v k h; cases h
  | cons c r ih =>
    intro i u v k h
    simp only [dec] at h
    split at h
    · cases h
    · split at h
      · obtain ⟨a, b, d, c', e, f⟩ := ih h
        refine ⟨by omega, by simp; omega, d, c', ?_, f⟩
        rw [show k - i - 1 = (k - (i + 1) - 1) + 1 from by omega]
        exact e
      · split at h
        · cases h
        · simp only [Option.some.injEq, Prod.mk.injEq] at h
          refine ⟨by omega, by simp; omega, by omega, c, ?_, by omega⟩
          rw [show k - i - 1 = 0 from by omega]
          rfl

theorem dec_lt {l : List UInt8} : ∀ {i u v k : Nat}, dec i u l = some (v, k) → u < 128 ^ i → v < 18446744073709551616 := by
  induction l with
  | nil => intro i u v k h; cases h
  | cons c r ih =>
    intro i u v k h hu
    simp only [dec] at h
    split at h
    · cases h
    · rename_i hi
      split at h
      · refine ih h ?_
        have hc := c.toNat_lt
        have : (c.toNat - 128) * 128 ^ i ≤ 127 * 128 ^ i := Nat.mul_le_mul_right _ (by omega)
        rw [Nat.pow_succ]; omega
      · split at h
        · cases h
        · rename_i hc hn
          simp only [Option.some.injEq, Prod.mk.injEq] at h
          obtain ⟨rfl, rfl⟩ := h
          by_cases h9 : i = 9
          · subst h9
            have e9 : (128 : Nat) ^ 9 = 9223372036854775808 := by decide
            rw [e9] at hu ⊢
            omega
          · have h1 : c.toNat * 128 ^ i ≤ 127 * 128 ^ i := Nat.mul_le_mul_right _ (by omega)
            have h2 : (128 : Nat) ^ i ≤ 128 ^ 8 := Nat.pow_le_pow_right (by omega) (by omega)
            have e8 : (128 : Nat) ^ 8 = 72057594037927936 := by decide
            omega

def zig (n : Int) : Nat := if n < 0 then (2 * (-n - 1) + 1).toNat else (2 * n).toNat
def zag (u : Nat) : Int := if u % 2 = 1 then -((u / 2 : Nat) : Int) - 1 else ((u / 2 : Nat) : Int)
theorem zag_zig (n : Int) : zag (zig n) = n := by unfold zag zig; split <;> split <;> omega
theorem zig_lt {n : Int} (h1 : -9223372036854775808 ≤ n) (h2 : n ≤ 9223372036854775807) : zig n < 18446744073709551616 := by unfold zig; split <;> omega
theorem zag_in {u : Nat} (h : u < 18446744073709551616) : -9223372036854775808 ≤ zag u ∧ zag u ≤ 9223372036854775807 := by unfold zag; split <;> omega
theorem zig_inj {m n : Int} (h : zig m = zig n) : m = n := by rw [← zag_zig m, ← zag_zig n, h]

/-- The bytes of a number. -/
def numB (n : Int) : List UInt8 := enc (zig n)
theorem numB_pos (n : Int) : 0 < (numB n).length := enc_pos _
theorem numB_len {n : Int} (h1 : -9223372036854775808 ≤ n) (h2 : n ≤ 9223372036854775807) : (numB n).length ≤ 10 := enc_len10 (zig_lt h1 h2)
theorem dec_numB {n : Int} (h1 : -9223372036854775808 ≤ n) (h2 : n ≤ 9223372036854775807) (r : List UInt8) : dec 0 0 (numB n ++ r) = some (zig n, (numB n).length) := by
  have := dec_enc (zig n) 0 0 r (by simpa using zig_lt h1 h2) (by omega) (by omega)
  simpa [numB] using this

/-- The bytes of a text. -/
def textB (s : List UInt8) : List UInt8 := numB (s.length : Int) ++ s
end Go.Proofs.Ytipeefehhaffkaa
