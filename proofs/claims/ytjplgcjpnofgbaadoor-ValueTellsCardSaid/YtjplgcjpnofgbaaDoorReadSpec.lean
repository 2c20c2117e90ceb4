/- What a reader's calls answer, and where they leave it: plain functions on rows of bytes. -/
import Derived.Test.YtjplgcjpnofgbaaDoorMath
namespace Go.Proofs.YtjplgcjpnofgbaaDoor

/-- Num: the answer, the place, what is wrong. -/
def rNum (l : List UInt8) (p : Nat) (q : Int) : Int × Nat × Int :=
  if q ≠ 0 then (0, p, q) else match dec 0 0 (l.drop p) with
    | none => (0, p, 7)
    | some (v, k) => (zag v, p + k, q)
def rIn (l : List UInt8) (p : Nat) (q lo hi : Int) : Int × Nat × Int :=
  if (rNum l p q).2.2 ≠ 0 then (0, (rNum l p q).2) else if (rNum l p q).1 < lo ∨ hi < (rNum l p q).1 then (0, p, 7) else rNum l p q
def rText (l : List UInt8) (p : Nat) (q most : Int) : List UInt8 × Nat × Int :=
  if (rIn l p q 0 most).2.2 ≠ 0 then ([], (rIn l p q 0 most).2) else if (l.length : Int) - (rIn l p q 0 most).2.1 < (rIn l p q 0 most).1 then ([], p, 7)
  else ((l.drop (rIn l p q 0 most).2.1).take (rIn l p q 0 most).1.toNat, (rIn l p q 0 most).2.1 + (rIn l p q 0 most).1.toNat, (rIn l p q 0 most).2.2)

theorem rNum_bad {l : List UInt8} {p : Nat} {q : Int} (h : q ≠ 0) : rNum l p q = (0, p, q) := by unfold rNum; rw [if_pos h]
theorem rNum_none {l : List UInt8} {p : Nat} (h : dec 0 0 (l.drop p) = none) : rNum l p 0 = (0, p, 7) := by unfold rNum; rw [if_neg (by simp), h]
theorem rNum_some {l : List UInt8} {p v k : Nat} (h : dec 0 0 (l.drop p) = some (v, k)) : rNum l p 0 = (zag v, p + k, 0) := by unfold rNum; rw [if_neg (by simp), h]

/-- The place stays within the bytes; a number within its bounds; behind an error the answer is nought. -/
theorem rNum_facts {l : List UInt8} {p : Nat} {q : Int} (hp : p ≤ l.length) :
    (rNum l p q).2.1 ≤ l.length ∧ p ≤ (rNum l p q).2.1 ∧ -9223372036854775808 ≤ (rNum l p q).1 ∧ (rNum l p q).1 ≤ 9223372036854775807 ∧ ((rNum l p q).2.2 ≠ 0 → (rNum l p q).1 = 0 ∧ (rNum l p q).2.1 = p) ∧ ((rNum l p q).2.2 = 0 → q = 0 ∧ p < (rNum l p q).2.1) := by
  by_cases hq : q = 0
  · subst hq
    cases hd : dec 0 0 (l.drop p) with
    | none => rw [rNum_none hd]; exact ⟨hp, Nat.le_refl _, by simp, by simp, fun _ => ⟨rfl, rfl⟩, fun h => absurd h (by simp)⟩
    | some vk =>
      obtain ⟨v, k⟩ := vk
      rw [rNum_some hd]
      obtain ⟨h1, h2, h3, _⟩ := dec_some hd
      have h4 := zag_in (dec_lt hd (by simp))
      rw [List.length_drop] at h2
      exact ⟨by show p + k ≤ _; omega, by show p ≤ p + k; omega, h4.1, h4.2, fun h => absurd rfl h, fun _ => ⟨rfl, by show p < p + k; omega⟩⟩
  · rw [rNum_bad hq]
    exact ⟨hp, Nat.le_refl _, by simp, by simp, fun _ => ⟨rfl, rfl⟩, fun h => absurd h hq⟩

theorem rIn_facts {l : List UInt8} {p : Nat} {q lo hi : Int} (hp : p ≤ l.length) :
    (rIn l p q lo hi).2.1 ≤ l.length ∧ p ≤ (rIn l p q lo hi).2.1 ∧ -9223372036854775808 ≤ (rIn l p q lo hi).1 ∧ (rIn l p q lo hi).1 ≤ 9223372036854775807 ∧ ((rIn l p q lo hi).2.2 ≠ 0 → (rIn l p q lo hi).1 = 0 ∧ (rIn l p q lo hi).2.1 = p) ∧
      ((rIn l p q lo hi).2.2 = 0 → q = 0 ∧ p < (rIn l p q lo hi).2.1 ∧ lo ≤ (rIn l p q lo hi).1 ∧ (rIn l p q lo hi).1 ≤ hi) := by
  obtain ⟨a, b, c, d, e, f⟩ := rNum_facts (q := q) hp
  unfold rIn
  split
  · rename_i h
    obtain ⟨e1, e2⟩ := e h
    exact ⟨a, b, by simp, by simp, fun _ => ⟨rfl, e2⟩, fun h' => absurd h' h⟩
  · rename_i h
    split
    · exact ⟨hp, Nat.le_refl _, by simp, by simp, fun _ => ⟨rfl, rfl⟩, fun h' => absurd h' (by simp)⟩
    · rename_i h2
      have := f (by omega)
      exact ⟨a, b, c, d, fun h' => absurd h' h, fun _ => ⟨this.1, this.2, by omega, by omega⟩⟩

theorem rText_facts {l : List UInt8} {p : Nat} {q most : Int} (hp : p ≤ l.length) :
    (rText l p q most).2.1 ≤ l.length ∧ p ≤ (rText l p q most).2.1 ∧ ((rText l p q most).2.2 ≠ 0 → (rText l p q most).1 = [] ∧ (rText l p q most).2.1 = p) := by
  obtain ⟨a, b, c, d, e, f⟩ := rIn_facts (q := q) (lo := 0) (hi := most) hp
  unfold rText
  split
  · rename_i h
    exact ⟨a, b, fun _ => ⟨rfl, (e h).2⟩⟩
  · rename_i h
    obtain ⟨f1, f2, f3, f4⟩ := f (by omega)
    split
    · exact ⟨hp, Nat.le_refl _, fun _ => ⟨rfl, rfl⟩⟩
    · rename_i h2
      refine ⟨?_, ?_, fun h' => absurd h' h⟩
      · show (rIn l p q 0 most).2.1 + (rIn l p q 0 most).1.toNat ≤ l.length
        omega
      · show p ≤ (rIn l p q 0 most).2.1 + (rIn l p q 0 most).1.toNat
        omega
end Go.Proofs.YtjplgcjpnofgbaaDoor
