/- Names: the project's test. -/
import Derived.Test.YtipeefehhaffkaaVMath
namespace Go.Proofs.Ytipeefehhaffkaa
set_option linter.unusedVariables false
open Go.RowKit

theorem data_at {s : ByteArray} {k : Nat} (h : k < s.size) : s.data.toList[k]? = some s[k] := by
  have hs : k < s.data.size := h
  rw [Array.getElem?_toList, Array.getElem?_eq_getElem hs]
  rfl
theorem data_len (s : ByteArray) : s.data.toList.length = s.size := by rw [Array.length_toList]; rfl

theorem okAt_of {k : Nat} {c : UInt8} (h : 97 ≤ c.toNat ∧ c.toNat ≤ 122 ∨ 0 < k ∧ (48 ≤ c.toNat ∧ c.toNat ≤ 57 ∨ c.toNat = 95)) : okAt k c = true := by
  simpa [okAt, lett, later] using h
theorem okAt_not {k : Nat} {c : UInt8} (h : ¬ (97 ≤ c.toNat ∧ c.toNat ≤ 122 ∨ 0 < k ∧ (48 ≤ c.toNat ∧ c.toNat ≤ 57 ∨ c.toNat = 95))) : okAt k c = false := by
  rw [← Bool.not_eq_true]
  intro h'
  exact h (by simpa [okAt, lett, later] using h')

/-- The places below k are those of a name. -/
def NameTo (l : List UInt8) (k : Nat) : Prop := ∀ j c, l[j]? = some c → j < k → okAt j c = true
theorem NameTo.step {l : List UInt8} {k : Nat} {c : UInt8} (h : NameTo l k) (hk : l[k]? = some c) (hb : okAt k c = true) : NameTo l (k + 1) := fun j d hj hjk => by
  by_cases e : j = k
  · subst e
    obtain rfl := Option.some.inj (hk.symm.trans hj)
    exact hb
  · exact h j d hj (by omega)
theorem NameTo.all {l : List UInt8} {n : Nat} (h : NameTo l n) (hn : l.length = n) : decide (Named l) = decide (1 ≤ n ∧ n ≤ 16) := by
  rw [decide_eq_decide]
  subst hn
  exact ⟨fun h => h.1, fun h1 => ⟨h1, fun j hj => h j _ (List.getElem?_eq_getElem hj) hj⟩⟩
theorem name_bad {l : List UInt8} {j : Nat} {c : UInt8} (h : l[j]? = some c) (hb : okAt j c = false) : decide (Named l) = false := by
  rw [decide_eq_false_iff_not]
  rintro ⟨_, ha⟩
  obtain ⟨hj, e⟩ := List.getElem?_eq_some_iff.1 h
  have := ha j hj
  rw [e, hb] at this
  cases this
theorem name_len {l : List UInt8} (h : l.length < 1 ∨ 16 < l.length) : decide (Named l) = false := by
  rw [decide_eq_false_iff_not]
  rintro ⟨h, _⟩
  omega

end Go.Proofs.Ytipeefehhaffkaa
