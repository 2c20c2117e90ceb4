/- What Get reads, plainly. -/
import Derived.Test.YtcelkfahkodlhaaDoorVRight
import Derived.Test.YtcelkfahkodlhaaDoorVBox
import Derived.Test.YtcelkfahkodlhaaDoorRText
namespace Go.Proofs.YtcelkfahkodlhaaDoor
set_option linter.unusedVariables false

/-- The parts, as they are read. -/
def getA (l : List UInt8) (p : Nat) (q : Int) : Vl × Nat × Int :=
  if inT (rIn l p q 1 5).1 = true then (⟨(rIn l p q 1 5).1, 0, ⟨(rText l (rIn l p q 1 5).2.1 (rIn l p q 1 5).2.2 64).1.toArray⟩⟩, (rText l (rIn l p q 1 5).2.1 (rIn l p q 1 5).2.2 64).2)
  else (⟨(rIn l p q 1 5).1, (rNum l (rIn l p q 1 5).2.1 (rIn l p q 1 5).2.2).1, ⟨#[]⟩⟩, (rNum l (rIn l p q 1 5).2.1 (rIn l p q 1 5).2.2).2)
/-- The place, and what is wrong. -/
def getF (l : List UInt8) (p : Nat) (q : Int) : Nat × Int := if (getA l p q).1.right then (getA l p q).2 else failTo (getA l p q).2.1 (getA l p q).2.2 p
/-- The value. -/
def getV (l : List UInt8) (p : Nat) (q : Int) : Vl := if (getF l p q).2 ≠ 0 then ⟨0, 0, ⟨#[]⟩⟩ else (getA l p q).1

theorem getA_text {l : List UInt8} {p p1 p2 : Nat} {q q1 q2 k : Int} {s : List UInt8} (h1 : rIn l p q 1 5 = (k, p1, q1)) (h : inT k = true) (h2 : rText l p1 q1 64 = (s, p2, q2)) : getA l p q = (⟨k, 0, ⟨s.toArray⟩⟩, p2, q2) := by
  unfold getA; rw [h1, if_pos h, h2]
theorem getA_num {l : List UInt8} {p p1 p2 : Nat} {q q1 q2 k n : Int} (h1 : rIn l p q 1 5 = (k, p1, q1)) (h : inT k = false) (h2 : rNum l p1 q1 = (n, p2, q2)) : getA l p q = (⟨k, n, ⟨#[]⟩⟩, p2, q2) := by
  unfold getA; rw [h1, if_neg (by rw [h]; simp), h2]
theorem failTo_wrong {p2 p : Nat} {q2 : Int} (hp : p ≤ p2) : (failTo p2 q2 p).2 ≠ 0 := by
  unfold failTo
  split
  · rename_i h
    rcases h with h | h | h
    · exact h
    · omega
    · omega
  · simp
theorem rText_len {l : List UInt8} {p : Nat} {q most : Int} : (rText l p q most).1.length ≤ l.length := by
  unfold rText
  split
  · simp
  · split
    · simp
    · simp only [List.length_take, List.length_drop]; omega
/-- The place stays within, and does not go back. -/
theorem getA_facts {l : List UInt8} {p : Nat} {q : Int} (hp : p ≤ l.length) : (getA l p q).2.1 ≤ l.length ∧ p ≤ (getA l p q).2.1 := by
  obtain ⟨a, b, _⟩ := rIn_facts (q := q) (lo := 1) (hi := 5) hp
  unfold getA
  split
  · obtain ⟨c, d, _⟩ := rText_facts (q := (rIn l p q 1 5).2.2) (most := 64) a
    exact ⟨c, by show p ≤ (rText _ _ _ _).2.1; omega⟩
  · obtain ⟨c, d, _⟩ := rNum_facts (q := (rIn l p q 1 5).2.2) a
    exact ⟨c, by show p ≤ (rNum _ _ _).2.1; omega⟩
end Go.Proofs.YtcelkfahkodlhaaDoor
