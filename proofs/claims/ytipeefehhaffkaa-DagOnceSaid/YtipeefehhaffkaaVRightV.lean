/- Which values are right, the project's test and the reference's; the laws' helpers. -/
import Derived.Test.YtipeefehhaffkaaVNameV
namespace Go.Proofs.Ytipeefehhaffkaa
set_option linter.unusedVariables false
open Go.RowKit

theorem rv1 {n : Int} {l : List UInt8} : RightV 1 n l ↔ l = [] ∧ (n = 0 ∨ n = 1) := by unfold RightV; simp
theorem rv2 {n : Int} {l : List UInt8} : RightV 2 n l ↔ l = [] := by unfold RightV; simp
theorem rv3 {n : Int} {l : List UInt8} : RightV 3 n l ↔ n = 0 ∧ l.length ≤ 64 := by unfold RightV; simp
theorem rv4 {n : Int} {l : List UInt8} : RightV 4 n l ↔ l = [] ∧ 0 ≤ n ∧ n ≤ 1099511627776 := by unfold RightV; simp
theorem rv5 {n : Int} {l : List UInt8} : RightV 5 n l ↔ n = 0 ∧ Named l := by unfold RightV; simp
theorem rv_none {k n : Int} {l : List UInt8} (h : k ≠ 1 ∧ k ≠ 2 ∧ k ≠ 3 ∧ k ≠ 4 ∧ k ≠ 5) : ¬ RightV k n l := by
  obtain ⟨h1, h2, h3, h4, h5⟩ := h
  unfold RightV; simp [h1, h2, h3, h4, h5]
theorem kind_cases (k : Int) : k = 1 ∨ k = 2 ∨ k = 3 ∨ k = 4 ∨ k = 5 ∨ (k ≠ 1 ∧ k ≠ 2 ∧ k ≠ 3 ∧ k ≠ 4 ∧ k ≠ 5) := by omega

end Go.Proofs.Ytipeefehhaffkaa
