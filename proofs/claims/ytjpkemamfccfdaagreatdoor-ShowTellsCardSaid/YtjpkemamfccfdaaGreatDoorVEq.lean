/- Values held against each other by ==. -/
import Derived.Test.YtjpkemamfccfdaaGreatDoorVBox
import Derived.Laws.StructEq
import Derived.Laws.Tables
import Derived.Laws.Cover2
namespace Go.Proofs.YtjpkemamfccfdaaGreatDoor
set_option linter.unusedVariables false
open Go.RowKit

/-- Are two values the same? -/
def veq (a b : Vl) : Bool := decide (a = b)
theorem veq_true {a b : Vl} (h : a = b) : veq a b = true := decide_eq_true h
theorem veq_false {a b : Vl} (h : a ≠ b) : veq a b = false := decide_eq_false h
theorem veq_iff {a b : Vl} : veq a b = true ↔ a = b := decide_eq_true_iff

theorem val_eq (k n k' n' : Int) (s s' : ByteArray) (w : World) :
    (Op.equalIn 10000 46 (.agg #[.int .i64 k, .int .i64 n, .string s]) (.agg #[.int .i64 k', .int .i64 n', .string s'])).run Tryz.prog w = .ok (veq ⟨k, n, s⟩ ⟨k', n', s'⟩) w := by
  have u3 := Tryz.underlying3
  have a3 := Tryz.isAgg3
  have z3 := Tryz.sizeOf3
  have u9 := Tryz.underlying9
  have a9 := Tryz.isAgg9
  have z9 := Tryz.sizeOf9
  have hS : Tryz.prog.underlying 46 = some (.struct (Tryz.prog.fieldsOf 46)) := by kernel_rfl
  have hp : Tryz.prog.stoodInHeld 46 = false := by kernel_rfl
  rw [show (10000 : Nat) = 9999 + 1 from rfl, run_equalIn_agg w 9999 46 _ _ hS hp]
  simp only [Program.fieldsOf, Tryz.underlying46]
  go_simp
  have hts : (s.toList = s'.toList) = (s = s') := propext ⟨fun c => by
    have h : s.data.toList = s'.data.toList := by rw [← ByteArray.toList_eq, ← ByteArray.toList_eq]; exact c
    obtain ⟨⟨x⟩⟩ := s
    obtain ⟨⟨y⟩⟩ := s'
    simp_all, fun h => by rw [h]⟩
  simp only [hts]
  unfold veq
  by_cases h1 : k = k' <;> by_cases h2 : n = n' <;> by_cases h3 : s = s' <;> simp [h1, h2, h3]
end Go.Proofs.YtjpkemamfccfdaaGreatDoor
