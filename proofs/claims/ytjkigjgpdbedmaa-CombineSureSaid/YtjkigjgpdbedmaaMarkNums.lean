/- The quarters 0 .. 4 of one as floats: what comparing, and the greater of two, make of them (plain, but for the run of 'max'). -/
import Derived.Test.YtjkigjgpdbedmaaRows
import Derived.WalkKit
import Derived.WalkLawsBesides
import Derived.Lib.Hide
namespace Go.Proofs.Ytjkigjgpdbedmaa
open Go.RowKit

/-- The bits of i quarters. -/
def fl (i : Fin 5) : Nat := #[0, 4598175219545276416, 4602678819172646912, 4604930618986332160, 4607182418800017408].getD i.val 0

theorem ord_fl : ∀ i j : Fin 5, FloatKind.f64.format.order (fl i) (fl j) = some (compare i j) := by decide +kernel
theorem fl0 : fl 0 = 0 := rfl
theorem fl2 : fl 2 = 4602678819172646912 := rfl
theorem fl4 : fl 4 = 4607182418800017408 := rfl

theorem ord_eq (i j : Fin 5) : (FloatKind.f64.format.order (fl i) (fl j) == some .eq) = (i == j) := by rw [ord_fl]; revert i j; decide +kernel
theorem ord_gt (i j : Fin 5) : (FloatKind.f64.format.order (fl i) (fl j) == some .gt) = decide (j < i) := by rw [ord_fl]; revert i j; decide +kernel
theorem ord_lt (i j : Fin 5) : (FloatKind.f64.format.order (fl i) (fl j) == some .lt) = decide (i < j) := by rw [ord_fl]; revert i j; decide +kernel

theorem eq0 (i : Fin 5) : (FloatKind.f64.format.order (fl i) 0 == some .eq) = (i == 0) := ord_eq i 0
theorem eq2 (i : Fin 5) : (FloatKind.f64.format.order (fl i) 4602678819172646912 == some .eq) = (i == 2) := ord_eq i 2
theorem eq4 (i : Fin 5) : (FloatKind.f64.format.order (fl i) 4607182418800017408 == some .eq) = (i == 4) := ord_eq i 4
theorem gt0 (i : Fin 5) : (FloatKind.f64.format.order (fl i) 0 == some .gt) = decide (0 < i) := ord_gt i 0
theorem gt2 (i : Fin 5) : (FloatKind.f64.format.order (fl i) 4602678819172646912 == some .gt) = decide (2 < i) := ord_gt i 2

/-- The greater of two. -/
def hiF (i j : Fin 5) : Fin 5 := if i < j then j else i

section
variable {P : Program} (w : World)
theorem run_max_fl (ts : Array TypeId) (t : TypeId) (i j : Fin 5) : (Builtin.max_ ts t #[.float .f64 (fl i), .float .f64 (fl j)]).run P w = .ok (.float .f64 (fl (hiF i j))) w := by
  have h := ord_fl i j
  have hc : compare i j = .lt ∧ hiF i j = j ∨ compare i j = .gt ∧ hiF i j = i ∨ compare i j = .eq ∧ hiF i j = i ∧ i = j := by revert i j; decide +kernel
  rcases hc with ⟨a, b⟩ | ⟨a, b⟩ | ⟨a, b, rfl⟩
  all_goals rw [a] at h; rw [b]; simp [Builtin.max_, Builtin.max2, h]
end

/-- A number of quarters, put together and shared by four. -/
theorem quarter : ∀ i : Fin 5, floatBits .quo .f64 (floatOfInt .f64 (i.val : Int)) 4616189618054758400 = some (fl i) := by decide +kernel

attribute [irreducible] fl
end Go.Proofs.Ytjkigjgpdbedmaa
