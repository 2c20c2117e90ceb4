/- Texts and names: the project's test. -/
import Derived.Test.YtincnopaclmppaaVRightV
namespace Go.Proofs.Ytincnopaclmppaa
set_option linter.unusedVariables false
open Go.RowKit

theorem inT_any (k : Int) (w : World) : Calls Try.prog 55 #[.int .i64 k] w fun e w' => e = .returned (.bool (inT k)) ∧ w = w' := by
  by_cases h3 : k = 3
  · subst h3
    go_enter Try.func55, Try.ntmps55
    go_wp2_with fail
    go_ret
    exact ⟨rfl, rfl⟩
  · have H3 := Lib.hid h3
    have h3' : (k == 3) = false := by rw [beq_eq_false_iff_ne]; exact h3
    by_cases h5 : k = 5
    · subst h5
      go_enter Try.func55, Try.ntmps55
      go_wp2_with fail
      go_ret
      exact ⟨rfl, rfl⟩
    · have H5 := Lib.hid h5
      have h5' : (k == 5) = false := by rw [beq_eq_false_iff_ne]; exact h5
      clear h3 h5
      go_enter Try.func55, Try.ntmps55
      go_wp2_with fail
      go_ret
      exact ⟨ret_bool (by unfold inT; rw [decide_eq_false H3.out, decide_eq_false H5.out]; rfl), rfl⟩

end Go.Proofs.Ytincnopaclmppaa
