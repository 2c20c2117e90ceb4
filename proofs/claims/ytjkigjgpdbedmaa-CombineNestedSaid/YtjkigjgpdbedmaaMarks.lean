/- Marks: each function of package mark, and of the reference, over marks whose parts are quarters (plain words first). -/
import Derived.Test.YtjkigjgpdbedmaaMarkNums
import Derived.Test.YtjkigjgpdbedmaaWithin
namespace Go.Proofs.Ytjkigjgpdbedmaa
open Go.RowKit
attribute [local go_sem] eq0 eq2 eq4 gt0 gt2 ord_eq ord_gt ord_lt run_max_fl

theorem ret_c {a b c d : Nat} (h : a = c) (k : b = d) : Ending.returned (.complex .f64 a b) = .returned (.complex .f64 c d) := by rw [h, k]
theorem ret_s {a b : List UInt8} (h : a = b) : Ending.returned (.string ⟨a.toArray⟩) = .returned (.string ⟨b.toArray⟩) := by rw [h]

def rightM (p d : Fin 5) : Bool := (p == 0 || p == 2 || p == 4) && (d == 0 || d == 2 || d == 4) && !(p == 4 && !(d == 0)) && !(d == 4 && !(p == 0))
def nameM (p d : Fin 5) : List UInt8 :=
  if p = 0 ∧ d = 0 then [78, 111, 116, 65, 112, 112, 108, 105, 99, 97, 98, 108, 101]
  else if p = 4 ∧ d = 0 then [80, 101, 114, 109, 105, 116]
  else if p = 0 ∧ d = 4 then [68, 101, 110, 121]
  else if p = 2 ∧ d = 0 then [73, 110, 100, 101, 116, 101, 114, 109, 105, 110, 97, 116, 101, 123, 80, 125]
  else if p = 0 ∧ d = 2 then [73, 110, 100, 101, 116, 101, 114, 109, 105, 110, 97, 116, 101, 123, 68, 125]
  else if p = 2 ∧ d = 2 then [73, 110, 100, 101, 116, 101, 114, 109, 105, 110, 97, 116, 101, 123, 68, 80, 125]
  else []
def indetP (p d : Fin 5) : Fin 5 := if p = 4 ∧ d = 0 then 2 else p
def indetD (p d : Fin 5) : Fin 5 := if p = 0 ∧ d = 4 then 2 else d
def overP (p d : Fin 5) : Fin 5 := if d = 4 then 0 else if d = 2 then (if 2 ≤ p then 2 else 0) else if p = 4 then 4 else if p = 2 then 2 else 0
def overD (_p d : Fin 5) : Fin 5 := if d = 4 then 4 else if d = 2 then 2 else 0
theorem five : ∀ i : Fin 5, i = 0 ∨ i = 1 ∨ i = 2 ∨ i = 3 ∨ i = 4 := by decide

set_option maxHeartbeats 800000 in
theorem join_any (p d q e : Fin 5) (w : World) : Calls Try.prog 29 #[.complex .f64 (fl p) (fl d), .complex .f64 (fl q) (fl e)] w fun z w' => z = .returned (.complex .f64 (fl (hiF p q)) (fl (hiF d e))) ∧ w = w' := by
  go_enter Try.func29, Try.ntmps29
  go_wp2
  go_ret
  exact ⟨rfl, rfl⟩
set_option maxHeartbeats 800000 in
theorem turn_any (p d : Fin 5) (w : World) : Calls Try.prog 20 #[.complex .f64 (fl p) (fl d)] w fun z w' => z = .returned (.complex .f64 (fl d) (fl p)) ∧ w = w' := by
  go_enter Try.func20, Try.ntmps20
  go_wp2
  go_ret
  exact ⟨rfl, rfl⟩
set_option maxHeartbeats 3200000 in
theorem over_any (p d : Fin 5) (w : World) : Calls Try.prog 19 #[.complex .f64 (fl p) (fl d)] w fun z w' => z = .returned (.complex .f64 (fl (overP p d)) (fl (overD p d))) ∧ w = w' := by
  obtain rfl | rfl | rfl | rfl | rfl := five p
  all_goals
    obtain rfl | rfl | rfl | rfl | rfl := five d
    all_goals
      go_enter Try.func19, Try.ntmps19
      go_wp2
      go_ret
      exact ⟨ret_c (by decide +kernel) (by decide +kernel), rfl⟩
set_option maxHeartbeats 800000 in
theorem refjoin_any (p d q e : Fin 5) (w : World) : Calls Try.prog 25 #[.complex .f64 (fl p) (fl d), .complex .f64 (fl q) (fl e)] w fun z w' => z = .returned (.complex .f64 (fl (hiF p q)) (fl (hiF d e))) ∧ w = w' := by
  go_enter Try.func25, Try.ntmps25
  go_wp2
  go_ret
  exact ⟨rfl, rfl⟩
set_option maxHeartbeats 800000 in
theorem refturn_any (p d : Fin 5) (w : World) : Calls Try.prog 27 #[.complex .f64 (fl p) (fl d)] w fun z w' => z = .returned (.complex .f64 (fl d) (fl p)) ∧ w = w' := by
  go_enter Try.func27, Try.ntmps27
  go_wp2
  go_ret
  exact ⟨rfl, rfl⟩
set_option maxHeartbeats 3200000 in
theorem refover_any (p d : Fin 5) (w : World) : Calls Try.prog 26 #[.complex .f64 (fl p) (fl d)] w fun z w' => z = .returned (.complex .f64 (fl (overP p d)) (fl (overD p d))) ∧ w = w' := by
  obtain rfl | rfl | rfl | rfl | rfl := five p
  all_goals
    obtain rfl | rfl | rfl | rfl | rfl := five d
    all_goals
      go_enter Try.func26, Try.ntmps26
      go_wp2
      go_ret
      exact ⟨ret_c (by decide +kernel) (by decide +kernel), rfl⟩
set_option maxHeartbeats 3200000 in
theorem mname_any (p d : Fin 5) (w : World) : Calls Try.prog 35 #[.complex .f64 (fl p) (fl d)] w fun z w' => z = .returned (.string ⟨(nameM p d).toArray⟩) ∧ w = w' := by
  obtain rfl | rfl | rfl | rfl | rfl := five p
  all_goals
    obtain rfl | rfl | rfl | rfl | rfl := five d
    all_goals
      go_enter Try.func35, Try.ntmps35
      go_wp2
      go_ret
      exact ⟨ret_s (by decide +kernel), rfl⟩
set_option maxHeartbeats 3200000 in
theorem refmark_any (p d : Fin 5) (w : World) : Calls Try.prog 24 #[.complex .f64 (fl p) (fl d)] w fun z w' => z = .returned (.bool (rightM p d)) ∧ w = w' := by
  obtain rfl | rfl | rfl | rfl | rfl := five p
  all_goals
    obtain rfl | rfl | rfl | rfl | rfl := five d
    all_goals
      go_enter Try.func24, Try.ntmps24
      go_wp2
      go_ret
      exact ⟨ret_bool (by decide +kernel), rfl⟩
theorem name_empty : ∀ p d : Fin 5, (nameM p d).isEmpty = !rightM p d := by decide +kernel
set_option maxHeartbeats 800000 in
theorem mright_any (p d : Fin 5) (w : World) : Calls Try.prog 32 #[.complex .f64 (fl p) (fl d)] w fun z w' => z = .returned (.bool (rightM p d)) ∧ w = w' := by
  have h := name_empty p d
  have H := Lib.hid h
  clear h
  go_enter Try.func32, Try.ntmps32
  go_wp2_with fail
  refine (mname_any p d _).mono ?_
  rintro e w' ⟨rfl, rfl⟩
  go_wp2
  go_ret
  exact ⟨ret_bool (by simp [H.out]), rfl⟩
end Go.Proofs.Ytjkigjgpdbedmaa
