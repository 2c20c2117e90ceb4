/- Numbers brought to algorithms and places; the calls of combine with them. -/
import Derived.Test.YtjkigjgpdbedmaaOpenNums
namespace Go.Proofs.Ytjkigjgpdbedmaa
set_option linter.unusedVariables false
open Go.RowKit

/-- An algorithm's number, but for one. -/
theorem alg_any (n : Int) (w : World) : Calls Try.prog 13 #[.int .i64 n, .int .i64 0, .int .i64 5] w fun e w' => e = .returned (.int .i64 ((sx n).val : Int)) ∧ w = w' := by
  rw [← sx_eq]
  exact within_any (by omega) (by omega) (by omega)
/-- A place in a row. -/
def at_ (n : Int) (k : Nat) : Nat := (withinOf n 0 k).toNat
theorem at_le (n : Int) (k : Nat) : at_ n k ≤ k := by
  have := within_le (n := n) (lo := 0) (hi := k) (by omega)
  unfold at_; omega
theorem at_any (n : Int) (k : Nat) (hk : k ≤ 1000) (w : World) : Calls Try.prog 13 #[.int .i64 n, .int .i64 0, .int .i64 (k : Int)] w fun e w' => e = .returned (.int .i64 ((at_ n k : Nat) : Int)) ∧ w = w' := by
  have := within_le (n := n) (lo := 0) (hi := k) (by omega)
  have e : ((at_ n k : Nat) : Int) = withinOf n 0 k := by unfold at_; omega
  rw [e]
  exact within_any (by omega) (by omega) (by omega)
theorem Six.take {l : List Mk} (h : Six l) (k : Nat) : Six (l.take k) := fun m hm => h m (List.mem_of_mem_take hm)
theorem Six.drop {l : List Mk} (h : Six l) (k : Nat) : Six (l.drop k) := fun m hm => h m (List.mem_of_mem_drop hm)
theorem Sl.mtake {w : World} {B n c : Nat} {A : Option Addr} {l : List Mk} (h : Sl w B A n c (mv l)) {k : Nat} (hk : k ≤ n) : Sl w B A k c (mv (l.take k)) := by rw [mv_take]; exact h.take hk
theorem Sl.mdrop {w : World} {B n c : Nat} {A : Option Addr} {l : List Mk} (h : Sl w B A n c (mv l)) {k : Nat} (hk : k ≤ n) : Sl w B (if c = k then A else A.map (·.add k)) (n - k) (c - k) (mv (l.drop k)) := by rw [mv_drop]; exact h.drop hk
theorem alg6v : ∀ a : Fin 6, a = 0 ∧ (a.val : Int) = 0 ∧ 1 + (a.val : Int) = 1 ∨ a = 1 ∧ (a.val : Int) = 1 ∧ 1 + (a.val : Int) = 2 ∨ a = 2 ∧ (a.val : Int) = 2 ∧ 1 + (a.val : Int) = 3 ∨ a = 3 ∧ (a.val : Int) = 3 ∧ 1 + (a.val : Int) = 4 ∨ a = 4 ∧ (a.val : Int) = 4 ∧ 1 + (a.val : Int) = 5 ∨ a = 5 ∧ (a.val : Int) = 5 ∧ 1 + (a.val : Int) = 6 := by decide +kernel
/-- One of the six algorithms, each by itself. -/
theorem alg_cases (n : Int) : ∃ (a : Fin 6) (v x : Int), (∀ w, Calls Try.prog 13 #[.int .i64 n, .int .i64 0, .int .i64 5] w fun e w' => e = .returned (.int .i64 v) ∧ w = w') ∧ 1 + (a.val : Int) = x ∧
    (a = 0 ∧ v = 0 ∧ x = 1 ∨ a = 1 ∧ v = 1 ∧ x = 2 ∨ a = 2 ∧ v = 2 ∧ x = 3 ∨ a = 3 ∧ v = 3 ∧ x = 4 ∨ a = 4 ∧ v = 4 ∧ x = 5 ∨ a = 5 ∧ v = 5 ∧ x = 6) := by
  exact ⟨sx n, ((sx n).val : Int), _, alg_any n, rfl, alg6v _⟩
theorem all_at {w : World} {B n c : Nat} {A : Option Addr} {l : List Mk} {x : Int} (a : Fin 6) (hx : 1 + (a.val : Int) = x) {p d : Fin 5} (h : Sl w B A n c (mv l)) (h6 : Six l) (hm : makeM a l = (p, d)) :
    Calls Try.prog 11 #[.int .i64 x, .slice A n c] w fun z w' => z = .returned (.tuple #[.complex .f64 (fl p) (fl d), .int .i64 0]) ∧ w = w' := by
  rw [← hx]
  exact all_to a h h6 hm
theorem step_at {x : Int} (a : Fin 6) (hx : 1 + (a.val : Int) = x) {p d q e r f : Fin 5} (hm : stepM a (p, d) (q, e) = (r, f)) (w : World) :
    Calls Try.prog 18 #[.int .i64 x, .complex .f64 (fl p) (fl d), .complex .f64 (fl q) (fl e)] w fun z w' => z = .returned (.complex .f64 (fl r) (fl f)) ∧ w = w' := by
  rw [← hx]
  have := step_any a p d q e w
  rw [hm] at this
  exact this
/-- The six, each by itself. -/
theorem six_of : ∀ q e : Fin 5, rightK (q, e) = true → q = 0 ∧ e = 0 ∨ q = 4 ∧ e = 0 ∨ q = 0 ∧ e = 4 ∨ q = 2 ∧ e = 0 ∨ q = 0 ∧ e = 2 ∨ q = 2 ∧ e = 2 := by decide +kernel
theorem six_cases (n : Int) : ∃ p d : Fin 5, (∀ w, Calls Try.prog 21 #[.int .i64 n] w fun e w' => e = .returned (.complex .f64 (fl p) (fl d)) ∧ w = w') ∧ rightK (p, d) = true :=
  ⟨_, _, six_any n, sixM_right (sx n)⟩
/-- All of a row that was just written: its cells as they stand there. -/
theorem lit1 (w : World) (p d : Fin 5) : Sl (w.alloc (.cells #[.complex .f64 (fl p) (fl d)] 23)) (w.heap.size + 1) (some ⟨w.heap.size, 0, none⟩) 1 1 (mv [(p, d)]) :=
  Sl.lit w 23 (mv [(p, d)]) 1 rfl (by unfold maxLen; omega)
theorem lit2 (w : World) (p d q e : Fin 5) : Sl (w.alloc (.cells #[.complex .f64 (fl p) (fl d), .complex .f64 (fl q) (fl e)] 23)) (w.heap.size + 1) (some ⟨w.heap.size, 0, none⟩) 2 2 (mv [(p, d), (q, e)]) :=
  Sl.lit w 23 (mv [(p, d), (q, e)]) 2 rfl (by unfold maxLen; omega)
theorem six1 {p d : Fin 5} (h : rightK (p, d) = true) : Six [(p, d)] := by
  intro m hm
  simp only [List.mem_cons, List.not_mem_nil, or_false] at hm
  rw [hm]; exact h
theorem six2 {p d q e : Fin 5} (h : rightK (p, d) = true) (k : rightK (q, e) = true) : Six [(p, d), (q, e)] := by
  intro m hm
  simp only [List.mem_cons, List.not_mem_nil, or_false] at hm
  rcases hm with rfl | rfl <;> assumption
end Go.Proofs.Ytjkigjgpdbedmaa
