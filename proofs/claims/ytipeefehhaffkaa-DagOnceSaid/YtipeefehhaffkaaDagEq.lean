/- Branches held against each other by ==. -/
import Derived.Test.YtipeefehhaffkaaDagW
import Derived.ChangeKeysEq
import Derived.ChangeSlices
namespace Go.Proofs.Ytipeefehhaffkaa
set_option linter.unusedVariables false
open Go.RowKit
theorem int_info : ∃ i, Try.prog.info? 3 = some i := by
  cases h : Try.prog.info? 3 with
  | some i => exact ⟨i, rfl⟩
  | none =>
    have : (Try.prog.info? 3).isSome = true := by kernel_rfl
    rw [h] at this; cases this
theorem eq_stepI {xs ys : Array Value} {i N : Nat} {is : List Nat} {a b : Int} {W : World} (hx : xs[i]? = some (.int .i64 a)) (hy : ys[i]? = some (.int .i64 b)) :
    (Op.eqItems (N + 1) 3 1 xs ys (i :: is)).run Try.prog W = if (a == b) = true then (Op.eqItems (N + 1) 3 1 xs ys is).run Try.prog W else .ok false W := by
  have hp : ∀ (xs : Array Value) (off : Nat) (v : Value), xs[off]? = some v → (part 3 xs off).run Try.prog W = .ok v W := fun xs off v h => run_part_plain W (by kernel_rfl) h
  have he := run_equalIn_int (P := Try.prog) W N 3 .i64 .i64 a b Try.underlying3
  simp only [Op.eqItems, Sem.run_bind, Nat.mul_one]
  rw [hp _ _ _ hx]
  simp only [Result.andThen_ok]
  rw [hp _ _ _ hy]
  simp only [Result.andThen_ok]
  rw [he]
  cases a == b <;> simp
theorem arr3_eq (N : Nat) (x y z x' y' z' : Int) (W : World) :
    (Op.equalIn (N + 2) 28 (.agg #[.int .i64 x, .int .i64 y, .int .i64 z]) (.agg #[.int .i64 x', .int .i64 y', .int .i64 z'])).run Try.prog W = .ok (decide (x = x' ∧ y = y' ∧ z = z')) W := by
  obtain ⟨i, hi⟩ := int_info
  have hc : Try.prog.cellsOf 3 = 1 := by kernel_rfl
  rw [run_equalIn_array W (N + 1) _ _ Try.underlying28 hi, hc, show List.range 3 = [0, 1, 2] from rfl, eq_stepI rfl rfl, eq_stepI rfl rfl, eq_stepI rfl rfl]
  by_cases h1 : x = x' <;> by_cases h2 : y = y' <;> by_cases h3 : z = z' <;> simp [h1, h2, h3, Op.eqItems]
set_option maxRecDepth 100000 in
set_option maxHeartbeats 800000 in
theorem br_eq (a b : Br) (w : World) : (Op.equalIn 10000 30 (.agg #[.int .i64 a.a, .int .i64 a.x, .int .i64 a.y, .int .i64 a.z]) (.agg #[.int .i64 b.a, .int .i64 b.x, .int .i64 b.y, .int .i64 b.z])).run Try.prog w = .ok (decide (a = b)) w := by
  have u3 := Try.underlying3
  have a3 := Try.isAgg3
  have z3 := Try.sizeOf3
  have hS : Try.prog.underlying 30 = some (.struct (Try.prog.fieldsOf 30)) := by kernel_rfl
  have hp : Try.prog.stoodInHeld 30 = false := by kernel_rfl
  have h3 := fun W => arr3_eq 9997 a.x a.y a.z b.x b.y b.z W
  rw [show (10000 : Nat) = 9999 + 1 from rfl, run_equalIn_agg w 9999 30 _ _ hS hp]
  simp only [Program.fieldsOf, Try.underlying30]
  go_simp
  by_cases h0 : a.a = b.a <;> by_cases h1 : a.x = b.x <;> by_cases h2 : a.y = b.y <;> by_cases h4 : a.z = b.z
  all_goals first
    | (have e : a = b := Br.ext' h0 h1 h2 h4
       subst e
       simp)
    | (have e : ¬ a = b := by
         rintro rfl
         simp at h0 h1 h2 h4
       simp [h0, h1, h2, h4, e])
end Go.Proofs.Ytipeefehhaffkaa
