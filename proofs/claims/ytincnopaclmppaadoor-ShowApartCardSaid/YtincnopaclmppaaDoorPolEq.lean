/- Attributes, nodes, matches, duties held against each other by ==. -/
import Derived.Test.YtincnopaclmppaaDoorPolMem
import Derived.Test.YtincnopaclmppaaDoorVEq
namespace Go.Proofs.YtincnopaclmppaaDoor
set_option linter.unusedVariables false
open Go.RowKit

theorem text_same (s s' : ByteArray) : (s.toList = s'.toList) = (s = s') := propext ⟨fun c => text_eq (by show s.data.toList = s'.data.toList; rw [← ByteArray.toList_eq, ← ByteArray.toList_eq]; exact c), fun h => by rw [h]⟩

theorem vl_ext {a b : Vl} (h1 : a.k = b.k) (h2 : a.n = b.n) (h3 : a.s = b.s) : a = b := by cases a; cases b; simp_all
theorem attr_eq (k k' : Int) (s s' : ByteArray) (m m' : Bool) (w : World) :
    (Op.equalIn 10000 50 (.agg #[.int .i64 k, .string s, .bool m]) (.agg #[.int .i64 k', .string s', .bool m'])).run Tryd.prog w = .ok (decide ((⟨k, s, m⟩ : Atr) = ⟨k', s', m'⟩)) w := by
  have u3 := Tryd.underlying3
  have a3 := Tryd.isAgg3
  have z3 := Tryd.sizeOf3
  have u9 := Tryd.underlying9
  have a9 := Tryd.isAgg9
  have z9 := Tryd.sizeOf9
  have u4 := Tryd.underlying4
  have a4 := Tryd.isAgg4
  have z4 := Tryd.sizeOf4
  have hS : Tryd.prog.underlying 50 = some (.struct (Tryd.prog.fieldsOf 50)) := by kernel_rfl
  have hp : Tryd.prog.stoodInHeld 50 = false := by kernel_rfl
  rw [show (10000 : Nat) = 9999 + 1 from rfl, run_equalIn_agg w 9999 50 _ _ hS hp]
  simp only [Program.fieldsOf, Tryd.underlying50]
  go_simp
  simp only [text_same]
  by_cases h1 : k = k' <;> by_cases h2 : s = s' <;> by_cases h3 : m = m' <;> simp [h1, h2, h3]

set_option maxRecDepth 100000 in
set_option maxHeartbeats 800000 in
theorem nod_eq (a b : Nod) (w : World) : (Op.equalIn 10000 58 (.agg #[.int .i64 a.op, .int .i64 a.v.k, .int .i64 a.v.n, .string a.v.s, .int .i64 a.a.cat, .string a.a.name, .bool a.a.must]) (.agg #[.int .i64 b.op, .int .i64 b.v.k, .int .i64 b.v.n, .string b.v.s, .int .i64 b.a.cat, .string b.a.name, .bool b.a.must])).run Tryd.prog w = .ok (decide (a = b)) w := by
  have u3 := Tryd.underlying3
  have a3 := Tryd.isAgg3
  have z3 := Tryd.sizeOf3
  have u9 := Tryd.underlying9
  have a9 := Tryd.isAgg9
  have z9 := Tryd.sizeOf9
  have u4 := Tryd.underlying4
  have a4 := Tryd.isAgg4
  have z4 := Tryd.sizeOf4
  have hS : Tryd.prog.underlying 58 = some (.struct (Tryd.prog.fieldsOf 58)) := by kernel_rfl
  have hp : Tryd.prog.stoodInHeld 58 = false := by kernel_rfl
  rw [show (10000 : Nat) = 9999 + 1 from rfl, run_equalIn_agg w 9999 58 _ _ hS hp]
  simp only [Program.fieldsOf, Tryd.underlying58]
  go_simp
  simp only [text_same]
  repeat' split
  all_goals first
    | (rw [decide_eq_true]; exact Nod.ext' (by assumption) (vl_ext (by assumption) (by assumption) (by assumption)) (Atr.ext' (by assumption) (by assumption) (by assumption)))
    | (rw [decide_eq_false]; rintro rfl; rename_i hne; exact hne rfl)

set_option maxRecDepth 100000 in
set_option maxHeartbeats 800000 in
theorem mat_eq (a b : Mat) (w : World) : (Op.equalIn 10000 54 (.agg #[.int .i64 a.a.cat, .string a.a.name, .bool a.a.must, .int .i64 a.op, .int .i64 a.v.k, .int .i64 a.v.n, .string a.v.s]) (.agg #[.int .i64 b.a.cat, .string b.a.name, .bool b.a.must, .int .i64 b.op, .int .i64 b.v.k, .int .i64 b.v.n, .string b.v.s])).run Tryd.prog w = .ok (decide (a = b)) w := by
  have u3 := Tryd.underlying3
  have a3 := Tryd.isAgg3
  have z3 := Tryd.sizeOf3
  have u9 := Tryd.underlying9
  have a9 := Tryd.isAgg9
  have z9 := Tryd.sizeOf9
  have u4 := Tryd.underlying4
  have a4 := Tryd.isAgg4
  have z4 := Tryd.sizeOf4
  have hS : Tryd.prog.underlying 54 = some (.struct (Tryd.prog.fieldsOf 54)) := by kernel_rfl
  have hp : Tryd.prog.stoodInHeld 54 = false := by kernel_rfl
  rw [show (10000 : Nat) = 9999 + 1 from rfl, run_equalIn_agg w 9999 54 _ _ hS hp]
  simp only [Program.fieldsOf, Tryd.underlying54]
  go_simp
  simp only [text_same]
  repeat' split
  all_goals first
    | (rw [decide_eq_true]; exact Mat.ext' (Atr.ext' (by assumption) (by assumption) (by assumption)) (by assumption) (vl_ext (by assumption) (by assumption) (by assumption)))
    | (rw [decide_eq_false]; rintro rfl; rename_i hne; exact hne rfl)

set_option maxRecDepth 100000 in
set_option maxHeartbeats 800000 in
theorem dut_eq (a b : Dut) (w : World) : (Op.equalIn 10000 60 (.agg #[.int .i64 a.on, .int .i64 a.kind, .string a.arg]) (.agg #[.int .i64 b.on, .int .i64 b.kind, .string b.arg])).run Tryd.prog w = .ok (decide (a = b)) w := by
  have u3 := Tryd.underlying3
  have a3 := Tryd.isAgg3
  have z3 := Tryd.sizeOf3
  have u9 := Tryd.underlying9
  have a9 := Tryd.isAgg9
  have z9 := Tryd.sizeOf9
  have u4 := Tryd.underlying4
  have a4 := Tryd.isAgg4
  have z4 := Tryd.sizeOf4
  have hS : Tryd.prog.underlying 60 = some (.struct (Tryd.prog.fieldsOf 60)) := by kernel_rfl
  have hp : Tryd.prog.stoodInHeld 60 = false := by kernel_rfl
  rw [show (10000 : Nat) = 9999 + 1 from rfl, run_equalIn_agg w 9999 60 _ _ hS hp]
  simp only [Program.fieldsOf, Tryd.underlying60]
  go_simp
  simp only [text_same]
  repeat' split
  all_goals first
    | (rw [decide_eq_true]; exact Dut.ext' (by assumption) (by assumption) (by assumption))
    | (rw [decide_eq_false]; rintro rfl; rename_i hne; exact hne rfl)

end Go.Proofs.YtincnopaclmppaaDoor
