/- A value as Go has it, and in a block of its own. -/
import Derived.Test.YtjpkemamfccfdaaGreatDoorVMath
import Derived.Test.YtjpkemamfccfdaaGreatDoorMade
namespace Go.Proofs.YtjpkemamfccfdaaGreatDoor
set_option linter.unusedVariables false
open Go.RowKit

/-- A value as Go has it. -/
def Vl.val (v : Vl) : Value := .agg #[.int .i64 v.k, .int .i64 v.n, .string v.s]
/-- Its cells. -/
def Vl.cells (v : Vl) : List Value := [.int .i64 v.k, .int .i64 v.n, .string v.s]

/-- A value in a block of its own. -/
def Bx (w : World) (g : Nat) (k n : Int) (s : ByteArray) : Prop := Ob w g 46 #[.int .i64 k, .int .i64 n, .string s]
section
variable {w w' : World} {g : Nat} {k n : Int} {s : ByteArray}
theorem Bx.made (w : World) (k n : Int) (s : ByteArray) : Bx (w.alloc (.cells #[.int .i64 k, .int .i64 n, .string s] 46)) w.heap.size k n s := Ob.made _ _ _
theorem Bx.lt (h : Bx w g k n s) : g < w.heap.size := Ob.lt h
theorem Bx.alloc (h : Bx w g k n s) (o : Obj) : Bx (w.alloc o) g k n s := Ob.keep h (Below.heap_alloc w o g h.lt)
theorem Bx.then_ (h : Bx w g k n s) (hb : Below w.heap.size w w') : Bx w' g k n s := Ob.below h hb h.lt
theorem Bx.below {B : Nat} (h : Bx w g k n s) (hb : Below B w w') (hg : g < B) : Bx w' g k n s := Ob.below h hb hg
theorem Bx.only {r : Nat} (h : Bx w g k n s) (ho : Only r w w') (hg : g ≠ r) : Bx w' g k n s := Ob.keep h (ho.heap h.lt hg)
theorem Bx.drewN (h : Bx w g k n s) (j : Nat) : Bx (w.drewN j) g k n s := h
theorem Bx.c3 (h : Bx w g k n s) : w.cell? ⟨g, 0, none⟩ = some (.int .i64 k) ∧ w.cell? ⟨g, 1, none⟩ = some (.int .i64 n) ∧ w.cell? ⟨g, 2, none⟩ = some (.string s) := ⟨Ob.cell h 0, Ob.cell h 1, Ob.cell h 2⟩
theorem Bx.fz (h : Bx w g k n s) (i : Nat) : w.frozen? ⟨g, i, none⟩ = false := Ob.frozen h i
theorem Bx.setS (h : Bx w g k n s) (s' : ByteArray) : Bx (w.setCell ⟨g, 2, none⟩ (.string s')) g k n s' := by unfold Bx; simpa using Ob.put h 2 (.string s')
theorem Bx.setN (h : Bx w g k n s) (n' : Int) : Bx (w.setCell ⟨g, 1, none⟩ (.int .i64 n')) g k n' s := by unfold Bx; simpa using Ob.put h 1 (.int .i64 n')
end
end Go.Proofs.YtjpkemamfccfdaaGreatDoor
