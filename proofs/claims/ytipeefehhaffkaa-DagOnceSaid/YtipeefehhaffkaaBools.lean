/- Rows of truths in new memory. -/
import Derived.Test.YtipeefehhaffkaaMade
namespace Go.Proofs.Ytipeefehhaffkaa
set_option linter.unusedVariables false
open Go.RowKit

def bb (f : List Bool) : Array Value := (f.map Value.bool).toArray
theorem boolinfo : (Try.prog.info? 4).map (fun i => (i.zero, i.size, i.bytes)) = some (some (.bool false), 1, 1) := by kernel_rfl
theorem madeBools (n : Nat) : madeCells (Value.bool false).cells (n * 1) = bb (List.replicate n false) := by
  unfold bb
  apply Array.ext
  · simp [madeCells]
  · intro i h1 h2; simp [madeCells, Value.cells, Nat.mod_one]
theorem make_bools (n : Nat) (h : n ≤ 100000) (W : World) :
    (Instr.makeSlice 61 (.int .i64 (n : Int)) (.int .i64 (n : Int))).run Try.prog W = .ok (.slice (some ⟨W.heap.size, 0, none⟩) n n) (W.alloc (.cells (bb (List.replicate n false)) 4)) := by
  obtain ⟨i, hi, hz0, hz1, hz2⟩ := info_parts boolinfo
  have hr := run_make (P := Try.prog) W 61 4 i _ Try.underlying61 hi hz0 .i64 .i64 n n (by omega) (by omega) (by rw [hz2]; omega) (by omega)
  rw [hz1] at hr
  simp only [Int.toNat_natCast, madeBools] at hr
  exact hr
theorem bb_at {w : World} {g : Nat} {f : List Bool} (h : Ob w g 4 (bb f)) {j : Nat} {b : Bool} (hf : f[j]? = some b) : w.cell? ⟨g, j, none⟩ = some (.bool b) := by
  rw [Ob.cell h j]
  unfold bb
  rw [List.getElem?_toArray, List.getElem?_map, hf]
  rfl
theorem bb_put {w : World} {g : Nat} {f : List Bool} (h : Ob w g 4 (bb f)) (j : Nat) : Ob (w.setCell ⟨g, j, none⟩ (.bool true)) g 4 (bb (f.set j true)) := by
  have := Ob.put h j (.bool true)
  unfold bb at this ⊢
  rw [List.map_set]
  simpa using this
end Go.Proofs.Ytipeefehhaffkaa
