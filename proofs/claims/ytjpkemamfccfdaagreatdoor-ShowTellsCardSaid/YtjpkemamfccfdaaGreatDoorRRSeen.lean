/- The reference's names met so far: seen.id. -/
import Derived.Test.YtjpkemamfccfdaaGreatDoorRRTgt
import Derived.Test.YtjpkemamfccfdaaGreatDoorCellRows
import Derived.Test.YtjpkemamfccfdaaGreatDoorPolOw
import Derived.Test.YtjpkemamfccfdaaGreatDoorPolPol
namespace Go.Proofs.YtjpkemamfccfdaaGreatDoor
set_option linter.unusedVariables false
open Go.RowKit

def svs (xs : List ByteArray) : List Value := xs.map Value.string
theorem svs_len (xs : List ByteArray) : (svs xs).length = xs.length := List.length_map ..
theorem svs_app (a b : List ByteArray) : svs (a ++ b) = svs a ++ svs b := List.map_append
theorem strinfo : (Tryz.prog.info? 9).map (fun i => (i.zero, i.size, i.bytes)) = some (some (.string ⟨#[]⟩), 1, 16) := by kernel_rfl
/-- What was met, in memory: at block g; the names in a row of its own behind g. -/
def Sn (w : World) (g : Nat) (A : Option Addr) (n c : Nat) (s : Seen) : Prop :=
  Ob w g 102 #[.slice A n c, .int .i64 s.n] ∧ w.ownsRow (g + 1) 9 1 (.slice A n c) n (svs s.ids) ∧ s.ids.length = n
/-- What may have changed: g, the row, and what is new. -/
structure SnF (g : Nat) (row : Option Nat) (w w' : World) : Prop where
  os : w'.os = w.os
  tape : w'.tape = w.tape
  output : w'.output = w.output
  size : w.heap.size ≤ w'.heap.size
  block : ∀ k, k < w.heap.size → k ≠ g → some k ≠ row → w'.heap[k]? = w.heap[k]?
/-- The row behind: the elder one, or a new one. -/
def Rn (w : World) (row row' : Option Nat) : Prop := row' = row ∨ ∃ b, row' = some b ∧ w.heap.size ≤ b
section
variable {g : Nat} {row row' row'' : Option Nat} {w w' w'' : World}
theorem SnF.refl : SnF g row w w := ⟨rfl, rfl, rfl, Nat.le_refl _, fun _ _ _ _ => rfl⟩
theorem SnF.of (h : Below w.heap.size w w') : SnF g row w w' := ⟨h.os, h.tape, h.output, h.size, fun k hk _ _ => h.block k hk⟩
theorem Rn.refl : Rn w row row := .inl rfl
theorem Rn.trans (h1 : Rn w row row') (hs : w.heap.size ≤ w'.heap.size) (h2 : Rn w' row' row'') : Rn w row row'' := by
  rcases h2 with rfl | ⟨b, rfl, hb⟩
  · exact h1
  · exact .inr ⟨b, rfl, Nat.le_trans hs hb⟩
theorem SnF.trans (h1 : SnF g row w w') (hr : Rn w row row') (h2 : SnF g row' w' w'') : SnF g row w w'' := by
  refine ⟨h2.os.trans h1.os, h2.tape.trans h1.tape, h2.output.trans h1.output, Nat.le_trans h1.size h2.size, fun k hk hg hrow => ?_⟩
  refine (h2.block k (Nat.lt_of_lt_of_le hk h1.size) hg ?_).trans (h1.block k hk hg hrow)
  rcases hr with rfl | ⟨b, rfl, hb⟩
  · exact hrow
  · intro e; injection e with e; omega
theorem SnF.ob {b : Nat} {t : TypeId} {cs : Array Value} (h : SnF g row w w') (o : Ob w b t cs) (hg : b ≠ g) (hr : some b ≠ row) : Ob w' b t cs := o.keep (h.block b o.lt hg hr)
theorem SnF.below (h : SnF g row w w') {B : Nat} (hB : B ≤ g) (hr : ∀ b, row = some b → B ≤ b) (hw : B ≤ w.heap.size) : Below B w w' :=
  ⟨h.os, h.tape, h.output, h.size, fun k hk => h.block k (by omega) (by omega) (fun e => by have := hr k e.symm; omega)⟩
theorem SnF.kept (h : SnF g row w w') {R : Nat → Prop} (hR : ∀ b, R b → b ≠ g ∧ some b ≠ row) : Kept R w w' := ⟨h.size, fun b hb hl => h.block b hl (hR b hb).1 (hR b hb).2⟩
end
theorem metB_at {l : List ByteArray} {k : Nat} {x : ByteArray} (h : l[k]? = some x) : metB x l = true := by
  unfold metB
  rw [List.any_eq_true]
  exact ⟨x, List.mem_of_getElem? h, by simp⟩
def NotTo (l : List ByteArray) (x : ByteArray) (k : Nat) : Prop := ∀ j y, l[j]? = some y → j < k → y ≠ x
theorem NotTo.all {l : List ByteArray} {x : ByteArray} {n : Nat} (h : NotTo l x n) (hn : l.length = n) : metB x l = false := by
  unfold metB
  rw [List.any_eq_false]
  intro y hy
  obtain ⟨j, hj, rfl⟩ := List.getElem_of_mem hy
  have := h j l[j] (List.getElem?_eq_getElem hj) (by omega)
  simpa using this
theorem Sn.lt {w : World} {g n c : Nat} {A : Option Addr} {s : Seen} (h : Sn w g A n c s) : ∀ b, (Value.slice A n c).ownBlock = some b → g + 1 ≤ b ∧ b < w.heap.size := World.ownsRow.lt h.2.1
theorem Sn.at_ {w : World} {g n c : Nat} {A : Option Addr} {s : Seen} (h : Sn w g A n c s) {k : Nat} {x : ByteArray} (hx : s.ids[k]? = some x) : ∃ b o, A = some ⟨b, o, none⟩ ∧ w.cell? ⟨b, o + k, none⟩ = some (.string x) := by
  have hs := Sl.of_own h.2.1
  have hk : k < n := by
    have := h.2.2
    rcases Nat.lt_or_ge k s.ids.length with h | h
    · omega
    · rw [List.getElem?_eq_none h] at hx; cases hx
  obtain ⟨b, o, u, e, _, hu, hc⟩ := hs.at_ hk
  unfold svs at hu
  rw [List.getElem?_map, hx] at hu
  injection hu with hu
  subst hu
  exact ⟨b, o, e, hc⟩
end Go.Proofs.YtjpkemamfccfdaaGreatDoor
