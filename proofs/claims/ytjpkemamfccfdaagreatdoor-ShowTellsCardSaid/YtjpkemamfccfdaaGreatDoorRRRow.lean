/- Rows of truths of the call's own. -/
import Derived.Test.YtjpkemamfccfdaaGreatDoorCellRows
import Derived.Test.YtjpkemamfccfdaaGreatDoorPolOw
namespace Go.Proofs.YtjpkemamfccfdaaGreatDoor
set_option linter.unusedVariables false
open Go.RowKit

def bvs (xs : List Bool) : List Value := xs.map Value.bool
theorem bvs_len (xs : List Bool) : (bvs xs).length = xs.length := List.length_map ..
theorem bvs_app (a b : List Bool) : bvs (a ++ b) = bvs a ++ bvs b := List.map_append
theorem boolinfo : (Tryz.prog.info? 4).map (fun i => (i.zero, i.size, i.bytes)) = some (some (.bool false), 1, 1) := by kernel_rfl
def BR (w : World) (base : Nat) (A : Option Addr) (n c : Nat) (xs : List Bool) : Prop := w.ownsRow base 4 1 (.slice A n c) n (bvs xs)
section
variable {w w' : World} {base n c : Nat} {A : Option Addr} {xs : List Bool}
theorem BR.len (h : BR w base A n c xs) : xs.length = n := by
  have := h.1
  rwa [bvs_len, Nat.mul_one] at this
theorem BR.nil (w : World) (base : Nat) : BR w base none 0 0 [] := ⟨rfl, .inl ⟨rfl, rfl⟩⟩
theorem BR.below (h : BR w base A n c xs) (hb : Below w.heap.size w w') : BR w' base A n c xs := by
  have hg : w.grownBy w' none := ⟨hb.os, hb.tape, hb.output, hb.size, fun k hk _ => hb.block k hk⟩
  refine World.ownsRow.kept h hg ?_
  cases hv : (Value.slice A n c).ownBlock with
  | none => exact .inl rfl
  | some b => exact .inr (by simp)
theorem BR.take (h : BR w base A n c xs) {m : Nat} (hm : m ≤ n) : BR w base A m c (xs.take m) := by
  have hl := h.len
  obtain ⟨h1, h2⟩ := h
  refine ⟨by rw [bvs_len, List.length_take]; omega, ?_⟩
  rcases h2 with ⟨hv, hn⟩ | ⟨g, cap, cur, hv, hg, hh, hnc, hcm, hs, ht⟩
  · injection hv with e1 e2 e3
    exact .inl ⟨by rw [e1, e3, show m = 0 by omega], by omega⟩
  · injection hv with e1 e2 e3
    refine .inr ⟨g, cap, cur, by rw [e1, e3], hg, hh, by omega, hcm, hs, ?_⟩
    rw [Nat.mul_one] at ht ⊢
    unfold bvs at ht ⊢
    rw [List.map_take, ← ht, List.take_take, Nat.min_eq_left hm]
theorem BR.push (h : BR w base A n c xs) (x : Bool) (hn : n ≤ 1000000) (hbase : base ≤ w.heap.size) (ty : Nat) :
    ∃ A' c' w', (Builtin.append_ #[57, 57] ty #[.slice A n c, .slice (some ⟨w.heap.size, 0, none⟩) 1 1]).run Tryz.prog (w.alloc (.cells #[.bool x] 4)) = .ok (.slice A' (n + 1) c') w' ∧
      BR w' base A' (n + 1) c' (xs ++ [x]) ∧ Below base w w' := by
  obtain ⟨i, hi, hz, hs, hb⟩ := info_of boolinfo
  obtain ⟨A', c', w', r, o, b⟩ := append_cell (ty := ty) (x := .bool x) Tryz.underlying57 hi hz rfl hs hb (by omega) rfl h hn hbase
  refine ⟨A', c', w', r, ?_, b⟩
  unfold BR
  rw [bvs_app]
  exact o
/-- What lies in it, and where. -/
theorem BR.blk (h : BR w base A n c xs) (hn : 1 ≤ n) : ∃ g cur, A = some ⟨g, 0, none⟩ ∧ base ≤ g ∧ Ob w g 4 cur ∧ (n ≤ c ∧ c ≤ maxLen ∧ cur.size = c) ∧ cur.toList.take n = bvs xs := by
  obtain ⟨h1, h2⟩ := h
  rcases h2 with ⟨hv, hn0⟩ | ⟨g, cap, cur, hv, hg, hh, hnc, hcm, hs, ht⟩
  · omega
  · injection hv with e1 e2 e3
    rw [Nat.mul_one] at hs ht
    exact ⟨g, cur, e1, hg, hh, ⟨by omega, by omega, by omega⟩, ht⟩
theorem BR.at_ (h : BR w base A n c xs) {k : Nat} {x : Bool} (hx : xs[k]? = some x) : ∃ g, A = some ⟨g, 0, none⟩ ∧ w.cell? ⟨g, k, none⟩ = some (.bool x) ∧ w.frozen? ⟨g, k, none⟩ = false := by
  have hl := h.len
  have hk : k < n := by
    rcases Nat.lt_or_ge k xs.length with h | h
    · omega
    · rw [List.getElem?_eq_none h] at hx; cases hx
  obtain ⟨g, cur, rfl, _, ho, hs, ht⟩ := h.blk (by omega)
  refine ⟨g, rfl, ?_, ho.frozen k⟩
  rw [ho.cell k]
  have : (cur.toList.take n)[k]? = some (.bool x) := by rw [ht]; unfold bvs; rw [List.getElem?_map, hx]; rfl
  rw [List.getElem?_take, if_pos hk] at this
  simpa using this
/-- One cell of it changed. -/
theorem BR.set (h : BR w base A n c xs) {k : Nat} (hk : k < n) (x : Bool) {g : Nat} (hA : A = some ⟨g, 0, none⟩) : BR (w.setCell ⟨g, k, none⟩ (.bool x)) base A n c (xs.set k x) ∧ (base ≤ g ∧ g < w.heap.size) := by
  have hl := h.len
  obtain ⟨g', cur, e, hb, ho, hs, ht⟩ := h.blk (by omega)
  rw [hA] at e
  injection e with e
  injection e with e
  subst e
  refine ⟨⟨by rw [bvs_len, List.length_set]; omega, .inr ⟨g, c, _, by rw [hA], hb, ho.put k (.bool x), hs.1, hs.2.1, by rw [Array.size_setIfInBounds]; omega, ?_⟩⟩, hb, ho.lt⟩
  rw [Nat.mul_one, Array.toList_setIfInBounds, List.take_set, ht]
  unfold bvs
  rw [List.map_set]
end
end Go.Proofs.YtjpkemamfccfdaaGreatDoor
