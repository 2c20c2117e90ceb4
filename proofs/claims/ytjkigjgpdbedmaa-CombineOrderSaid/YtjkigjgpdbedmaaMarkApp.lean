/- Rows of marks of the call's own: append of many. -/
import Derived.Test.YtjkigjgpdbedmaaMarkRow
import Derived.Test.YtjkigjgpdbedmaaCellRows
namespace Go.Proofs.Ytjkigjgpdbedmaa
set_option linter.unusedVariables false
open Go.RowKit

theorem append_marks {w : World} {base B n c m c2 ty : Nat} {A A2 : Option Addr} {xs ys : List Mk} (h : w.ownsRow base 23 1 (.slice A n c) n (mv xs)) (hy : Sl w B A2 m c2 (mv ys)) (hn : n + m ≤ 1000000) (hbase : base ≤ w.heap.size) :
    ∃ A' c' w', (Builtin.append_ #[27, 27] ty #[.slice A n c, .slice A2 m c2]).run Try.prog w = .ok (.slice A' (n + m) c') w' ∧
      w'.ownsRow base 23 1 (.slice A' (n + m) c') (n + m) (mv (xs ++ ys)) ∧ Below base w w' ∧ w.grownBy w' (Value.slice A n c).ownBlock ∧
      ((Value.slice A' (n + m) c').ownBlock = (Value.slice A n c).ownBlock ∨ (Value.slice A' (n + m) c').ownBlock = some w.heap.size) := by
  obtain ⟨i, hi, hz0, hz1, hz2⟩ := info_parts markinfo
  rw [mv_app]
  exact append_cells Try.underlying27 hi hz0 rfl hz1 hz2 (by decide) h hy one_mv hn hbase
/-- append of marks, as a step of a region that draws. -/
theorem step_append_marks {ops : Array Oper} {o : Oper} {a : Act} {w : World} {K : Act → World → Prop} {Q : Exit → Act → World → Prop} {E : Prop}
    {base B n c m c2 : Nat} {A A2 : Option Addr} {xs ys : List Mk} (N : Nat) (zs : List Mk) (hown : w.ownsRow base 23 1 (.slice A n c) n (mv xs)) (hsrc : Sl w B A2 m c2 (mv ys)) (hN : n + m = N) (hz : xs ++ ys = zs) (hn : N ≤ 1000000) (hbase : base ≤ w.heap.size)
    (hg : o.guard = none) (s x : Operand) (hop : o.op = Op.call { callee := Callee.builtin Builtin.append, args := #[s, x], argTypes := #[27, 27] })
    (hs : a.eval s = .slice A n c) (hx : a.eval x = .slice A2 m c2)
    (hK : ∀ A' c' w', w'.ownsRow base 23 1 (.slice A' N c') N (mv zs) → Below base w w' → w.grownBy w' (Value.slice A n c).ownBlock → K (a.put o.dst (.slice A' N c')) w') :
    if Region.wanted o (yielded ops a.tmps) = true then Oper.wp Try.prog o a w K Q else E := by
  subst hN hz
  obtain ⟨A', c', w', hrun, h1, h2, h3, _⟩ := append_marks (ty := o.type) hown hsrc hn hbase
  exact step_append_run hg s x _ _ hop hs hx hrun (hK A' c' w' h1 h2 h3)
theorem own_m1 (w : World) : (w.alloc (.cells #[] 23)).ownsRow w.heap.size 23 1 (.slice (some ⟨w.heap.size, 0, none⟩) 0 0) 0 (mv []) :=
  World.ownsRow_lit w #[] 0 (Nat.le_refl _) (by simp [maxLen]) rfl
end Go.Proofs.Ytjkigjgpdbedmaa
