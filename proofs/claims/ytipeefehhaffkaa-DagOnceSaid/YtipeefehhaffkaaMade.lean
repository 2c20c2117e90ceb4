/- Small facts of new memory and of numbers that come in (any types). -/
import Derived.Test.YtipeefehhaffkaaArith
import Derived.Deep.RegionWith
namespace Go.Proofs.Ytipeefehhaffkaa
open Go.RowKit

theorem wf_bounds {a : Int} (h : (Lit.int .i64 a).wf = true) : -9223372036854775808 ≤ a ∧ a ≤ 9223372036854775807 := by
  simp only [Lit.wf, Bool.and_eq_true, decide_eq_true_eq] at h
  exact h
theorem wf_u64 {a : Int} (h : (Lit.int .u64 a).wf = true) : ∃ n : Nat, a = (n : Int) ∧ n < 18446744073709551616 := by
  simp only [Lit.wf, Bool.and_eq_true, decide_eq_true_eq] at h
  have h1 : (0 : Int) ≤ a := h.1
  have h2 : a ≤ 18446744073709551615 := h.2
  exact ⟨a.toNat, by omega, by omega⟩
theorem wf_u8 {a : Int} (h : (Lit.int .u8 a).wf = true) : ∃ c : UInt8, a = (c.toNat : Int) := by
  simp only [Lit.wf, Bool.and_eq_true, decide_eq_true_eq] at h
  have h1 : (0 : Int) ≤ a := h.1
  have h2 : a ≤ 255 := h.2
  exact ⟨UInt8.ofNat a.toNat, by simp; omega⟩

theorem Sl.then_ {w w' : World} {n c : Nat} {A : Option Addr} {xs : List Value} (h : Sl w w.heap.size A n c xs) (hb : Below w.heap.size w w') : Sl w' w'.heap.size A n c xs := (h.below hb).more hb.size
theorem below_step {w a b : World} (h1 : Below w.heap.size w a) (h2 : Below a.heap.size a b) : Below w.heap.size w b := h1.trans (h2.mono h1.size)
theorem only_step {w a b : World} {r : Nat} (h1 : Below w.heap.size w a) (h2 : Only r a b) (hr : w.heap.size ≤ r) : Below w.heap.size w b := h1.trans (h2.below h1.size hr)
theorem Sl.lit (w : World) (t : TypeId) (cs : List Value) (n : Nat) (hn : cs.length = n) (h63 : n ≤ maxLen) : Sl (w.alloc (.cells cs.toArray t)) (w.heap.size + 1) (some ⟨w.heap.size, 0, none⟩) n n cs := by
  refine ⟨hn, Nat.le_refl _, h63, .inr ⟨w.heap.size, 0, rfl, by omega, fun j u hu => ?_⟩⟩
  have := (Ob.made w t cs.toArray).cell j
  rw [Nat.zero_add, this]
  simpa using hu
theorem Below.lit {w w' : World} {o : Obj} (h : Below (w.alloc o).heap.size (w.alloc o) w') : Below w.heap.size w w' := ((Below.refl _ w).alloc (Nat.le_refl _) o).trans (h.mono (by simp))
theorem Sl.lit_keep {w : World} {B n c : Nat} {A : Option Addr} {xs : List Value} (h : Sl w B A n c xs) (hB : B ≤ w.heap.size) (o : Obj) : Sl (w.alloc o) B A n c xs := h.keep fun k hk => Below.heap_alloc w o k (by omega)
theorem Ob.sl {w : World} {g : Nat} {t : TypeId} {n : Nat} {xs : List Value} (h : Ob w g t xs.toArray) (hn : xs.length = n) (h63 : n ≤ maxLen) : Sl w (g + 1) (some ⟨g, 0, none⟩) n n xs := by
  refine ⟨hn, Nat.le_refl _, h63, .inr ⟨g, 0, rfl, by omega, fun j u hu => ?_⟩⟩
  have := h.cell j
  rw [Nat.zero_add, this]
  simpa using hu
theorem size_al (w : World) (o : Obj) : (w.alloc o).heap.size = w.heap.size + 1 := by simp
theorem below1 (w : World) (x : Obj) : Below w.heap.size w (w.alloc x) := (Below.refl _ _).alloc (Nat.le_refl _) _
theorem below2 (w : World) (x y : Obj) : Below w.heap.size w ((w.alloc x).alloc y) := (below1 w x).alloc (by rw [size_al]; omega) _
/-- An append whose run is known, as a step of a region that draws. -/
theorem step_append_run {P : Program} {ops : Array Oper} {o : Oper} {a : Act} {w w' : World} {K : Act → World → Prop} {Q : Exit → Act → World → Prop} {E : Prop}
    (hg : o.guard = none) (s x : Operand) (t u : TypeId) (hop : o.op = Op.call { callee := Callee.builtin Builtin.append, args := #[s, x], argTypes := #[t, u] })
    {sv xv v' : Value} (hs : a.eval s = sv) (hx : a.eval x = xv) (hrun : (Builtin.append_ #[t, u] o.type #[sv, xv]).run P w = .ok v' w') (hK : K (a.put o.dst v') w') :
    if Region.wanted o (yielded ops a.tmps) = true then Oper.wp P o a w K Q else E := by
  have hw : Region.wanted o (yielded ops a.tmps) = true := by simp [Region.wanted, hg]
  rw [if_pos hw]
  unfold Oper.wp
  simp [execOp, hop, resolve, invoke, builtin, hs, hx, hrun, Result.andThen]
  exact hK
end Go.Proofs.Ytipeefehhaffkaa
