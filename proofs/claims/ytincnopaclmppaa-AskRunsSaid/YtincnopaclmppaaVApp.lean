/- Lists of values of the call's own: append. -/
import Derived.Test.YtincnopaclmppaaVals
import Derived.Test.YtincnopaclmppaaMade
import Derived.Deep.RegionLaw
import Derived.Laws.OwnMore
namespace Go.Proofs.Ytincnopaclmppaa
set_option linter.unusedVariables false
open Go.RowKit

def cells3 : List Vl → List Value
  | [] => []
  | v :: r => .int .i64 v.k :: .int .i64 v.n :: .string v.s :: cells3 r
theorem cells3_len (l : List Vl) : (cells3 l).length = l.length * 3 := by
  induction l with
  | nil => rfl
  | cons v r ih => simp [cells3, ih]; omega
theorem cells3_app (l m : List Vl) : cells3 (l ++ m) = cells3 l ++ cells3 m := by
  induction l with
  | nil => rfl
  | cons v r ih => simp [cells3, ih]
theorem cells3_one {l : List Vl} : ∀ v ∈ cells3 l, v.oneCell' = true := by
  induction l with
  | nil => intro v hv; cases hv
  | cons x r ih =>
    intro v hv
    simp only [cells3, List.mem_cons] at hv
    rcases hv with rfl | rfl | rfl | hv
    · rfl
    · rfl
    · rfl
    · exact ih v hv
theorem cells3_at {l : List Vl} {j : Nat} {v : Vl} (h : l[j]? = some v) : (cells3 l)[j * 3]? = some (.int .i64 v.k) ∧ (cells3 l)[j * 3 + 1]? = some (.int .i64 v.n) ∧ (cells3 l)[j * 3 + 2]? = some (.string v.s) := by
  induction l generalizing j with
  | nil => simp at h
  | cons x r ih =>
    cases j with
    | zero => simp at h; subst h; exact ⟨rfl, rfl, rfl⟩
    | succ j =>
      simp at h
      obtain ⟨a, b, c⟩ := ih h
      have e : (j + 1) * 3 = j * 3 + 1 + 1 + 1 := by omega
      rw [e]
      exact ⟨by simpa [cells3] using a, by simpa [cells3] using b, by simpa [cells3] using c⟩
theorem cells3_of {l : List Vl} {i : Nat} {u : Value} (h : (cells3 l)[i]? = some u) : ∃ j v, l[j]? = some v ∧ (i = j * 3 ∧ u = .int .i64 v.k ∨ i = j * 3 + 1 ∧ u = .int .i64 v.n ∨ i = j * 3 + 2 ∧ u = .string v.s) := by
  have hi : i < l.length * 3 := by rw [← cells3_len]; exact (List.getElem?_eq_some_iff.1 h).1
  have hj : i / 3 < l.length := by omega
  obtain ⟨a, b, c⟩ := cells3_at (List.getElem?_eq_getElem hj)
  refine ⟨i / 3, l[i / 3], List.getElem?_eq_getElem hj, ?_⟩
  have hm : i = i / 3 * 3 ∨ i = i / 3 * 3 + 1 ∨ i = i / 3 * 3 + 2 := by omega
  rcases hm with e | e | e
  · rw [← e, h] at a; exact .inl ⟨e, Option.some.inj a⟩
  · rw [← e, h] at b; exact .inr (.inl ⟨e, Option.some.inj b⟩)
  · rw [← e, h] at c; exact .inr (.inr ⟨e, Option.some.inj c⟩)

theorem valinfo : (Try.prog.info? 57).map (fun i => (i.zero, i.size, i.bytes)) = some (some (.agg #[.int .i64 0, .int .i64 0, .string ⟨#[]⟩]), 3, 32) := by kernel_rfl
theorem val_parts : ∃ i, Try.prog.info? 57 = some i ∧ i.zero = some (.agg #[.int .i64 0, .int .i64 0, .string ⟨#[]⟩]) ∧ i.size = 3 ∧ i.bytes = 32 := by
  have h := valinfo
  cases hi : Try.prog.info? 57 with
  | none => rw [hi] at h; cases h
  | some i =>
    rw [hi] at h
    simp only [Option.map_some, Option.some.injEq, Prod.mk.injEq] at h
    exact ⟨i, rfl, h.1, h.2.1, h.2.2⟩

/-- A list of the call's own reads as its values. -/
theorem Vs.of_own {w : World} {base n c : Nat} {A : Option Addr} {l : List Vl} (h : w.ownsRow base 57 3 (.slice A n c) n (cells3 l)) (hok : ∀ v ∈ l, v.ok) : Vs w w.heap.size A n c l := by
  have hl : l.length = n := by have := h.1; rw [cells3_len] at this; omega
  rcases h.2 with ⟨hv, hn⟩ | ⟨g, cap, cur, hv, hb, hg, hnc, hcm, hcs, ht⟩
  · injection hv with h1 h2 h3
    subst h1 h2 h3
    exact ⟨hl, Nat.le_refl _, by simp [maxLen], .inl rfl, hok⟩
  · injection hv with h1 h2 h3
    subst h1 h3
    refine ⟨hl, hnc, hcm, .inr ⟨g, 0, rfl, ?_, fun j v hv => ?_⟩, hok⟩
    · rcases Nat.lt_or_ge g w.heap.size with hlt | hge
      · exact hlt
      · rw [Array.getElem?_eq_none hge] at hg; cases hg
    · have add : ∀ j : Nat, (⟨g, 0, none⟩ : Addr).add j = ⟨g, 0 + j, none⟩ := fun j => by by_cases hj : j = 0 <;> simp [Addr.add, hj]
      obtain ⟨a, b, c⟩ := cells3_at hv
      have h1 := h.cells (g := g) rfl (j * 3) _ a
      have h2 := h.cells (g := g) rfl (j * 3 + 1) _ b
      have h3 := h.cells (g := g) rfl (j * 3 + 2) _ c
      rw [add] at h1 h2 h3
      exact ⟨h1, h2, h3⟩

/-- append(out, l...) of values that lie somewhere. -/
theorem append_vals {w : World} {base B n c m c2 ty : Nat} {A A2 : Option Addr} {xs ys : List Vl} (h : w.ownsRow base 57 3 (.slice A n c) n (cells3 xs)) (hy : Vs w B A2 m c2 ys) (hn : n + m ≤ 1000000) (hbase : base ≤ w.heap.size) :
    ∃ A' c' w', (Builtin.append_ #[40, 40] ty #[.slice A n c, .slice A2 m c2]).run Try.prog w = .ok (.slice A' (n + m) c') w' ∧
      w'.ownsRow base 57 3 (.slice A' (n + m) c') (n + m) (cells3 (xs ++ ys)) ∧ Below base w w' ∧ w.grownBy w' (Value.slice A n c).ownBlock := by
  obtain ⟨i, hi, hz, hs, hb⟩ := val_parts
  have hlen := hy.1
  have fin : ∀ (ad : Addr), A2 = some ad → (∀ j u, (cells3 ys)[j]? = some u → w.cell? (ad.add j) = some u) → ∃ A' c' w', (Builtin.append_ #[40, 40] ty #[.slice A n c, .slice A2 m c2]).run Try.prog w = .ok (.slice A' (n + m) c') w' ∧
      w'.ownsRow base 57 3 (.slice A' (n + m) c') (n + m) (cells3 (xs ++ ys)) ∧ Below base w w' ∧ w.grownBy w' (Value.slice A n c).ownBlock := by
    rintro ad rfl hc
    obtain ⟨v', w', hrun, h2, h3, h4⟩ := run_append_own (P := Try.prog) w base 40 ty 57 i _ 3 32 Try.underlying40 hi hz hs hb rfl (by omega) (.slice A n c) n (cells3 xs) h
      ad m c2 (cells3 ys) (by rw [cells3_len, hlen]) hc cells3_one (by unfold maxLen; omega) (by omega) hbase
    have hform : ∃ A' c', v' = .slice A' (n + m) c' := by
      rcases h2.2 with ⟨hv, hz⟩ | ⟨g, cap, cur, hv, _⟩
      · exact ⟨_, _, by rw [hv, hz]⟩
      · exact ⟨_, _, hv⟩
    obtain ⟨A', c', rfl⟩ := hform
    exact ⟨A', c', w', hrun, by rw [cells3_app]; exact h2, (Below.refl base w).grown h3 hbase (fun k hk => (h.lt k hk).1), h3⟩
  rcases hy.2.2.2.1 with h0 | ⟨b, o, e, hb', hc⟩
  · subst h0
    obtain rfl : ys = [] := List.eq_nil_of_length_eq_zero hlen
    rcases A2 with _ | ad
    · exact ⟨A, c, w, append_nil_src Try.underlying40 hi h, by simpa using h, Below.refl _ _, ⟨rfl, rfl, rfl, Nat.le_refl _, fun _ _ _ => rfl⟩⟩
    · exact fin ad rfl (fun j u hu => by simp [cells3] at hu)
  · refine fin _ e fun j u hu => ?_
    have add : ∀ j : Nat, (⟨b, o, none⟩ : Addr).add j = ⟨b, o + j, none⟩ := fun j => by by_cases hj : j = 0 <;> simp [Addr.add, hj]
    rw [add]
    obtain ⟨i', v, hv, hcase⟩ := cells3_of hu
    obtain ⟨c0, c1, c2⟩ := hc i' v hv
    rcases hcase with ⟨rfl, rfl⟩ | ⟨rfl, rfl⟩ | ⟨rfl, rfl⟩
    · exact c0
    · exact c1
    · exact c2

theorem Vs.keep1 {w w' : World} {B n c b o : Nat} {l : List Vl} (h : Vs w B (some ⟨b, o, none⟩) n c l) (hk : w'.heap[b]? = w.heap[b]?) : Vs w' B (some ⟨b, o, none⟩) n c l := by
  obtain ⟨h1, h2, h3, h4, h5⟩ := h
  refine ⟨h1, h2, h3, ?_, h5⟩
  rcases h4 with h4 | ⟨b', o', e, hb, hc⟩
  · exact .inl h4
  · injection e with e
    injection e with e1 e2
    subst e1 e2
    refine .inr ⟨b, o, rfl, hb, fun j v hv => ?_⟩
    obtain ⟨a1, a2, a3⟩ := hc j v hv
    exact ⟨(World.cell?_of_block hk).trans a1, (World.cell?_of_block hk).trans a2, (World.cell?_of_block hk).trans a3⟩

/-- append of values, as a step of a region that draws. -/
theorem step_append_vals {ops : Array Oper} {o : Oper} {a : Act} {w : World} {K : Act → World → Prop} {Q : Exit → Act → World → Prop} {E : Prop}
    {base B n c m c2 : Nat} {A A2 : Option Addr} {xs ys : List Vl} (N : Nat) (zs : List Vl) (hown : w.ownsRow base 57 3 (.slice A n c) n (cells3 xs)) (hsrc : Vs w B A2 m c2 ys) (hN : n + m = N) (hz : xs ++ ys = zs) (hn : N ≤ 1000000) (hbase : base ≤ w.heap.size)
    (hg : o.guard = none) (s x : Operand) (hop : o.op = Op.call { callee := Callee.builtin Builtin.append, args := #[s, x], argTypes := #[40, 40] })
    (hs : a.eval s = .slice A n c) (hx : a.eval x = .slice A2 m c2)
    (hK : ∀ A' c' w', w'.ownsRow base 57 3 (.slice A' N c') N (cells3 zs) → Below base w w' → w.grownBy w' (Value.slice A n c).ownBlock → K (a.put o.dst (.slice A' N c')) w') :
    if Region.wanted o (yielded ops a.tmps) = true then Oper.wp Try.prog o a w K Q else E := by
  subst hN hz
  obtain ⟨A', c', w', hrun, h1, h2, h3⟩ := append_vals (ty := o.type) hown hsrc hn hbase
  exact step_append_run hg s x _ _ hop hs hx hrun (hK A' c' w' h1 h2 h3)
theorem own_e1 (w : World) : (w.alloc (.cells #[] 57)).ownsRow w.heap.size 57 3 (.slice (some ⟨w.heap.size, 0, none⟩) 0 0) 0 (cells3 []) :=
  World.ownsRow_lit w #[] 0 (Nat.le_refl _) (by simp [maxLen]) rfl
theorem own_e2 (w : World) (o : Obj) : ((w.alloc (.cells #[] 57)).alloc o).ownsRow w.heap.size 57 3 (.slice (some ⟨w.heap.size, 0, none⟩) 0 0) 0 (cells3 []) :=
  (own_e1 w).alloc o
theorem own_e3 (w : World) (o : Obj) : ((w.alloc o).alloc (.cells #[] 57)).ownsRow (w.heap.size + 1) 57 3 (.slice (some ⟨w.heap.size + 1, 0, none⟩) 0 0) 0 (cells3 []) := by
  have := own_e1 (w.alloc o)
  rwa [size_al] at this
theorem lit_keep {w w6 : World} {v : Vl} (hv : v.ok) {B : Nat} (g : (((w.alloc (.cells #[] 57)).alloc (.cells #[.int .i64 v.k, .int .i64 v.n, .string v.s] 57)).drew).grownBy w6 (Value.slice (some ⟨w.heap.size, 0, none⟩) 0 B).ownBlock) :
    Vs w6 (w.heap.size + 2) (some ⟨w.heap.size + 1, 0, none⟩) 1 1 [v] := by
  have h := Vs.lit1 (w.alloc (.cells #[] 57)) v hv
  rw [size_al] at h
  refine h.keep1 (g.block _ ?_ ?_)
  · show _ < ((w.alloc _).alloc _).heap.size
    rw [size_al, size_al]
    omega
  · simp [Value.ownBlock]
theorem lit_below {w w6 : World} {v : Vl} (hv : v.ok) (b : Below (w.heap.size + 1) (((w.alloc (.cells #[.int .i64 v.k, .int .i64 v.n, .string v.s] 57)).alloc (.cells #[] 57)).drew) w6) :
    Vs w6 (w.heap.size + 1) (some ⟨w.heap.size, 0, none⟩) 1 1 [v] := by
  have h := Vs.lit1 w v hv
  have e : Below (w.heap.size + 1) (w.alloc (.cells #[.int .i64 v.k, .int .i64 v.n, .string v.s] 57)) ((w.alloc (.cells #[.int .i64 v.k, .int .i64 v.n, .string v.s] 57)).alloc (.cells #[] 57)) :=
    (Below.refl _ _).alloc (by rw [size_al]; exact Nat.le_refl _) _
  exact h.below ((below_drewN e 1).trans b)
theorem own_then {w w' : World} {base size n : Nat} {e : TypeId} {v : Value} {xs : List Value} (h : w.ownsRow base e size v n xs) (hb : Below w.heap.size w w') : w'.ownsRow base e size v n xs :=
  h.kept (row := none) ⟨hb.os, hb.tape, hb.output, hb.size, fun k hk _ => hb.block k hk⟩ (by by_cases hv : v.ownBlock = none; exact .inl hv; exact .inr hv)
theorem size_e3 (w : World) (x y : Obj) : w.heap.size + 1 ≤ (((w.alloc x).alloc y).drew).heap.size := by
  show _ ≤ ((w.alloc x).alloc y).heap.size
  rw [size_al, size_al]
  omega
end Go.Proofs.Ytincnopaclmppaa
