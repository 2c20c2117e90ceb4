/- Tokens as Go has them: in a block of its own, and rows of them; append. -/
import Derived.Test.YtpedfkigneahgaaDoorLexMath
import Derived.Test.YtpedfkigneahgaaDoorMade
import Derived.Deep.RegionLaw
import Derived.Laws.OwnMore
import Derived.Maps.AppendAt
namespace Go.Proofs.YtpedfkigneahgaaDoor
set_option linter.unusedVariables false
open Go.RowKit

def Tk.val (t : Tk) : Value := .agg #[.int .i64 t.k, .int .i64 t.p, .int .i64 t.n, .string t.s]
/-- A token in a block of its own. -/
def Tb (w : World) (g : Nat) (k p n : Int) (s : ByteArray) : Prop := Ob w g 30 #[.int .i64 k, .int .i64 p, .int .i64 n, .string s]
section
variable {w w' : World} {g : Nat} {k p n : Int} {s : ByteArray}
theorem Tb.made (w : World) (k p n : Int) (s : ByteArray) : Tb (w.alloc (.cells #[.int .i64 k, .int .i64 p, .int .i64 n, .string s] 30)) w.heap.size k p n s := Ob.made _ _ _
theorem Tb.lt (h : Tb w g k p n s) : g < w.heap.size := Ob.lt h
theorem Tb.alloc (h : Tb w g k p n s) (o : Obj) : Tb (w.alloc o) g k p n s := Ob.keep h (Below.heap_alloc w o g h.lt)
theorem Tb.then_ (h : Tb w g k p n s) (hb : Below w.heap.size w w') : Tb w' g k p n s := Ob.below h hb h.lt
theorem Tb.below {B : Nat} (h : Tb w g k p n s) (hb : Below B w w') (hg : g < B) : Tb w' g k p n s := Ob.below h hb hg
theorem Tb.only {r : Nat} (h : Tb w g k p n s) (ho : Only r w w') (hg : g ≠ r) : Tb w' g k p n s := Ob.keep h (ho.heap h.lt hg)
theorem Tb.drewN (h : Tb w g k p n s) (j : Nat) : Tb (w.drewN j) g k p n s := h
theorem Tb.c4 (h : Tb w g k p n s) : w.cell? ⟨g, 0, none⟩ = some (.int .i64 k) ∧ w.cell? ⟨g, 1, none⟩ = some (.int .i64 p) ∧ w.cell? ⟨g, 2, none⟩ = some (.int .i64 n) ∧ w.cell? ⟨g, 3, none⟩ = some (.string s) := ⟨Ob.cell h 0, Ob.cell h 1, Ob.cell h 2, Ob.cell h 3⟩
theorem Tb.fz (h : Tb w g k p n s) (i : Nat) : w.frozen? ⟨g, i, none⟩ = false := Ob.frozen h i
theorem Tb.setK (h : Tb w g k p n s) (k' : Int) : Tb (w.setCell ⟨g, 0, none⟩ (.int .i64 k')) g k' p n s := by unfold Tb; simpa using Ob.put h 0 (.int .i64 k')
theorem Tb.setN (h : Tb w g k p n s) (n' : Int) : Tb (w.setCell ⟨g, 2, none⟩ (.int .i64 n')) g k p n' s := by unfold Tb; simpa using Ob.put h 2 (.int .i64 n')
theorem Tb.setS (h : Tb w g k p n s) (s' : ByteArray) : Tb (w.setCell ⟨g, 3, none⟩ (.string s')) g k p n s' := by unfold Tb; simpa using Ob.put h 3 (.string s')
theorem Tb.put (h : Tb w g k p n s) (k' p' n' : Int) (s' : ByteArray) : Tb ((((w.setCell ⟨g, 0, none⟩ (.int .i64 k')).setCell ⟨g, 1, none⟩ (.int .i64 p')).setCell ⟨g, 2, none⟩ (.int .i64 n')).setCell ⟨g, 3, none⟩ (.string s')) g k' p' n' s' := by
  unfold Tb
  simpa using (((Ob.put h 0 (.int .i64 k')).put 1 (.int .i64 p')).put 2 (.int .i64 n')).put 3 (.string s')
end
theorem below_put4 {w0 w : World} {g B : Nat} (h : Below B w0 w) (hg : B ≤ g) (a b c d : Value) : Below B w0 ((((w.setCell ⟨g, 0, none⟩ a).setCell ⟨g, 1, none⟩ b).setCell ⟨g, 2, none⟩ c).setCell ⟨g, 3, none⟩ d) :=
  (((h.setCell (p := ⟨g, 0, none⟩) hg a).setCell (p := ⟨g, 1, none⟩) hg b).setCell (p := ⟨g, 2, none⟩) hg c).setCell (p := ⟨g, 3, none⟩) hg d

def cells4 : List Tk → List Value
  | [] => []
  | t :: r => .int .i64 t.k :: .int .i64 t.p :: .int .i64 t.n :: .string t.s :: cells4 r
theorem cells4_len (l : List Tk) : (cells4 l).length = l.length * 4 := by
  induction l with
  | nil => rfl
  | cons v r ih => simp [cells4, ih]; omega
theorem cells4_app (l m : List Tk) : cells4 (l ++ m) = cells4 l ++ cells4 m := by
  induction l with
  | nil => rfl
  | cons v r ih => simp [cells4, ih]
theorem cells4_one {l : List Tk} : ∀ v ∈ cells4 l, v.oneCell' = true := by
  induction l with
  | nil => intro v hv; cases hv
  | cons x r ih =>
    intro v hv
    simp only [cells4, List.mem_cons] at hv
    rcases hv with rfl | rfl | rfl | rfl | hv
    · rfl
    · rfl
    · rfl
    · rfl
    · exact ih v hv
theorem cells4_at {l : List Tk} {j : Nat} {v : Tk} (h : l[j]? = some v) : (cells4 l)[j * 4]? = some (.int .i64 v.k) ∧ (cells4 l)[j * 4 + 1]? = some (.int .i64 v.p) ∧ (cells4 l)[j * 4 + 2]? = some (.int .i64 v.n) ∧ (cells4 l)[j * 4 + 3]? = some (.string v.s) := by
  induction l generalizing j with
  | nil => simp at h
  | cons x r ih =>
    cases j with
    | zero => simp at h; subst h; exact ⟨rfl, rfl, rfl, rfl⟩
    | succ j =>
      simp at h
      obtain ⟨a, b, c, d⟩ := ih h
      have e : (j + 1) * 4 = j * 4 + 1 + 1 + 1 + 1 := by omega
      rw [e]
      exact ⟨by simpa [cells4] using a, by simpa [cells4] using b, by simpa [cells4] using c, by simpa [cells4] using d⟩

/-- The slice 'A n c' reads as the tokens l; they lie below block B. -/
def Ts (w : World) (B : Nat) (A : Option Addr) (n c : Nat) (l : List Tk) : Prop :=
  l.length = n ∧ n ≤ c ∧ c ≤ maxLen ∧ (n = 0 ∨ ∃ b o, A = some ⟨b, o, none⟩ ∧ b < B ∧ ∀ j v, l[j]? = some v → w.cell? ⟨b, o + j * 4, none⟩ = some (.int .i64 v.k) ∧ w.cell? ⟨b, o + j * 4 + 1, none⟩ = some (.int .i64 v.p) ∧ w.cell? ⟨b, o + j * 4 + 2, none⟩ = some (.int .i64 v.n) ∧ w.cell? ⟨b, o + j * 4 + 3, none⟩ = some (.string v.s))
section
variable {w w' : World} {B B' n c : Nat} {A : Option Addr} {l : List Tk}
theorem Ts.keep (h : Ts w B A n c l) (hk : ∀ k, k < B → w'.heap[k]? = w.heap[k]?) : Ts w' B A n c l := by
  obtain ⟨h1, h2, h3, h4⟩ := h
  refine ⟨h1, h2, h3, ?_⟩
  rcases h4 with h4 | ⟨b, o, e, hb, hc⟩
  · exact .inl h4
  · refine .inr ⟨b, o, e, hb, fun j v hv => ?_⟩
    obtain ⟨a1, a2, a3, a4⟩ := hc j v hv
    exact ⟨(World.cell?_of_block (hk b hb)).trans a1, (World.cell?_of_block (hk b hb)).trans a2, (World.cell?_of_block (hk b hb)).trans a3, (World.cell?_of_block (hk b hb)).trans a4⟩
theorem Ts.below (h : Ts w B A n c l) (hb : Below B w w') : Ts w' B A n c l := h.keep hb.block
theorem Ts.more (h : Ts w B A n c l) (hB : B ≤ B') : Ts w B' A n c l := by
  obtain ⟨h1, h2, h3, h4⟩ := h
  refine ⟨h1, h2, h3, ?_⟩
  rcases h4 with h4 | ⟨b, o, e, hb, hc⟩
  · exact .inl h4
  · exact .inr ⟨b, o, e, by omega, hc⟩
theorem Ts.then_ (h : Ts w w.heap.size A n c l) (hb : Below w.heap.size w w') : Ts w' w'.heap.size A n c l := (h.below hb).more hb.size
theorem Ts.at_ (h : Ts w B A n c l) {k : Nat} (hk : k < n) : ∃ b o v, A = some ⟨b, o, none⟩ ∧ b < B ∧ l[k]? = some v ∧ w.cell? ⟨b, o + k * 4, none⟩ = some (.int .i64 v.k) ∧ w.cell? ⟨b, o + k * 4 + 1, none⟩ = some (.int .i64 v.p) ∧ w.cell? ⟨b, o + k * 4 + 2, none⟩ = some (.int .i64 v.n) ∧ w.cell? ⟨b, o + k * 4 + 3, none⟩ = some (.string v.s) := by
  obtain ⟨h1, h2, h3, h4⟩ := h
  rcases h4 with h4 | ⟨b, o, e, hb, hc⟩
  · omega
  · have hl : k < l.length := by omega
    exact ⟨b, o, l[k], e, hb, List.getElem?_eq_getElem hl, hc k _ (List.getElem?_eq_getElem hl)⟩
theorem Ts.nil_ (w : World) (B : Nat) : Ts w B none 0 0 [] := ⟨rfl, Nat.le_refl _, by simp [maxLen], .inl rfl⟩
end

theorem tokinfo : (Tryd.prog.info? 30).map (fun i => (i.zero, i.size, i.bytes)) = some (some (.agg #[.int .i64 0, .int .i64 0, .int .i64 0, .string ⟨#[]⟩]), 4, 40) := by kernel_rfl
theorem tok_parts : ∃ i, Tryd.prog.info? 30 = some i ∧ i.zero = some (.agg #[.int .i64 0, .int .i64 0, .int .i64 0, .string ⟨#[]⟩]) ∧ i.size = 4 ∧ i.bytes = 40 := by
  have h := tokinfo
  cases hi : Tryd.prog.info? 30 with
  | none => rw [hi] at h; cases h
  | some i =>
    rw [hi] at h
    simp only [Option.map_some, Option.some.injEq, Prod.mk.injEq] at h
    exact ⟨i, rfl, h.1, h.2.1, h.2.2⟩

/-- A row of the call's own reads as its tokens. -/
theorem Ts.of_own {w : World} {base n c : Nat} {A : Option Addr} {l : List Tk} (h : w.ownsRow base 30 4 (.slice A n c) n (cells4 l)) : Ts w w.heap.size A n c l := by
  have hl : l.length = n := by have := h.1; rw [cells4_len] at this; omega
  rcases h.2 with ⟨hv, hn⟩ | ⟨g, cap, cur, hv, hb, hg, hnc, hcm, hcs, ht⟩
  · injection hv with h1 h2 h3
    subst h1 h2 h3
    exact ⟨hl, Nat.le_refl _, by simp [maxLen], .inl rfl⟩
  · injection hv with h1 h2 h3
    subst h1 h3
    refine ⟨hl, hnc, hcm, .inr ⟨g, 0, rfl, ?_, fun j v hv => ?_⟩⟩
    · rcases Nat.lt_or_ge g w.heap.size with hlt | hge
      · exact hlt
      · rw [Array.getElem?_eq_none hge] at hg; cases hg
    · have add : ∀ j : Nat, (⟨g, 0, none⟩ : Addr).add j = ⟨g, 0 + j, none⟩ := fun j => by by_cases hj : j = 0 <;> simp [Addr.add, hj]
      obtain ⟨a, b, c, d⟩ := cells4_at hv
      have h1 := h.cells (g := g) rfl (j * 4) _ a
      have h2 := h.cells (g := g) rfl (j * 4 + 1) _ b
      have h3 := h.cells (g := g) rfl (j * 4 + 2) _ c
      have h4 := h.cells (g := g) rfl (j * 4 + 3) _ d
      rw [add] at h1 h2 h3 h4
      exact ⟨h1, h2, h3, h4⟩

/-- append(l, t) of one token, which has just been laid in a block of its own. -/
theorem append_tok {w : World} {base n c ty : Nat} {A : Option Addr} {xs : List Tk} (h : w.ownsRow base 30 4 (.slice A n c) n (cells4 xs)) (t : Tk) (hn : n ≤ 1000000) (hbase : base ≤ w.heap.size) :
    ∃ A' c' w', (Builtin.append_ #[22, 22] ty #[.slice A n c, .slice (some ⟨w.heap.size, 0, none⟩) 1 1]).run Tryd.prog (w.alloc (.cells #[.int .i64 t.k, .int .i64 t.p, .int .i64 t.n, .string t.s] 30)) = .ok (.slice A' (n + 1) c') w' ∧
      w'.ownsRow base 30 4 (.slice A' (n + 1) c') (n + 1) (cells4 (xs ++ [t])) ∧ Below base w w' := by
  obtain ⟨i, hi, hz, hs, hb⟩ := tok_parts
  have add : ∀ j : Nat, (⟨w.heap.size, 0, none⟩ : Addr).add j = ⟨w.heap.size, 0 + j, none⟩ := fun j => by by_cases hj : j = 0 <;> simp [Addr.add, hj]
  obtain ⟨v', w', hrun, h2, h3, h4⟩ := run_append_own (P := Tryd.prog) (w.alloc (.cells #[.int .i64 t.k, .int .i64 t.p, .int .i64 t.n, .string t.s] 30)) base 22 ty 30 i _ 4 40 Tryd.underlying22 hi hz hs hb rfl (by omega) (.slice A n c) n (cells4 xs) (h.alloc _)
    ⟨w.heap.size, 0, none⟩ 1 1 (cells4 [t]) (by rw [cells4_len]; rfl) (by
      intro j u hu
      rw [add, Nat.zero_add, (Ob.made w 30 #[.int .i64 t.k, .int .i64 t.p, .int .i64 t.n, .string t.s]).cell j]
      simpa [cells4] using hu) cells4_one (by unfold maxLen; omega) (by omega) (by rw [size_al]; omega)
  have hform : ∃ A' c', v' = .slice A' (n + 1) c' := by
    rcases h2.2 with ⟨hv, hz⟩ | ⟨g, cap, cur, hv, _⟩
    · omega
    · exact ⟨_, _, hv⟩
  obtain ⟨A', c', rfl⟩ := hform
  refine ⟨A', c', w', hrun, by rw [cells4_app]; exact h2, ?_⟩
  refine ((Below.refl base w).alloc hbase _).grown h3 (by rw [size_al]; omega) (fun k hk => ?_)
  exact (h.lt k hk).1
theorem own_tok {w w' : World} {base size n : Nat} {e : TypeId} {v : Value} {xs : List Value} (h : w.ownsRow base e size v n xs) (hb : Below w.heap.size w w') : w'.ownsRow base e size v n xs :=
  h.kept (row := none) ⟨hb.os, hb.tape, hb.output, hb.size, fun k hk _ => hb.block k hk⟩ (by by_cases hv : v.ownBlock = none; exact .inl hv; exact .inr hv)
/-- .. kept by what changes one block below its own. -/
theorem own_only {w w' : World} {base size n r : Nat} {e : TypeId} {v : Value} {xs : List Value} (h : w.ownsRow base e size v n xs) (hb : Only r w w') (hr : r < base) : w'.ownsRow base e size v n xs :=
  h.kept (row := some r) hb (.inr fun hh => by have := (h.lt r hh).1; omega)
end Go.Proofs.YtpedfkigneahgaaDoor
