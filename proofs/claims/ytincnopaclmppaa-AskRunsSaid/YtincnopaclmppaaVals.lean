/- Lists of values: bags. -/
import Derived.Test.YtincnopaclmppaaVRight
import Derived.Test.YtincnopaclmppaaVEq
import Derived.Test.YtincnopaclmppaaVGrown
import Derived.Test.YtincnopaclmppaaOpenVal
import Derived.Deep.Slices
namespace Go.Proofs.Ytincnopaclmppaa
set_option linter.unusedVariables false
open Go.RowKit Go.Sort

/-- The slice 'A n c' reads as the values l; they lie below block B. -/
def Vs (w : World) (B : Nat) (A : Option Addr) (n c : Nat) (l : List Vl) : Prop :=
  l.length = n ∧ n ≤ c ∧ c ≤ maxLen ∧ (n = 0 ∨ ∃ b o, A = some ⟨b, o, none⟩ ∧ b < B ∧ ∀ j v, l[j]? = some v → w.cell? ⟨b, o + j * 3, none⟩ = some (.int .i64 v.k) ∧ w.cell? ⟨b, o + j * 3 + 1, none⟩ = some (.int .i64 v.n) ∧ w.cell? ⟨b, o + j * 3 + 2, none⟩ = some (.string v.s)) ∧ ∀ v ∈ l, v.ok
section
variable {w w' : World} {B B' n c : Nat} {A : Option Addr} {l : List Vl}
theorem Vs.keep (h : Vs w B A n c l) (hk : ∀ k, k < B → w'.heap[k]? = w.heap[k]?) : Vs w' B A n c l := by
  obtain ⟨h1, h2, h3, h4, h5⟩ := h
  refine ⟨h1, h2, h3, ?_, h5⟩
  rcases h4 with h4 | ⟨b, o, e, hb, hc⟩
  · exact .inl h4
  · refine .inr ⟨b, o, e, hb, fun j v hv => ?_⟩
    obtain ⟨a1, a2, a3⟩ := hc j v hv
    exact ⟨(World.cell?_of_block (hk b hb)).trans a1, (World.cell?_of_block (hk b hb)).trans a2, (World.cell?_of_block (hk b hb)).trans a3⟩
theorem Vs.below (h : Vs w B A n c l) (hb : Below B w w') : Vs w' B A n c l := h.keep hb.block
theorem Vs.more (h : Vs w B A n c l) (hB : B ≤ B') : Vs w B' A n c l := by
  obtain ⟨h1, h2, h3, h4, h5⟩ := h
  refine ⟨h1, h2, h3, ?_, h5⟩
  rcases h4 with h4 | ⟨b, o, e, hb, hc⟩
  · exact .inl h4
  · exact .inr ⟨b, o, e, by omega, hc⟩
theorem Vs.then_ (h : Vs w w.heap.size A n c l) (hb : Below w.heap.size w w') : Vs w' w'.heap.size A n c l := (h.below hb).more hb.size
theorem Vs.at_ (h : Vs w B A n c l) {k : Nat} (hk : k < n) : ∃ b o v, A = some ⟨b, o, none⟩ ∧ b < B ∧ l[k]? = some v ∧ v.ok ∧ w.cell? ⟨b, o + k * 3, none⟩ = some (.int .i64 v.k) ∧ w.cell? ⟨b, o + k * 3 + 1, none⟩ = some (.int .i64 v.n) ∧ w.cell? ⟨b, o + k * 3 + 2, none⟩ = some (.string v.s) := by
  obtain ⟨h1, h2, h3, h4, h5⟩ := h
  rcases h4 with h4 | ⟨b, o, e, hb, hc⟩
  · omega
  · have hl : k < l.length := by omega
    exact ⟨b, o, l[k], e, hb, List.getElem?_eq_getElem hl, h5 _ (List.getElem_mem hl), hc k _ (List.getElem?_eq_getElem hl)⟩
theorem Vs.take (h : Vs w B A n c l) {k : Nat} (hk : k ≤ n) : Vs w B A k c (l.take k) := by
  obtain ⟨h1, h2, h3, h4, h5⟩ := h
  refine ⟨by rw [List.length_take]; omega, by omega, h3, ?_, fun v hv => h5 v (List.mem_of_mem_take hv)⟩
  rcases h4 with h4 | ⟨b, o, e, hb, hc⟩
  · left; omega
  · refine .inr ⟨b, o, e, hb, fun j u hu => hc j u ?_⟩
    rw [List.getElem?_take] at hu
    split at hu
    · exact hu
    · cases hu
theorem Vs.drop (h : Vs w B A n c l) {k : Nat} (hk : k ≤ n) : Vs w B (if c = k then A else A.map (·.add (k * 3))) (n - k) (c - k) (l.drop k) := by
  obtain ⟨h1, h2, h3, h4, h5⟩ := h
  refine ⟨by rw [List.length_drop]; omega, by omega, by omega, ?_, fun v hv => h5 v (List.mem_of_mem_drop hv)⟩
  rcases h4 with h4 | ⟨b, o, e, hb, hc⟩
  · left; omega
  · by_cases hn : n = k
    · left; omega
    · right
      subst e
      rw [if_neg (by omega)]
      refine ⟨b, o + k * 3, ?_, hb, fun j u hu => ?_⟩
      · have e3 : k * 3 = 0 ↔ k = 0 := by omega
        by_cases hk0 : k = 0
        · subst hk0; simp [Addr.add]
        · have hk3 : ¬ k * 3 = 0 := by omega
          simp [Addr.add, hk3]
      · have := hc (k + j) u (by rw [← hu, List.getElem?_drop])
        have e : o + k * 3 + j * 3 = o + (k + j) * 3 := by rw [Nat.add_mul]; omega
        rw [e]
        exact this
end

/-- P3.2. -/
def hasB (l : List Vl) (v : Vl) : Bool := l.any fun x => veq x v
def bagB (l : List Vl) : Bool := decide (l.length ≤ 16) && l.all fun v => decide v.right && decide (v.k = ((l.head?).map Vl.k).getD 0)

theorem has_true {l : List Vl} {v x : Vl} {k : Nat} (h : l[k]? = some x) (he : veq x v = true) : hasB l v = true := by
  unfold hasB
  rw [List.any_eq_true]
  exact ⟨x, List.mem_of_getElem? h, he⟩
def HasTo (l : List Vl) (v : Vl) (k : Nat) : Prop := ∀ j x, l[j]? = some x → j < k → veq x v = false
theorem HasTo.step {l : List Vl} {v x : Vl} {k : Nat} (h : HasTo l v k) (hx : l[k]? = some x) (he : veq x v = false) : HasTo l v (k + 1) := fun j y hy hj => by
  by_cases e : j = k
  · subst e
    obtain rfl := Option.some.inj (hx.symm.trans hy)
    exact he
  · exact h j y hy (by omega)
theorem HasTo.all {l : List Vl} {v : Vl} {n : Nat} (h : HasTo l v n) (hn : l.length = n) : hasB l v = false := by
  unfold hasB
  rw [List.any_eq_false]
  intro x hx
  obtain ⟨j, hj, e⟩ := List.getElem_of_mem hx
  rw [h j x (by rw [List.getElem?_eq_getElem hj, e]) (by omega)]
  simp
def BagTo (l : List Vl) (k : Nat) : Prop := ∀ j x, l[j]? = some x → j < k → x.right ∧ ∀ y, l[0]? = some y → x.k = y.k
theorem BagTo.step {l : List Vl} {x y : Vl} {k : Nat} (h : BagTo l k) (hx : l[k]? = some x) (hr : x.right) (hy : l[0]? = some y) (hk : x.k = y.k) : BagTo l (k + 1) := fun j z hz hj => by
  by_cases e : j = k
  · subst e
    obtain rfl := Option.some.inj (hx.symm.trans hz)
    exact ⟨hr, fun u hu => by obtain rfl := Option.some.inj (hy.symm.trans hu); exact hk⟩
  · exact h j z hz (by omega)
theorem BagTo.all {l : List Vl} {n : Nat} (h : BagTo l n) (hn : l.length = n) : bagB l = decide (n ≤ 16) := by
  unfold bagB
  rw [hn]
  have : (l.all fun v => decide v.right && decide (v.k = ((l.head?).map Vl.k).getD 0)) = true := by
    rw [List.all_eq_true]
    intro x hx
    obtain ⟨j, hj, e⟩ := List.getElem_of_mem hx
    obtain ⟨h1, h2⟩ := h j x (by rw [List.getElem?_eq_getElem hj, e]) (by omega)
    cases l with
    | nil => cases hx
    | cons y l =>
      have := h2 y rfl
      simp [h1, this]
  rw [this, Bool.and_true]
theorem bag_bad {l : List Vl} {x y : Vl} {k : Nat} (hx : l[k]? = some x) (hy : l[0]? = some y) (h : ¬ x.right ∨ x.k ≠ y.k) : bagB l = false := by
  rw [← Bool.not_eq_true]
  intro hb
  unfold bagB at hb
  rw [Bool.and_eq_true, List.all_eq_true] at hb
  have := hb.2 x (List.mem_of_getElem? hx)
  cases l with
  | nil => simp at hy
  | cons z l =>
    simp at hy
    subst hy
    simp at this
    rcases h with h | h
    · exact h this.1
    · exact h (of_decide_eq_true this.2)
theorem bag_same {v : Vl} (h : v.right) : bagB [v, v] = true := by unfold bagB; simp [h]
theorem has_one {a b : Vl} (h : a ≠ b) : hasB [a] b = false := by unfold hasB; simp [veq_false h]
theorem has_nil {b : Vl} : hasB [] b = false := rfl
theorem bag_nil : bagB [] = true := rfl
theorem Vs.lit1 (w : World) (a : Vl) (ha : a.ok) : Vs (w.alloc (.cells #[.int .i64 a.k, .int .i64 a.n, .string a.s] 57)) (w.heap.size + 1) (some ⟨w.heap.size, 0, none⟩) 1 1 [a] := by
  refine ⟨rfl, Nat.le_refl _, by simp [maxLen], .inr ⟨w.heap.size, 0, rfl, by omega, fun j v hv => ?_⟩, by simpa using ha⟩
  match j, hv with
  | 0, hv => simp at hv; subst hv; exact ⟨(Ob.made w _ _).cell 0, (Ob.made w _ _).cell 1, (Ob.made w _ _).cell 2⟩
  | j + 1, hv => simp at hv
theorem Vs.lit2 (w : World) (a b : Vl) (ha : a.ok) (hb : b.ok) : Vs (w.alloc (.cells #[.int .i64 a.k, .int .i64 a.n, .string a.s, .int .i64 b.k, .int .i64 b.n, .string b.s] 57)) (w.heap.size + 1) (some ⟨w.heap.size, 0, none⟩) 2 2 [a, b] := by
  refine ⟨rfl, Nat.le_refl _, by simp [maxLen], .inr ⟨w.heap.size, 0, rfl, by omega, fun j v hv => ?_⟩, by simpa using ⟨ha, hb⟩⟩
  match j, hv with
  | 0, hv => simp at hv; subst hv; exact ⟨(Ob.made w _ _).cell 0, (Ob.made w _ _).cell 1, (Ob.made w _ _).cell 2⟩
  | 1, hv => simp at hv; subst hv; exact ⟨(Ob.made w _ _).cell 3, (Ob.made w _ _).cell 4, (Ob.made w _ _).cell 5⟩
  | j + 2, hv => simp at hv
theorem Vs.nil_ (w : World) (B : Nat) : Vs w B none 0 0 [] := ⟨rfl, Nat.le_refl _, by simp [maxLen], .inl rfl, by simp⟩
theorem bag_long {l : List Vl} (h : ¬ l.length ≤ 16) : bagB l = false := by unfold bagB; rw [decide_eq_false h]; rfl
end Go.Proofs.Ytincnopaclmppaa
