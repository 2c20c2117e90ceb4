/- Several texts in one: QTail, VGrown, OpenVal, Vals, VBag, AskMath, FunMath, VLess. -/
import Derived.StillTail
import Derived.Lib.QuietBelow
import Derived.BigQuiet
import Derived.Test.YtmoglaknmlhpgaaGreatDoorOnlA
import Derived.Lib.SmallJoins
import Derived.ProofKit
import Derived.OpenShut
import Derived.Deep.Slices
/- A region that draws its order, ends in a forced row of operations (stores), and ahead of them only reads and calls that lay new memory: walked once, in the order of the text; the tail is walked as any list, in every world of the class. -/
namespace Go.Proofs.YtmoglaknmlhpgaaGreatDoor
open Go Go.RowKit Go.Sort

section
variable {P : Program} {ops : Array Oper} {md : Region.Mode} {C : World → Prop}

def HeadQ (P : Program) (md : Region.Mode) (ops : Array Oper) (C : World → Prop) (n : Nat) (L : Array Bool → Act → Prop) : Nat → Array Bool → Act → Prop
 | 0, listed, a => L listed a
 | f + 1, listed, a => Region.ready md ops listed ≠ [] ∧ ∀ i ∈ Region.ready md ops listed, i < n ∧ qOp P ops C i (HeadQ P md ops C n L f (listed.setIfInBounds i true)) a

theorem HeadQ.any {n g : Nat} {L : Array Bool → Act → Prop} {Q : Exit → Act → World → Prop} (hL : ∀ listed a w, C w → L listed a → wpAny P md ops Q g listed a w) :
  ∀ (f : Nat) (listed : Array Bool) (a : Act) (w : World), C w → HeadQ P md ops C n L f listed a → wpAny P md ops Q (f + g) listed a w
 | 0, _, _, _, hw, h => by rw [Nat.zero_add]; exact hL _ _ _ hw h
 | f + 1, _, _, _, hw, h => by
  rw [show f + 1 + g = (f + g) + 1 by omega]
  exact ⟨fun h0 => absurd h0 h.1, fun i hi => wpOp_of_qOp hw (fun a' w' hw' h' => HeadQ.any hL f _ a' w' hw' h') (h.2 i hi).2⟩

theorem HeadQ.first {n i : Nat} {oi : Oper} {v : Value} {L : Array Bool → Act → Prop} (hi : ops[i]? = some oi) (hsel : ∀ (j : Nat) (o : Oper) cs b, ops[j]? = some o → o.op ≠ .select cs b)
  (hs : Region.sinkB md ops n = true) (hc : Region.chainB md ops n = true) (hn : n < ops.size) (hin : i < n) (hdone : ∀ listed a, L listed a → ∀ j ∈ Region.ready md ops listed, n ≤ j) :
  ∀ (f : Nat) (listed : Array Bool) (a : Act), HeadInv md ops n listed →
   (∀ j oj, ops[j]? = some oj → j ≠ i → listed.getD j true = false → (∀ e ∈ oj.after, Region.binds md e = true → e.on ≠ i) → oi.apart ops oj = true) →
   i ∈ Region.ready md ops listed → YieldsIn P ops C oi v a → HeadQ P md ops C n L f (listed.setIfInBounds i true) (a.put oi.dst v) → HeadQ P md ops C n L (f + 1) listed a := by
 intro f
 induction f with
 | zero =>
  intro listed a inv _ hr hy H
  refine ⟨fun h => (by rw [h] at hr; cases hr), fun j hj => ?_⟩
  have hjn : j < n := Nat.lt_of_not_le fun h => tail_waits hs hc hn inv _ i rfl hin (mem_ready.1 hr).1 j h hj
  refine ⟨hjn, ?_⟩
  by_cases hji : j = i
  ·subst hji; exact hy.qOp hi H
  ·have := hdone _ _ H j (ready_mono hj hji)
   omega
 | succ f ih =>
  intro listed a inv hfree hr hy H
  have hun := (mem_ready.1 hr).1
  refine ⟨fun h => (by rw [h] at hr; cases hr), fun j hj => ?_⟩
  have hjn : j < n := Nat.lt_of_not_le fun h => tail_waits hs hc hn inv _ i rfl hin hun j h hj
  refine ⟨hjn, ?_⟩
  by_cases hji : j = i
  ·subst hji; exact hy.qOp hi H
  ·have h1 := (H.2 j (ready_mono hj hji)).2
   obtain ⟨hjun, oj, hoj, hall⟩ := mem_ready.1 hj
   have hnot : ∀ e ∈ oj.after, Region.binds md e = true → e.on ≠ i := fun e he hb heq => by
    have h1 := hall e he hb
    rw [heq, getD_both hun] at h1
    cases h1
   have h2 := qOp_put hoj (hfree j oj hoj hji hjun hnot) (fun cs b => hsel i oi cs b hi) (fun cs b => hsel j oj cs b hoj) hy h1
   refine qOp_mono (fun a' h3 => ih (listed.setIfInBounds j true) a' (inv.set hj hjn) ?_ (ready_mono hr (Ne.symm hji)) h3.1 ?_) h2
   ·intro k ok hk hki hun' hno
    refine hfree k ok hk hki ?_ hno
    by_cases hjk : j = k
    ·subst hjk; exact hjun
    ·rw [getD_set_ne true hjk] at hun'; exact hun'
   ·rw [Array.setIfInBounds_comm _ _ hji]
    exact h3.2

theorem HeadQ.lex {n g : Nat} {Lq : Act → Prop} (hsel : Region.noSelect ops = true) (hs : Region.sinkB md ops n = true) (hc : Region.chainB md ops n = true) (hn : n < ops.size) :
  ∀ (l : List Oper) (k : Nat) (listed : Array Bool) (a : Act), (∀ j, j < l.length → l[j]? = ops[k + j]?) → k + l.length = n → HeadInv md ops n listed →
  Region.lexHead md ops g l.length k listed = true → wpQuiet P ops C Lq l a → HeadQ P md ops C n (fun listed' a' => Region.seqB md ops g n listed' = true ∧ Lq a') l.length listed a
 | [], k, listed, a, _, hk, _, hB, h => by
  have : k = n := by simpa using hk
  subst this
  exact ⟨by simpa [Region.lexHead] using hB, h⟩
 | o :: l, k, listed, a, hl, hk, inv, hB, h => by
  have h0 : ops[k]? = some o := by simpa using (hl 0 (by simp)).symm
  simp only [List.length_cons, Region.lexHead, Bool.and_eq_true] at hB
  obtain ⟨⟨hr, hf⟩, hB'⟩ := hB
  have hkn : k < n := by simp only [List.length_cons] at hk; omega
  have hr' : k ∈ Region.ready md ops listed := by simpa using hr
  have hst : qOp P ops C k (wpQuiet P ops C Lq l) a := by unfold qOp; simp only [h0]; exact h
  obtain ⟨v, hy, hK⟩ := yieldsIn_of_qOp h0 hst
  exact HeadQ.first h0 (Region.noSelect_spec hsel) hs hc hn hkn (fun listed' a' hL => seqB_ready hL.1) l.length listed a inv (Region.free_spec h0 hf) hr' hy
   (HeadQ.lex hsel hs hc hn l (k + 1) _ _ (fun j hj => by have := hl (j + 1) (by simp; omega); simpa [Nat.add_assoc, Nat.add_comm 1 j] using this) (by simp only [List.length_cons] at hk; omega) (inv.set hr' hkn) hB' hK)

theorem wp_region_quiet_tail {id : Nat} {Q : Exit → Act → World → Prop} {a : Act} {w : World} {l : List Oper} (n : Nat) (hm : P.follows .mixedOrders = true) (hB : Region.lexTailB .any l.toArray n = true) (hC : C { w with drawn := w.drawn + 1 })
  (h : wpQuiet P l.toArray C (fun a' => ∀ w', C w' → wpList P l.toArray Q (l.drop n) a' w') (l.take n) a) : (Code.region id l.toArray true).wp P Q a w := by
 simp only [Region.lexTailB, Bool.and_eq_true, decide_eq_true_eq] at hB
 obtain ⟨⟨⟨⟨hsel, hn⟩, hs⟩, hc⟩, hlex⟩ := hB
 have hn' : n < l.length := by simpa using hn
 have htl : (l.take n).length = n := by simp; omega
 have hdl : (l.drop n).length = l.toArray.size - n := by simp
 have inv0 : HeadInv .any l.toArray n (Array.replicate l.toArray.size false) :=
  ⟨by simp, fun j oj _ hl => (by rw [getD_replicate_false] at hl; cases hl), fun t _ ht => getD_in (by simpa using ht) (getD_replicate_false _ _)⟩
 have H := HeadQ.lex (md := .any) (g := l.toArray.size - n) hsel hs hc hn (l.take n) 0 _ a (fun j hj => by
  have hj' : j < n := by rw [htl] at hj; exact hj
  simp [hj']) (by simpa using htl) inv0 (by rw [htl]; exact hlex) h
 refine wp_region_any hm ?_
 have := HeadQ.any (Q := Q) (g := l.toArray.size - n) (fun listed a' w' hw' hL => by
  have := wpAny_of_seq (md := .any) (Q' := Q) (l.drop n) n listed a' w' (fun j => by simp [List.getElem?_drop]) (by rw [hdl]; exact hL.1) (hL.2 w' hw')
  rwa [hdl] at this) _ _ _ _ hC H
 rw [htl, show n + (l.toArray.size - n) = l.toArray.size by omega] at this
 exact this

theorem wp_region_below_tail {id : Nat} {Q : Exit → Act → World → Prop} {a : Act} {w : World} {l : List Oper} (n : Nat) (hm : P.follows .mixedOrders = true) (hB : Region.lexTailB .any l.toArray n = true)
  (h : wpQuiet P l.toArray (fun w' => ∃ p : Regrown, w' = grow (redrawn w p.d) p.os) (fun a' => ∀ w', (∃ p : Regrown, w' = grow (redrawn w p.d) p.os) → wpList P l.toArray Q (l.drop n) a' w') (l.take n) a) : (Code.region id l.toArray true).wp P Q a w :=
 wp_region_quiet_tail n hm hB ⟨⟨w.drawn + 1, #[]⟩, by rw [grow_empty]; rfl⟩ h
end
end Go.Proofs.YtmoglaknmlhpgaaGreatDoor
/- A value in its block, in worlds that have but grown. -/
namespace Go.Proofs.YtmoglaknmlhpgaaGreatDoor
open Go.RowKit Go.Sort

theorem Bx.grown {w : World} {g : Nat} {k n : Int} {s : ByteArray} (h : Bx w g k n s) : (∀ d os, (grow (redrawn w d) os).cell? ⟨g, 0, none⟩ = some (.int .i64 k)) ∧ (∀ d os, (grow (redrawn w d) os).cell? ⟨g, 1, none⟩ = some (.int .i64 n)) ∧ ∀ d os, (grow (redrawn w d) os).cell? ⟨g, 2, none⟩ = some (.string s) :=
 ⟨fun d os => cell_regrown h.c3.1 d os, fun d os => cell_regrown h.c3.2.1 d os, fun d os => cell_regrown h.c3.2.2 d os⟩
end Go.Proofs.YtmoglaknmlhpgaaGreatDoor
/- Values that come in. -/
namespace Go.Proofs.YtmoglaknmlhpgaaGreatDoor
set_option linter.unusedVariables false
open Go.RowKit Go.ChangeShapes Go.WideShapes

set_option maxRecDepth 100000 in
theorem open_val {H : Type} {enc : TypeId × Value → H} {w : World} {base : Nat} {spare : Nat → Bool} {held : Bool} {r : Reach} {b0 : Nat} {v : Value} {d : DataW H} {p : List MemPlace}
  (hv : Value.okWide Tryz.prog w r b0 31 v) (h : DataW.Trod enc Tryz.prog w base spare held 31 v d p) : ∃ a : Vl, v = a.val ∧ a.ok := by
 obtain ⟨v0, v1, v2, y0, y1, y2, n, rfl, _, _, h0, h1, h2⟩ := Joins.open_agg3 Tryz.underlying31 (by kernel_rfl) (by kernel_rfl) hv h
 obtain ⟨x0, e0, _, w0⟩ := DataW.trod_int Tryz.underlying3 h0
 obtain ⟨x1, e1, _, w1⟩ := DataW.trod_int Tryz.underlying3 h1
 obtain ⟨x2, e2, _, w2⟩ := DataW.trod_string Tryz.underlying9 h2
 injection e0 with e0
 injection e1 with e1
 injection e2 with e2
 subst e0 e1 e2
 exact ⟨⟨x0, x1, x2⟩, rfl, wf_bounds w0, wf_bounds w1, w2⟩
end Go.Proofs.YtmoglaknmlhpgaaGreatDoor
/- Lists of values: bags. -/
namespace Go.Proofs.YtmoglaknmlhpgaaGreatDoor
set_option linter.unusedVariables false
open Go.RowKit Go.Sort

def Vs (w : World) (B : Nat) (A : Option Addr) (n c : Nat) (l : List Vl) : Prop :=
 l.length = n ∧ n ≤ c ∧ c ≤ maxLen ∧ (n = 0 ∨ ∃ b o, A = some ⟨b, o, none⟩ ∧ b < B ∧ ∀ j v, l[j]? = some v → w.cell? ⟨b, o + j * 3, none⟩ = some (.int .i64 v.k) ∧ w.cell? ⟨b, o + j * 3 + 1, none⟩ = some (.int .i64 v.n) ∧ w.cell? ⟨b, o + j * 3 + 2, none⟩ = some (.string v.s)) ∧ ∀ v ∈ l, v.ok
section
variable {w w' : World} {B B' n c : Nat} {A : Option Addr} {l : List Vl}
theorem Vs.keep (h : Vs w B A n c l) (hk : ∀ k, k < B → w'.heap[k]? = w.heap[k]?) : Vs w' B A n c l := by
 obtain ⟨h1, h2, h3, h4, h5⟩ := h
 refine ⟨h1, h2, h3, ?_, h5⟩
 rcases h4 with h4 | ⟨b, o, e, hb, hc⟩
 ·exact .inl h4
 ·refine .inr ⟨b, o, e, hb, fun j v hv => ?_⟩
  obtain ⟨a1, a2, a3⟩ := hc j v hv
  exact ⟨(World.cell?_of_block (hk b hb)).trans a1, (World.cell?_of_block (hk b hb)).trans a2, (World.cell?_of_block (hk b hb)).trans a3⟩
theorem Vs.below (h : Vs w B A n c l) (hb : Below B w w') : Vs w' B A n c l := h.keep hb.block
theorem Vs.more (h : Vs w B A n c l) (hB : B ≤ B') : Vs w B' A n c l := by
 obtain ⟨h1, h2, h3, h4, h5⟩ := h
 refine ⟨h1, h2, h3, ?_, h5⟩
 rcases h4 with h4 | ⟨b, o, e, hb, hc⟩
 ·exact .inl h4
 ·exact .inr ⟨b, o, e, by omega, hc⟩
theorem Vs.then_ (h : Vs w w.heap.size A n c l) (hb : Below w.heap.size w w') : Vs w' w'.heap.size A n c l := (h.below hb).more hb.size
theorem Vs.at_ (h : Vs w B A n c l) {k : Nat} (hk : k < n) : ∃ b o v, A = some ⟨b, o, none⟩ ∧ b < B ∧ l[k]? = some v ∧ v.ok ∧ w.cell? ⟨b, o + k * 3, none⟩ = some (.int .i64 v.k) ∧ w.cell? ⟨b, o + k * 3 + 1, none⟩ = some (.int .i64 v.n) ∧ w.cell? ⟨b, o + k * 3 + 2, none⟩ = some (.string v.s) := by
 obtain ⟨h1, h2, h3, h4, h5⟩ := h
 rcases h4 with h4 | ⟨b, o, e, hb, hc⟩
 ·omega
 ·have hl : k < l.length := by omega
  exact ⟨b, o, l[k], e, hb, List.getElem?_eq_getElem hl, h5 _ (List.getElem_mem hl), hc k _ (List.getElem?_eq_getElem hl)⟩
theorem Vs.take (h : Vs w B A n c l) {k : Nat} (hk : k ≤ n) : Vs w B A k c (l.take k) := by
 obtain ⟨h1, h2, h3, h4, h5⟩ := h
 refine ⟨by rw [List.length_take]; omega, by omega, h3, ?_, fun v hv => h5 v (List.mem_of_mem_take hv)⟩
 rcases h4 with h4 | ⟨b, o, e, hb, hc⟩
 ·left; omega
 ·refine .inr ⟨b, o, e, hb, fun j u hu => hc j u ?_⟩
  rw [List.getElem?_take] at hu
  split at hu
  ·exact hu
  ·cases hu
theorem Vs.drop (h : Vs w B A n c l) {k : Nat} (hk : k ≤ n) : Vs w B (if c = k then A else A.map (·.add (k * 3))) (n - k) (c - k) (l.drop k) := by
 obtain ⟨h1, h2, h3, h4, h5⟩ := h
 refine ⟨by rw [List.length_drop]; omega, by omega, by omega, ?_, fun v hv => h5 v (List.mem_of_mem_drop hv)⟩
 rcases h4 with h4 | ⟨b, o, e, hb, hc⟩
 ·left; omega
 ·by_cases hn : n = k
  ·left; omega
  ·right
   subst e
   rw [if_neg (by omega)]
   refine ⟨b, o + k * 3, ?_, hb, fun j u hu => ?_⟩
   ·have e3 : k * 3 = 0 ↔ k = 0 := by omega
    by_cases hk0 : k = 0
    ·subst hk0; simp [Addr.add]
    ·have hk3 : ¬ k * 3 = 0 := by omega
     simp [Addr.add, hk3]
   ·have := hc (k + j) u (by rw [← hu, List.getElem?_drop])
    have e : o + k * 3 + j * 3 = o + (k + j) * 3 := by rw [Nat.add_mul]; omega
    rw [e]
    exact this
end

def hasB (l : List Vl) (v : Vl) : Bool := l.any fun x => veq x v
def bagB (l : List Vl) : Bool := decide (l.length ≤ 16) && l.all fun v => decide v.right && decide (v.k = ((l.head?).map Vl.k).getD 0)

theorem has_true {l : List Vl} {v x : Vl} {k : Nat} (h : l[k]? = some x) (he : veq x v = true) : hasB l v = true := by
 unfold hasB
 rw [List.any_eq_true]
 exact ⟨x, List.mem_of_getElem? h, he⟩
def HasTo (l : List Vl) (v : Vl) (k : Nat) : Prop := ∀ j x, l[j]? = some x → j < k → veq x v = false
theorem HasTo.step {l : List Vl} {v x : Vl} {k : Nat} (h : HasTo l v k) (hx : l[k]? = some x) (he : veq x v = false) : HasTo l v (k + 1) := fun j y hy hj => by
 by_cases e : j = k
 ·subst e
  obtain rfl := Option.some.inj (hx.symm.trans hy)
  exact he
 ·exact h j y hy (by omega)
theorem HasTo.all {l : List Vl} {v : Vl} {n : Nat} (h : HasTo l v n) (hn : l.length = n) : hasB l v = false := by
 unfold hasB
 rw [List.any_eq_false]
 intro x hx
 obtain ⟨j, hj, e⟩ := List.getElem_of_mem hx
 rw [h j x (by rw [List.getElem?_eq_getElem hj, e]) (by omega)]
 simp
def BagTo (l : List Vl) (k : Nat) : Prop := ∀ j x, l[j]? = some x → j < k → x.right ∧ ∀ y, l[0]? = some y → x.k = y.k
theorem BagTo.step {l : List Vl} {x y : Vl} {k : Nat} (h : BagTo l k) (hx : l[k]? = some x) (hr : x.right) (hy : l[0]? = some y) (hk : x.k = y.k) : BagTo l (k + 1) := fun j z hz hj => by
 by_cases e : j = k
 ·subst e
  obtain rfl := Option.some.inj (hx.symm.trans hz)
  exact ⟨hr, fun u hu => by obtain rfl := Option.some.inj (hy.symm.trans hu); exact hk⟩
 ·exact h j z hz (by omega)
theorem BagTo.all {l : List Vl} {n : Nat} (h : BagTo l n) (hn : l.length = n) : bagB l = decide (n ≤ 16) := by
 unfold bagB
 rw [hn]
 have : (l.all fun v => decide v.right && decide (v.k = ((l.head?).map Vl.k).getD 0)) = true := by
  rw [List.all_eq_true]
  intro x hx
  obtain ⟨j, hj, e⟩ := List.getElem_of_mem hx
  obtain ⟨h1, h2⟩ := h j x (by rw [List.getElem?_eq_getElem hj, e]) (by omega)
  cases l with
  | nil => cases hx
  | cons y l =>
   have := h2 y rfl
   simp [h1, this]
 rw [this, Bool.and_true]
theorem bag_bad {l : List Vl} {x y : Vl} {k : Nat} (hx : l[k]? = some x) (hy : l[0]? = some y) (h : ¬ x.right ∨ x.k ≠ y.k) : bagB l = false := by
 rw [← Bool.not_eq_true]
 intro hb
 unfold bagB at hb
 rw [Bool.and_eq_true, List.all_eq_true] at hb
 have := hb.2 x (List.mem_of_getElem? hx)
 cases l with
 | nil => simp at hy
 | cons z l =>
  simp at hy
  subst hy
  simp at this
  rcases h with h | h
  ·exact h this.1
  ·exact h (of_decide_eq_true this.2)
theorem Vs.lit1 (w : World) (a : Vl) (ha : a.ok) : Vs (w.alloc (.cells #[.int .i64 a.k, .int .i64 a.n, .string a.s] 31)) (w.heap.size + 1) (some ⟨w.heap.size, 0, none⟩) 1 1 [a] := by
 refine ⟨rfl, Nat.le_refl _, by simp [maxLen], .inr ⟨w.heap.size, 0, rfl, by omega, fun j v hv => ?_⟩, by simpa using ha⟩
 match j, hv with
 | 0, hv => simp at hv; subst hv; exact ⟨(Ob.made w _ _).cell 0, (Ob.made w _ _).cell 1, (Ob.made w _ _).cell 2⟩
 | j + 1, hv => simp at hv
theorem Vs.nil_ (w : World) (B : Nat) : Vs w B none 0 0 [] := ⟨rfl, Nat.le_refl _, by simp [maxLen], .inl rfl, by simp⟩
theorem bag_long {l : List Vl} (h : ¬ l.length ≤ 16) : bagB l = false := by unfold bagB; rw [decide_eq_false h]; rfl
end Go.Proofs.YtmoglaknmlhpgaaGreatDoor
/- Bag: the project's and the reference's. -/
namespace Go.Proofs.YtmoglaknmlhpgaaGreatDoor
set_option linter.unusedVariables false
open Go.RowKit Go.Sort

set_option maxHeartbeats 1600000 in
theorem vbag_any {w : World} {B n c : Nat} {A : Option Addr} {l : List Vl} (h : Vs w B A n c l) (hB : B ≤ w.heap.size) :
  Calls Tryz.prog 29 #[.slice A n c] w fun e w' => e = .returned (.bool (bagB l)) ∧ Below w.heap.size w w' := by
 have hlen := h.1
 have hcap := h.2.2.1
 have hle := h.2.1
 unfold maxLen at hcap
 have HV := Lib.hid h
 have HL := Lib.hid hlen
 clear h hlen
 by_cases hn16 : 16 < n
 ·go_enter Tryz.func29, Tryz.ntmps29
  go_wp2_with fail
  go_ret
  exact ⟨ret_bool (bag_long (by have := HL.out; omega)).symm, Below.refl _ _⟩
 go_enter Tryz.func29, Tryz.ntmps29
 go_wp2_with fail
 go_loopw [10] (fun i wr => ∃ k : Nat, k ≤ n ∧ k ≤ 16 ∧ i = .int .i64 k ∧ BagTo l k ∧ Below w.heap.size w wr) (fun i _ => n - (intOf i).toNat)
 case atStart => exact ⟨0, Nat.zero_le _, by omega, rfl, fun j x _ hj => by omega, Below.refl _ _⟩
 case round =>
  obtain ⟨k, hk, hk16, rfl, ht, hb⟩ := hrel
  have HT := Lib.hid ht
  have HB := Lib.hid hb
  by_cases hlt : k < n
  ·obtain ⟨b, o, x, rfl, hbB, hx, hok, x0, x1, x2⟩ := (HV.out.below (hb.mono hB)).at_ hlt
   obtain ⟨b', o', y, hA, _, hy, _, y0, _, _⟩ := (HV.out.below (hb.mono hB)).at_ (k := 0) (by omega)
   injection hA with hA
   injection hA with hA1 hA2
   subst hA1 hA2
   simp only [Nat.zero_mul, Nat.add_zero] at y0
   obtain ⟨kx, nx, sx⟩ := x
   obtain ⟨ky, ny, sy⟩ := y
   have HX := Lib.hid hx
   have HY := Lib.hid hy
   have qr := fun W d os => Calls.regrown_of (w := W) (d := d) (os := os) (right_any kx nx sx hok.2.2 (grow (redrawn W d) os))
   have hlo : (0 : Int) < (n : Int) := by omega
   have y0' : (wr.alloc (.cells #[.int .i64 kx, .int .i64 nx, .string sx] 31)).cell? ⟨b, o, none⟩ = some (.int .i64 ky) := by
    rw [World.cell?_of_block (Below.heap_alloc wr _ b (by have := hb.size; omega))]; exact y0
   have hbx := Bx.made wr kx nx sx
   have D1 := Lib.hid (hb.alloc hb.size (.cells #[.int .i64 kx, .int .i64 nx, .string sx] 31))
   clear ht hb hx hy hok
   by_cases hr : RightV kx nx sx.data.toList
   ·have HR : Hid (Vl.right ⟨kx, nx, sx⟩) := hr
    rw [decide_eq_true hr] at qr
    have QR := Lib.hid qr
    clear qr hr
    by_cases hkk : kx = ky
    ·have hne : (kx != ky) = false := by simp [hkk]
     have HK := Lib.hid hkk
     clear hkk
     go_wp2_with fail
     generalize wr.alloc (.cells #[.int .i64 kx, .int .i64 nx, .string sx] 31) = W1 at *
     obtain ⟨g0, g1, g2⟩ := hbx.grown
     have z0 : ∀ d os, (grow (redrawn W1 d) os).cell? ⟨b, o, none⟩ = some (.int .i64 ky) := fun d os => cell_regrown y0' d os
     refine wp_region_quiet_below (by kernel_rfl) (by kernel_rfl) ?_
     repeat (go_big_quiet_step ((go_at_call 50; exact QR.out _ _ _)))
     refine wpQuiet_nil ?_
     intro _ hw'
     obtain ⟨⟨dq, osq⟩, hw''⟩ := hw'
     subst hw''
     have D2 := Lib.hid (below_step D1.out (below_regrown W1 dq osq))
     clear g0 g1 g2 z0
     generalize grow (redrawn W1 dq) osq = W2 at *
     go_wp2_with fail
     go_roundw
     case rel => exact ⟨k + 1, by omega, by omega, by go_num, HT.out.step HX.out HR.out HY.out HK.out, D2.out⟩
     case measure => simp [intOf]; omega
    ·have hne : (kx != ky) = true := by rw [bne_iff_ne]; exact hkk
     have HK := Lib.hid hkk
     clear hkk
     go_wp2_with fail
     generalize wr.alloc (.cells #[.int .i64 kx, .int .i64 nx, .string sx] 31) = W1 at *
     obtain ⟨g0, g1, g2⟩ := hbx.grown
     have z0 : ∀ d os, (grow (redrawn W1 d) os).cell? ⟨b, o, none⟩ = some (.int .i64 ky) := fun d os => cell_regrown y0' d os
     refine wp_region_quiet_below (by kernel_rfl) (by kernel_rfl) ?_
     repeat (go_big_quiet_step ((go_at_call 50; exact QR.out _ _ _)))
     refine wpQuiet_nil ?_
     intro _ hw'
     obtain ⟨⟨dq, osq⟩, hw''⟩ := hw'
     subst hw''
     have D2 := Lib.hid (below_step D1.out (below_regrown W1 dq osq))
     clear g0 g1 g2 z0
     generalize grow (redrawn W1 dq) osq = W2 at *
     go_wp2_with fail
     go_ret
     exact ⟨ret_bool (bag_bad HX.out HY.out (.inr HK.out)).symm, D2.out⟩
   ·have HR : Hid (¬ Vl.right ⟨kx, nx, sx⟩) := hr
    rw [decide_eq_false hr] at qr
    have QR := Lib.hid qr
    clear qr hr
    go_wp2_with fail
    generalize wr.alloc (.cells #[.int .i64 kx, .int .i64 nx, .string sx] 31) = W1 at *
    obtain ⟨g0, g1, g2⟩ := hbx.grown
    have z0 : ∀ d os, (grow (redrawn W1 d) os).cell? ⟨b, o, none⟩ = some (.int .i64 ky) := fun d os => cell_regrown y0' d os
    refine wp_region_quiet_below (by kernel_rfl) (by kernel_rfl) ?_
    repeat (go_big_quiet_step ((go_at_call 50; exact QR.out _ _ _)))
    refine wpQuiet_nil ?_
    intro _ hw'
    obtain ⟨⟨dq, osq⟩, hw''⟩ := hw'
    subst hw''
    have D2 := Lib.hid (below_step D1.out (below_regrown W1 dq osq))
    clear g0 g1 g2 z0
    generalize grow (redrawn W1 dq) osq = W2 at *
    go_wp2_with fail
    go_ret
    exact ⟨ret_bool (bag_bad HX.out HY.out (.inl HR.out)).symm, D2.out⟩
  ·obtain rfl : k = n := by omega
   clear ht hb
   go_wp2_with fail
   go_ret
   exact ⟨ret_bool ((HT.out.all HL.out).trans (decide_eq_true (by omega))).symm, HB.out⟩

end Go.Proofs.YtmoglaknmlhpgaaGreatDoor
/- Requests, plainly (chapter 11): what is given, where it stands, which are right, and with one more. -/
namespace Go.Proofs.YtmoglaknmlhpgaaGreatDoor
set_option linter.unusedVariables false

structure Giv where
 cat : Int
 name : ByteArray
 bag : List Vl
instance : Inhabited Giv := ⟨⟨0, ByteArray.empty, []⟩⟩
def Giv.ok (g : Giv) : Prop := InI g.cat ∧ g.name.size ≤ maxLen
def isG (c : Int) (s : ByteArray) (g : Giv) : Bool := decide (g.cat = c) && decide (g.name = s)
def idxA (l : List Giv) (c : Int) (s : ByteArray) : Nat := l.findIdx (isG c s)
def placeI (l : List Giv) (c : Int) (s : ByteArray) : Int := if idxA l c s < l.length then (idxA l c s : Int) else -1
def bagA (l : List Giv) (c : Int) (s : ByteArray) : List Vl := ((l[idxA l c s]?).map Giv.bag).getD []
def getB (l : List Giv) (a : Atr) : List Vl := bagA l a.cat a.name
def getE (l : List Giv) (a : Atr) : Int := if a.must = true ∧ getB l a = [] then 4 else 0
def getR (l : List Giv) (a : Atr) : List Vl := if getE l a = 0 then getB l a else []
def wrongA (ahead : List Giv) (g : Giv) : Int := if attrB ⟨g.cat, g.name, false⟩ = true ∧ bagB g.bag = true then (if idxA ahead g.cat g.name < ahead.length then 11 else 0) else 1
def rightL : List Giv → List Giv → Int
 | _, [] => 0
 | ah, g :: r => if wrongA ah g ≠ 0 then wrongA ah g else rightL (ah ++ [g]) r
def rightA (l : List Giv) : Int := if 64 < l.length then 6 else rightL [] l
def withA (l : List Giv) (g : Giv) : List Giv := if idxA l g.cat g.name < l.length then l.set (idxA l g.cat g.name) g else l ++ [g]

theorem isG_iff {c : Int} {s : ByteArray} {g : Giv} : isG c s g = true ↔ g.cat = c ∧ g.name = s := by simp [isG]
theorem idx_at {l : List Giv} {c : Int} {s : ByteArray} {k : Nat} {g : Giv} (hk : l[k]? = some g) (hg : isG c s g = true) (hf : ∀ (j : Nat) (x : Giv), l[j]? = some x → j < k → isG c s x = false) : idxA l c s = k := by
 obtain ⟨h, rfl⟩ := List.getElem?_eq_some_iff.1 hk
 unfold idxA
 rw [List.findIdx_eq h]
 exact ⟨hg, fun j hj => hf j _ (List.getElem?_eq_getElem (by omega)) hj⟩
theorem idx_none {l : List Giv} {c : Int} {s : ByteArray} (hf : ∀ (j : Nat) (x : Giv), l[j]? = some x → isG c s x = false) : idxA l c s = l.length := by
 unfold idxA
 rw [List.findIdx_eq_length]
 intro x hx
 obtain ⟨j, hj, rfl⟩ := List.getElem_of_mem hx
 exact hf j _ (List.getElem?_eq_getElem hj)
theorem place_at {l : List Giv} {c : Int} {s : ByteArray} {k : Nat} {g : Giv} (hk : l[k]? = some g) (hg : isG c s g = true) (hf : ∀ (j : Nat) (x : Giv), l[j]? = some x → j < k → isG c s x = false) : placeI l c s = k := by
 have e := idx_at hk hg hf
 have h := (List.getElem?_eq_some_iff.1 hk).1
 unfold placeI
 rw [e, if_pos h]
theorem place_none {l : List Giv} {c : Int} {s : ByteArray} (hf : ∀ (j : Nat) (x : Giv), l[j]? = some x → isG c s x = false) : placeI l c s = -1 := by
 unfold placeI
 rw [idx_none hf, if_neg (by omega)]
theorem idx_hit {l : List Giv} {c : Int} {s : ByteArray} (h : idxA l c s < l.length) : ∃ g, l[idxA l c s]? = some g ∧ isG c s g = true ∧ bagA l c s = g.bag := by
 refine ⟨l[idxA l c s], List.getElem?_eq_getElem h, List.findIdx_getElem (w := h), ?_⟩
 unfold bagA
 rw [List.getElem?_eq_getElem h]
 rfl
theorem idx_before {l : List Giv} {c : Int} {s : ByteArray} {j : Nat} {x : Giv} (hx : l[j]? = some x) (h : j < idxA l c s) : isG c s x = false := by
 obtain ⟨hj, rfl⟩ := List.getElem?_eq_some_iff.1 hx
 have := List.not_of_lt_findIdx h
 simpa using this
theorem bag_none {l : List Giv} {c : Int} {s : ByteArray} (h : ¬ idxA l c s < l.length) : bagA l c s = [] := by
 unfold bagA
 rw [List.getElem?_eq_none (by omega)]
 rfl
theorem place_pos {l : List Giv} {c : Int} {s : ByteArray} (h : idxA l c s < l.length) : placeI l c s = idxA l c s := if_pos h
theorem place_neg {l : List Giv} {c : Int} {s : ByteArray} (h : ¬ idxA l c s < l.length) : placeI l c s = -1 := if_neg h

theorem rightL_step {l : List Giv} {k : Nat} {g : Giv} (h : l[k]? = some g) : rightL (l.take k) (l.drop k) = if wrongA (l.take k) g ≠ 0 then wrongA (l.take k) g else rightL (l.take (k + 1)) (l.drop (k + 1)) := by
 obtain ⟨hk, rfl⟩ := List.getElem?_eq_some_iff.1 h
 rw [List.drop_eq_getElem_cons hk, rightL, List.take_succ_eq_append_getElem hk]
theorem rightL_end {l : List Giv} {k : Nat} (h : l.length ≤ k) : rightL (l.take k) (l.drop k) = 0 := by
 rw [List.drop_of_length_le h, rightL]
theorem withA_pos {l : List Giv} {g : Giv} (h : idxA l g.cat g.name < l.length) : withA l g = l.set (idxA l g.cat g.name) g := if_pos h
theorem with_mem {l : List Giv} {g x : Giv} (h : x ∈ withA l g) : x = g ∨ x ∈ l := by
 unfold withA at h
 split at h
 ·exact (List.mem_or_eq_of_mem_set h).symm
 ·simpa [or_comm] using h
theorem isG_ne {c c' : Int} {s s' : ByteArray} (h : ¬ (c = c' ∧ s = s')) {g : Giv} (hg : isG c s g = true) : isG c' s' g = false := by
 rw [← Bool.not_eq_true]
 intro e
 obtain ⟨a1, a2⟩ := isG_iff.1 hg
 obtain ⟨b1, b2⟩ := isG_iff.1 e
 exact h ⟨a1.symm.trans b1, a2.symm.trans b2⟩
theorem with_other {l : List Giv} {g : Giv} {c : Int} {s : ByteArray} (h : ¬ (c = g.cat ∧ s = g.name)) : bagA (withA l g) c s = bagA l c s := by
 have hg : isG c s g = false := by
  rw [← Bool.not_eq_true]
  intro e
  obtain ⟨a, b⟩ := isG_iff.1 e
  exact h ⟨a.symm, b.symm⟩
 by_cases hc : idxA l c s < l.length
 ·obtain ⟨x, hx, hxg, hb⟩ := idx_hit hc
  have hk : (withA l g)[idxA l c s]? = some x ∧ ∀ (j : Nat) (y : Giv), (withA l g)[j]? = some y → j < idxA l c s → isG c s y = false := by
   unfold withA
   by_cases hi : idxA l g.cat g.name < l.length
   ·rw [if_pos hi]
    have hne : idxA l g.cat g.name ≠ idxA l c s := by
     intro e
     obtain ⟨y, hy, hyg, _⟩ := idx_hit hi
     rw [e, hx] at hy
     injection hy with hy
     subst hy
     rw [isG_ne h hxg] at hyg
     cases hyg
    refine ⟨by rw [List.getElem?_set_ne hne]; exact hx, fun j y hy hj => ?_⟩
    by_cases hj2 : idxA l g.cat g.name = j
    ·subst hj2
     rw [List.getElem?_set_self hi] at hy
     injection hy with hy
     subst hy
     exact hg
    ·rw [List.getElem?_set_ne hj2] at hy
     exact idx_before hy hj
   ·rw [if_neg hi]
    refine ⟨by rw [List.getElem?_append_left hc]; exact hx, fun j y hy hj => ?_⟩
    rw [List.getElem?_append_left (by omega)] at hy
    exact idx_before hy hj
  have e := idx_at hk.1 hxg hk.2
  rw [hb]
  unfold bagA
  rw [e, hk.1]
  rfl
 ·rw [bag_none hc]
  refine bag_none ?_
  have hl : idxA l c s = l.length := by
   have := List.findIdx_le_length (p := isG c s) (xs := l)
   unfold idxA at hc ⊢
   omega
  rw [idx_none]
  ·omega
  ·intro j y hy
   rcases with_mem (List.mem_of_getElem? hy) with rfl | hm
   ·exact hg
   ·obtain ⟨i, hi, rfl⟩ := List.getElem_of_mem hm
    exact idx_before (List.getElem?_eq_getElem hi) (by omega)
end Go.Proofs.YtmoglaknmlhpgaaGreatDoor
/- Sums, differences and products of two numbers of 64 bits: which go, and how those that wrap round are told. Plain. -/
namespace Go.Proofs.YtmoglaknmlhpgaaGreatDoor
set_option linter.unusedVariables false
open Go.RowKit

def In64 (n : Int) : Prop := -9223372036854775808 ≤ n ∧ n ≤ 9223372036854775807
instance (n : Int) : Decidable (In64 n) := by unfold In64; infer_instance
def fits (n : Int) : Int × Int := if In64 n then (n, 0) else (0, 3)
theorem fits_in {n : Int} (h : In64 n) : fits n = (n, 0) := if_pos h
theorem fits_out {n : Int} (h : ¬ In64 n) : fits n = (0, 3) := if_neg h
theorem wrap_in {n : Int} (h : In64 n) : IntKind.i64.wrap n = n := IntWalk.i64_in n h
theorem wrap_is (n : Int) : ∃ q : Int, IntKind.i64.wrap n = n - 18446744073709551616 * q ∧ In64 (IntKind.i64.wrap n) := by
 refine ⟨(n + 9223372036854775808) / 18446744073709551616, ?_, ?_⟩
 ·rw [IntKind.wrap_i64]; omega
 ·unfold In64; rw [IntKind.wrap_i64]; omega
theorem wrap_out {n : Int} (h : ¬ In64 n) : ∃ q : Int, q ≠ 0 ∧ IntKind.i64.wrap n = n - 18446744073709551616 * q ∧ In64 (IntKind.i64.wrap n) := by
 obtain ⟨q, e, hi⟩ := wrap_is n
 refine ⟨q, ?_, e, hi⟩
 rintro rfl
 rw [e] at hi
 exact h (by simpa using hi)
theorem wrap_near {n : Int} (h : ¬ In64 n) (hl : -18446744073709551616 ≤ n) (hu : n ≤ 18446744073709551615) : IntKind.i64.wrap n = if n < 0 then n + 18446744073709551616 else n - 18446744073709551616 := by
 unfold In64 at h
 rw [IntKind.wrap_i64]
 split <;> omega
theorem prod_out {a b : Int} (ha : In64 a) (h0 : a ≠ 0) (h : ¬ In64 (a * b)) : Int.tdiv (IntKind.i64.wrap (a * b)) a ≠ b := by
 obtain ⟨q, hq, e, hi⟩ := wrap_out h
 intro hc
 have h1 := Int.tmod_add_mul_tdiv (IntKind.i64.wrap (a * b)) a
 rw [hc, e] at h1
 have h2 : (Int.tmod (IntKind.i64.wrap (a * b)) a).natAbs < a.natAbs := by
  rw [Int.natAbs_tmod]
  exact Nat.mod_lt _ (by omega)
 rw [e] at h2
 unfold In64 at ha
 generalize Int.tmod (a * b - 18446744073709551616 * q) a = r at *
 omega
theorem prod_in {a b : Int} (h0 : a ≠ 0) (h : In64 (a * b)) : Int.tdiv (IntKind.i64.wrap (a * b)) a = b := by
 rw [wrap_in h]
 exact Int.mul_tdiv_cancel_left b h0
theorem tdiv_in {a b : Int} (ha : In64 a) (h1 : b ≠ 0) (h2 : b ≠ -1) : In64 (Int.tdiv a b) := by
 have h : (Int.tdiv a b).natAbs = a.natAbs / b.natAbs := Int.natAbs_tdiv a b
 by_cases hb : b = 1
 ·subst hb; simpa using ha
 ·have : a.natAbs / b.natAbs ≤ a.natAbs / 2 := Nat.div_le_div_left (by omega) (by omega)
  unfold In64 at *
  omega
theorem sum_yes {a b c : Int} (ha : In64 a) (hb : In64 b) (hc : IntKind.i64.wrap (a + b) = c) (h : c < a ↔ b < 0) : fits (a + b) = (c, 0) := by
 by_cases hi : In64 (a + b)
 ·rw [wrap_in hi] at hc; subst hc; exact fits_in hi
 ·unfold In64 at ha hb
  rw [wrap_near hi (by omega) (by omega)] at hc
  unfold In64 at hi
  split at hc <;> omega
theorem sum_no {a b c : Int} (ha : In64 a) (hb : In64 b) (hc : IntKind.i64.wrap (a + b) = c) (h : ¬ (c < a ↔ b < 0)) : fits (a + b) = (0, 3) := by
 by_cases hi : In64 (a + b)
 ·rw [wrap_in hi] at hc; subst hc; exact absurd (by omega) h
 ·exact fits_out hi
theorem rest_yes {a b c : Int} (ha : In64 a) (hb : In64 b) (hc : IntKind.i64.wrap (a - b) = c) (h : a < c ↔ b < 0) : fits (a - b) = (c, 0) := by
 by_cases hi : In64 (a - b)
 ·rw [wrap_in hi] at hc; subst hc; exact fits_in hi
 ·unfold In64 at ha hb
  rw [wrap_near hi (by omega) (by omega)] at hc
  unfold In64 at hi
  split at hc <;> omega
theorem rest_no {a b c : Int} (ha : In64 a) (hb : In64 b) (hc : IntKind.i64.wrap (a - b) = c) (h : ¬ (a < c ↔ b < 0)) : fits (a - b) = (0, 3) := by
 by_cases hi : In64 (a - b)
 ·rw [wrap_in hi] at hc; subst hc; exact absurd (by omega) h
 ·exact fits_out hi
theorem bne_iff_no {p q : Prop} [Decidable p] [Decidable q] (h : (!decide p == decide q) = false) : p ↔ q := by
 by_cases hp : p <;> by_cases hq : q <;> simp_all
theorem bne_iff_yes {p q : Prop} [Decidable p] [Decidable q] (h : (!decide p == decide q) = true) : ¬ (p ↔ q) := by
 by_cases hp : p <;> by_cases hq : q <;> simp_all
theorem prod_yes {a b c : Int} (ha : In64 a) (h0 : a ≠ 0) (h1 : a ≠ -1) (hc : IntKind.i64.wrap (a * b) = c) (h : wrap64 (Int.tdiv c a) = b) : fits (a * b) = (c, 0) := by
 have hi : In64 (a * b) := Classical.byContradiction fun hi => by
  obtain ⟨_, _, _, hw⟩ := wrap_out hi
  rw [hc] at hw
  rw [IntWalk.wrap64_in _ (tdiv_in hw h0 h1)] at h
  exact prod_out ha h0 hi (by rw [hc]; exact h)
 rw [wrap_in hi] at hc
 subst hc
 exact fits_in hi
theorem prod_no {a b c : Int} (ha : In64 a) (hb : In64 b) (h0 : a ≠ 0) (h1 : a ≠ -1) (hc : IntKind.i64.wrap (a * b) = c) (h : ¬ wrap64 (Int.tdiv c a) = b) : fits (a * b) = (0, 3) := by
 refine fits_out fun hi => h ?_
 have := prod_in h0 hi
 rw [hc] at this
 rw [this, IntWalk.wrap64_in _ hb]
theorem ne_no {a b : Int} (h : (a != b) = false) : a = b := by simpa using h
theorem ne_yes {a b : Int} (h : (a != b) = true) : ¬ a = b := by simpa using h
theorem neg_one (b : Int) : fits (0 - b) = fits (-1 * b) := by rw [show (0 : Int) - b = -1 * b by omega]
end Go.Proofs.YtmoglaknmlhpgaaGreatDoor
/- How values stand: the project's Less and the reference's; the laws' two helpers. -/
namespace Go.Proofs.YtmoglaknmlhpgaaGreatDoor
set_option linter.unusedVariables false
open Go.RowKit

def lessOf (a b : Vl) : Bool × Int :=
 if a.right ∧ b.right then
  if a.k ≠ b.k ∨ a.k = 1 then (false, 2)
  else if inT a.k = true then (Op.bytesLess a.l b.l, 0)
  else (decide (a.n < b.n), 0)
 else (false, 1)

theorem below_two {w a : World} {o p : Obj} (h1 : Below ((w.alloc o).alloc p).heap.size ((w.alloc o).alloc p) a) : Below w.heap.size w a := Below.lit (Below.lit h1)

theorem lessOf_eq (a b : Vl) : lessOf a b = if a.right ∧ b.right then
  if a.k ≠ b.k ∨ a.k = 1 then (false, 2)
  else if inT a.k = true then (Op.bytesLess a.l b.l, 0)
  else (decide (a.n < b.n), 0)
 else (false, 1) := rfl
theorem less_wrong {a b : Vl} (h : ¬ a.right ∨ ¬ b.right) : lessOf a b = (false, 1) := by rw [lessOf_eq, if_neg (fun hh => h.elim (fun h => h hh.1) (fun h => h hh.2))]
theorem less_type {a b : Vl} (h1 : a.right) (h2 : b.right) (h : a.k ≠ b.k ∨ a.k = 1) : lessOf a b = (false, 2) := by rw [lessOf_eq, if_pos ⟨h1, h2⟩, if_pos h]
theorem less_text {a b : Vl} (h1 : a.right) (h2 : b.right) (h : a.k = b.k) (h' : a.k ≠ 1) (h3 : inT a.k = true) : lessOf a b = (Op.bytesLess a.l b.l, 0) := by
 rw [lessOf_eq, if_pos ⟨h1, h2⟩, if_neg (fun hh => hh.elim (fun x => x h) h'), if_pos h3]
theorem less_num {a b : Vl} (h1 : a.right) (h2 : b.right) (h : a.k = b.k) (h' : a.k ≠ 1) (h3 : inT a.k = false) : lessOf a b = (decide (a.n < b.n), 0) := by
 rw [lessOf_eq, if_pos ⟨h1, h2⟩, if_neg (fun hh => hh.elim (fun x => x h) h'), if_neg (by rw [h3]; simp)]
theorem ret_two {a : Bool} {x : Int} {p : Bool × Int} (h : p = (a, x)) : Ending.returned (.tuple #[.bool a, .int .i64 x]) = .returned (.tuple #[.bool p.1, .int .i64 p.2]) := by rw [h]

set_option maxHeartbeats 3200000 in
theorem less_any (a b : Vl) (ha : a.s.size ≤ maxLen) (hb : b.s.size ≤ maxLen) (w : World) :
  Calls Tryz.prog 174 #[a.val, b.val] w fun e w' => e = .returned (.tuple #[.bool (lessOf a b).1, .int .i64 (lessOf a b).2]) ∧ Below w.heap.size w w' := by
 generalize hLo : lessOf a b = lo
 have HLO := Lib.hid hLo.symm
 have hla : a.s.toList = a.l := ByteArray.toList_eq a.s
 have hlb : b.s.toList = b.l := ByteArray.toList_eq b.s
 generalize hal : a.l = la at *
 generalize hbl : b.l = lb at *
 have HAL := Lib.hid hal
 have HBL := Lib.hid hbl
 clear hLo hal hbl
 obtain ⟨k, n, s⟩ := a
 obtain ⟨k', n', s'⟩ := b
 have ra := right_any k n s ha
 have rb := right_any k' n' s' hb
 show Calls _ _ #[.agg #[.int .i64 k, .int .i64 n, .string s], .agg #[.int .i64 k', .int .i64 n', .string s']] w _
 dsimp only at hla hlb
 clear ha hb
 by_cases h1 : RightV k n s.data.toList
 ·rw [decide_eq_true h1] at ra
  have H1 : Hid (Vl.right ⟨k, n, s⟩) := h1
  have RA := Lib.hid ra
  clear h1 ra
  by_cases h2 : RightV k' n' s'.data.toList
  ·rw [decide_eq_true h2] at rb
   have H2 : Hid (Vl.right ⟨k', n', s'⟩) := h2
   have RB := Lib.hid rb
   clear h2 rb
   go_enter Tryz.func174, Tryz.ntmps174
   go_wp2_with fail
   refine (RA.out _).mono ?_
   rintro e w1 ⟨rfl, hb1⟩
   have B1 := Lib.hid (((Bx.made w k n s).alloc (.cells #[.int .i64 k', .int .i64 n', .string s'] 31)).then_ hb1)
   have C1 := Lib.hid ((Bx.made (w.alloc (.cells #[.int .i64 k, .int .i64 n, .string s] 31)) k' n' s').then_ hb1)
   have D1 := Lib.hid (below_two hb1)
   clear hb1
   have b1 := B1.out.c3
   have c1 := C1.out.c3
   rw [size_al] at c1
   go_wp2_with fail
   refine (RB.out _).mono ?_
   rintro e w2 ⟨rfl, hb2⟩
   have b2 := (B1.out.then_ hb2).c3
   have c2 := (C1.out.then_ hb2).c3
   rw [size_al] at c2
   have D2 := Lib.hid (below_step D1.out hb2)
   clear hb2 b1 c1 B1 C1
   by_cases hk : k = k'
   ·subst hk
    by_cases h1 : k = 1
    ·subst h1
     go_wp2_with fail
     go_ret2
     exact ⟨ret_two (HLO.out.trans (less_type H1.out H2.out (.inr rfl))), D2.out⟩
    ·have K1 := Lib.hid h1
     have h1' : (k == 1) = false := by rw [beq_eq_false_iff_ne]; exact h1
     clear h1
     have hin := inT_any k w2
     cases ht : inT k
     ·rw [ht] at hin
      have HI := Lib.hid hin
      have HT := Lib.hid ht
      clear hin ht
      go_wp2_with fail
      refine HI.out.mono ?_
      rintro e w3 ⟨rfl, rfl⟩
      go_wp2_with fail
      go_ret2
      exact ⟨ret_two (HLO.out.trans (less_num H1.out H2.out rfl K1.out HT.out)), D2.out⟩
     ·rw [ht] at hin
      have HI := Lib.hid hin
      have HT := Lib.hid ht
      clear hin ht
      go_wp2_with fail
      refine HI.out.mono ?_
      rintro e w3 ⟨rfl, rfl⟩
      go_wp2_with fail
      go_ret2
      refine ⟨ret_two ?_, D2.out⟩
      have := HLO.out.trans (less_text H1.out H2.out rfl K1.out HT.out)
      rw [HAL.out, HBL.out] at this
      exact this
   ·have hk' : (k != k') = true := by rw [bne_iff_ne]; exact hk
    have HK := Lib.hid hk
    clear hk
    go_wp2_with fail
    go_ret2
    exact ⟨ret_two (HLO.out.trans (less_type H1.out H2.out (.inl HK.out))), D2.out⟩
  ·rw [decide_eq_false h2] at rb
   have H2 : Hid (¬ Vl.right ⟨k', n', s'⟩) := h2
   have RB := Lib.hid rb
   clear h2 rb
   go_enter Tryz.func174, Tryz.ntmps174
   go_wp2_with fail
   refine (RA.out _).mono ?_
   rintro e w1 ⟨rfl, hb1⟩
   have c1 := ((Bx.made (w.alloc (.cells #[.int .i64 k, .int .i64 n, .string s] 31)) k' n' s').then_ hb1).c3
   rw [size_al] at c1
   have D1 := Lib.hid (below_two hb1)
   clear hb1
   go_wp2_with fail
   refine (RB.out _).mono ?_
   rintro e w2 ⟨rfl, hb2⟩
   have D2 := Lib.hid (below_step D1.out hb2)
   clear hb2
   go_wp2_with fail
   go_ret2
   exact ⟨ret_two (HLO.out.trans (less_wrong (.inr H2.out))), D2.out⟩
 ·rw [decide_eq_false h1] at ra
  have H1 : Hid (¬ Vl.right ⟨k, n, s⟩) := h1
  have RA := Lib.hid ra
  clear h1 ra rb
  go_enter Tryz.func174, Tryz.ntmps174
  go_wp2_with fail
  refine (RA.out _).mono ?_
  rintro e w1 ⟨rfl, hb1⟩
  have D1 := Lib.hid (below_two hb1)
  clear hb1
  go_wp2_with fail
  go_ret2
  exact ⟨ret_two (HLO.out.trans (less_wrong (.inl H1.out))), D1.out⟩

end Go.Proofs.YtmoglaknmlhpgaaGreatDoor
