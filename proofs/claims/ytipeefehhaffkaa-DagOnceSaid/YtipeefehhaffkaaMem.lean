/- Words for memory: a slice that reads as a row of cells (Sl), an object of known cells (Ob), and how both are kept. -/
import Derived.Test.YtipeefehhaffkaaRows
import Derived.WalkKit
import Derived.Deep.Draws
import Derived.BigQuiet
import Derived.Deep.QuietTactic
import Derived.Lib.Hide
namespace Go.Proofs.Ytipeefehhaffkaa
open Go.RowKit

/-- Bytes as cells. -/
def bv (l : List UInt8) : List Value := l.map fun c => Value.int .u8 (c.toNat : Int)
theorem bv_len (l : List UInt8) : (bv l).length = l.length := by simp [bv]
theorem bv_app (l m : List UInt8) : bv (l ++ m) = bv l ++ bv m := by simp [bv]
theorem bv_take (l : List UInt8) (k : Nat) : bv (l.take k) = (bv l).take k := by simp [bv, List.map_take]
theorem bv_drop (l : List UInt8) (k : Nat) : bv (l.drop k) = (bv l).drop k := by simp [bv, List.map_drop]
theorem bv_get {l : List UInt8} {k : Nat} (h : k < l.length) : (bv l)[k]? = some (.int .u8 (l[k].toNat : Int)) := by simp [bv, h]

/-- The slice 'A n c' reads as the cells xs (one each); they lie below block B. -/
def Sl (w : World) (B : Nat) (A : Option Addr) (n c : Nat) (xs : List Value) : Prop :=
  xs.length = n ∧ n ≤ c ∧ c ≤ maxLen ∧ (n = 0 ∨ ∃ b o, A = some ⟨b, o, none⟩ ∧ b < B ∧ ∀ j u, xs[j]? = some u → w.cell? ⟨b, o + j, none⟩ = some u)

section
variable {w w' : World} {B B' n c : Nat} {A : Option Addr} {xs : List Value}
theorem Sl.len (h : Sl w B A n c xs) : xs.length = n := h.1
theorem Sl.le (h : Sl w B A n c xs) : n ≤ c := h.2.1
theorem Sl.cap (h : Sl w B A n c xs) : c ≤ maxLen := h.2.2.1
theorem Sl.nil_ (w : World) (B : Nat) : Sl w B none 0 0 [] := ⟨rfl, Nat.le_refl _, by simp [maxLen], .inl rfl⟩
theorem Sl.nilc {c : Nat} (hc : c ≤ maxLen) (w : World) (B : Nat) (A : Option Addr) : Sl w B A 0 c [] := ⟨rfl, by omega, hc, .inl rfl⟩
theorem Sl.keep (h : Sl w B A n c xs) (hk : ∀ k, k < B → w'.heap[k]? = w.heap[k]?) : Sl w' B A n c xs := by
  obtain ⟨h1, h2, h3, h4⟩ := h
  refine ⟨h1, h2, h3, ?_⟩
  rcases h4 with h4 | ⟨b, o, e, hb, hc⟩
  · exact .inl h4
  · exact .inr ⟨b, o, e, hb, fun j u hu => (World.cell?_of_block (hk b hb)).trans (hc j u hu)⟩
theorem Sl.keep_from {lo : Nat} (h : Sl w B A n c xs) (hlo : ∀ ad, A = some ad → lo ≤ ad.block) (hk : ∀ k, lo ≤ k → k < B → w'.heap[k]? = w.heap[k]?) : Sl w' B A n c xs := by
  obtain ⟨h1, h2, h3, h4⟩ := h
  refine ⟨h1, h2, h3, ?_⟩
  rcases h4 with h4 | ⟨b, o, e, hb, hc⟩
  · exact .inl h4
  · exact .inr ⟨b, o, e, hb, fun j u hu => (World.cell?_of_block (hk b (hlo _ e) hb)).trans (hc j u hu)⟩
theorem Sl.more (h : Sl w B A n c xs) (hB : B ≤ B') : Sl w B' A n c xs := by
  obtain ⟨h1, h2, h3, h4⟩ := h
  refine ⟨h1, h2, h3, ?_⟩
  rcases h4 with h4 | ⟨b, o, e, hb, hc⟩
  · exact .inl h4
  · exact .inr ⟨b, o, e, by omega, hc⟩
theorem Sl.below (h : Sl w B A n c xs) (hb : Below B w w') : Sl w' B A n c xs := h.keep hb.block
theorem Sl.drewN (h : Sl w B A n c xs) (k : Nat) : Sl (w.drewN k) B A n c xs := h.keep fun _ _ => rfl
theorem Sl.at_ (h : Sl w B A n c xs) {k : Nat} (hk : k < n) : ∃ b o u, A = some ⟨b, o, none⟩ ∧ b < B ∧ xs[k]? = some u ∧ w.cell? ⟨b, o + k, none⟩ = some u := by
  obtain ⟨h1, h2, h3, h4⟩ := h
  rcases h4 with h4 | ⟨b, o, e, hb, hc⟩
  · omega
  · have hl : k < xs.length := by omega
    exact ⟨b, o, xs[k], e, hb, List.getElem?_eq_getElem hl, hc k _ (List.getElem?_eq_getElem hl)⟩
theorem Sl.byte {l : List UInt8} (h : Sl w B A n c (bv l)) {k : Nat} (hk : k < n) : ∃ b o, A = some ⟨b, o, none⟩ ∧ b < B ∧ ∃ hl : k < l.length, w.cell? ⟨b, o + k, none⟩ = some (.int .u8 (l[k].toNat : Int)) := by
  obtain ⟨b, o, u, e, hb, hx, hc⟩ := h.at_ hk
  have hl : k < l.length := by have := h.1; rw [bv_len] at this; omega
  rw [bv_get hl] at hx
  injection hx with hx
  subst hx
  exact ⟨b, o, e, hb, hl, hc⟩
theorem Sl.take (h : Sl w B A n c xs) {k : Nat} (hk : k ≤ n) : Sl w B A k c (xs.take k) := by
  obtain ⟨h1, h2, h3, h4⟩ := h
  refine ⟨by rw [List.length_take]; omega, by omega, h3, ?_⟩
  rcases h4 with h4 | ⟨b, o, e, hb, hc⟩
  · left; omega
  · refine .inr ⟨b, o, e, hb, fun j u hu => hc j u ?_⟩
    rw [List.getElem?_take] at hu
    split at hu
    · exact hu
    · cases hu
theorem Sl.drop (h : Sl w B A n c xs) {k : Nat} (hk : k ≤ n) : Sl w B (if c = k then A else A.map (·.add k)) (n - k) (c - k) (xs.drop k) := by
  obtain ⟨h1, h2, h3, h4⟩ := h
  refine ⟨by rw [List.length_drop]; omega, by omega, by omega, ?_⟩
  rcases h4 with h4 | ⟨b, o, e, hb, hc⟩
  · left; omega
  · by_cases hn : n = k
    · left; omega
    · right
      subst e
      rw [if_neg (by omega)]
      refine ⟨b, o + k, ?_, hb, fun j u hu => ?_⟩
      · by_cases hk0 : k = 0 <;> simp [Addr.add, hk0]
      · rw [Nat.add_assoc]
        exact hc (k + j) u (by rw [← hu, List.getElem?_drop])
theorem own_from {base e : Nat} {v : Value} (h : w.ownsRow base e 1 v n xs) (hv : v = .slice A n c) : ∀ ad, A = some ad → base ≤ ad.block := by
  rintro ad rfl
  exact (h.lt ad.block (by rw [hv]; rfl)).1
theorem Sl.of_own {base e : Nat} (h : w.ownsRow base e 1 (.slice A n c) n xs) : Sl w w.heap.size A n c xs := by
  have hl := h.1
  rcases h.2 with ⟨hv, hn⟩ | ⟨g, cap, cur, hv, hb, hg, hnc, hcm, hcs, ht⟩
  · injection hv with h1 h2 h3
    subst h1 h2 h3
    exact ⟨by simpa using hl, Nat.le_refl _, by simp [maxLen], .inl rfl⟩
  · injection hv with h1 h2 h3
    subst h1 h3
    refine ⟨by simpa using hl, hnc, hcm, .inr ⟨g, 0, rfl, ?_, fun j u hu => ?_⟩⟩
    · rcases Nat.lt_or_ge g w.heap.size with hlt | hge
      · exact hlt
      · rw [Array.getElem?_eq_none hge] at hg; cases hg
    · have := h.cells (g := g) rfl j u hu
      by_cases hj : j = 0
      · subst hj; simpa [Addr.add] using this
      · simpa [Addr.add, hj] using this
end

/-- A block of known cells, none of them frozen. -/
def Ob (w : World) (g : Nat) (t : TypeId) (cs : Array Value) : Prop := w.heap[g]? = some (.cells cs t (0, 0))
section
variable {w w' : World} {g : Nat} {t : TypeId} {cs : Array Value}
theorem Ob.lt (h : Ob w g t cs) : g < w.heap.size := by
  rcases Nat.lt_or_ge g w.heap.size with hlt | hge
  · exact hlt
  · unfold Ob at h; rw [Array.getElem?_eq_none hge] at h; cases h
theorem Ob.cell (h : Ob w g t cs) (i : Nat) : w.cell? ⟨g, i, none⟩ = cs[i]? := cell_of_row w g i cs t (0, 0) h
theorem Ob.frozen (h : Ob w g t cs) (i : Nat) : w.frozen? ⟨g, i, none⟩ = false := by unfold Ob at h; simp [World.frozen?, h]
theorem Ob.made (w : World) (t : TypeId) (cs : Array Value) : Ob (w.alloc (.cells cs t)) w.heap.size t cs := heap_alloc_new w _
theorem Ob.keep (h : Ob w g t cs) (hk : w'.heap[g]? = w.heap[g]?) : Ob w' g t cs := hk.trans h
theorem Ob.below {B : Nat} (h : Ob w g t cs) (hb : Below B w w') (hg : g < B) : Ob w' g t cs := h.keep (hb.block g hg)
theorem Ob.put (h : Ob w g t cs) (i : Nat) (u : Value) : Ob (w.setCell ⟨g, i, none⟩ u) g t (cs.setIfInBounds i u) := by
  unfold Ob at h ⊢
  simp [World.setCell, Array.getElem?_modify, h]
end

/-- Only block r, and what is new, has changed. -/
def Only (r : Nat) (w w' : World) : Prop := w.grownBy w' (some r)
section
variable {r : Nat} {w w' w'' : World}
theorem Only.refl : Only r w w := ⟨rfl, rfl, rfl, Nat.le_refl _, fun _ _ _ => rfl⟩
theorem Only.heap (h : Only r w w') {k : Nat} (hk : k < w.heap.size) (hr : k ≠ r) : w'.heap[k]? = w.heap[k]? := h.block k hk (fun e => hr (by injection e))
theorem Only.le (h : Only r w w') : w.heap.size ≤ w'.heap.size := h.size
theorem Only.trans (h : Only r w w') (k : Only r w' w'') : Only r w w'' :=
  ⟨k.os.trans h.os, k.tape.trans h.tape, k.output.trans h.output, Nat.le_trans h.size k.size, fun i hi hn => (k.block i (Nat.lt_of_lt_of_le hi h.size) hn).trans (h.block i hi hn)⟩
theorem Only.drewN (h : Only r w w') (n : Nat) : Only r w (w'.drewN n) := ⟨h.os, h.tape, h.output, h.size, h.block⟩
theorem Only.of_below (h : Below w.heap.size w w') : Only r w w' := ⟨h.os, h.tape, h.output, h.size, fun k hk _ => h.block k hk⟩
theorem Only.setCell (h : Only r w w') {p : Addr} (hp : p.block = r) (u : Value) : Only r w (w'.setCell p u) :=
  ⟨h.os, h.tape, h.output, by simpa [World.setCell] using h.size, fun i hi hne => (Below.heap_setCell w' p u i (by rw [hp]; rintro rfl; exact hne rfl)).trans (h.block i hi hne)⟩
theorem Only.below {B : Nat} (h : Only r w w') (hB : B ≤ w.heap.size) (hr : B ≤ r) : Below B w w' :=
  ⟨h.os, h.tape, h.output, h.size, fun k hk => h.heap (by omega) (by omega)⟩
end

theorem below_drewN {B : Nat} {a w : World} (h : Below B a w) (n : Nat) : Below B a (w.drewN n) := ⟨h.os, h.tape, h.output, h.size, h.block⟩
theorem ret_bool {a b : Bool} (h : a = b) : Ending.returned (.bool a) = .returned (.bool b) := by rw [h]
theorem ret_int {k : IntKind} {a b : Int} (h : a = b) : Ending.returned (.int k a) = .returned (.int k b) := by rw [h]

theorem bytes_ne {a b : UInt8} : ((a.toNat : Int) != (b.toNat : Int)) = (a != b) := by
  rw [Bool.eq_iff_iff]
  simp only [bne_iff_ne, ne_eq]
  constructor
  · intro h e; exact h (by rw [e])
  · intro h e; exact h (UInt8.toNat_inj.1 (by omega))

end Go.Proofs.Ytipeefehhaffkaa
