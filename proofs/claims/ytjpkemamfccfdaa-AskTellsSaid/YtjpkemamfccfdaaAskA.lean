/- Several texts in one: Mem, Arith, Made, StableM, StableW, StableR, StableI, StableN, StableS1, StableS2, StableS3, StableT, Math, VMath, VNameV, VRightV, VInT, VRefName, VRefRight, VName, VRight, VBox, VLess, VOrderMath, PolMath, VEq, QTail, VGrown, OpenVal, Vals. -/
import Derived.Test.YtjpkemamfccfdaaRows
import Derived.WalkKit
import Derived.Deep.Draws
import Derived.BigQuiet
import Derived.Deep.QuietTactic
import Derived.Lib.Hide
import Derived.Laws.CopyOwn
import Derived.Lib.AppendStr
import Derived.Deep.RegionWith
import Derived.Shelf.SlSortCmp.KitK
import Derived.Deep.LoopGhost
import Derived.Deep.CutRange
import Derived.Lib.ItoaNum
import Derived.Laws.StructEq
import Derived.Laws.Tables
import Derived.Laws.Cover2
import Derived.StillTail
import Derived.Lib.QuietBelow
import Derived.Lib.SmallJoins
import Derived.ProofKit
import Derived.OpenShut
import Derived.Deep.Slices
/- Words for memory: a slice that reads as a row of cells (Sl), an object of known cells (Ob), and how both are kept. -/
namespace Go.Proofs.Ytjpkemamfccfdaa
open Go.RowKit

/-- Bytes as cells. -/
def bv (l : List UInt8) : List Value := l.map fun c => Value.int .u8 (c.toNat : Int)
theorem bv_len (l : List UInt8) : (bv l).length = l.length := by simp [bv]
theorem bv_app (l m : List UInt8) : bv (l ++ m) = bv l ++ bv m := by simp [bv]
theorem bv_take (l : List UInt8) (k : Nat) : bv (l.take k) = (bv l).take k := by simp [bv, List.map_take]
theorem bv_drop (l : List UInt8) (k : Nat) : bv (l.drop k) = (bv l).drop k := by simp [bv, List.map_drop]
theorem bv_get {l : List UInt8} {k : Nat} (h : k < l.length) : (bv l)[k]? = some (.int .u8 (l[k].toNat : Int)) := by simp [bv, h]

/-- The slice 'A n c' reads as the cells xs (one each); they lie below block B. -/
def Sl (w : World) (B : Nat) (A : Option Addr) (n c : Nat) (xs : List Value) : Prop :=
  xs.length = n ∧ n ≤ c ∧ c ≤ maxLen ∧ (n = 0 ∨ ∃ b o, A = some ⟨b, o, none⟩ ∧ b < B ∧ ∀ j u, xs[j]? = some u → w.cell? ⟨b, o + j, none⟩ = some u)

section
variable {w w' : World} {B B' n c : Nat} {A : Option Addr} {xs : List Value}
theorem Sl.len (h : Sl w B A n c xs) : xs.length = n := h.1
theorem Sl.le (h : Sl w B A n c xs) : n ≤ c := h.2.1
theorem Sl.cap (h : Sl w B A n c xs) : c ≤ maxLen := h.2.2.1
theorem Sl.nil_ (w : World) (B : Nat) : Sl w B none 0 0 [] := ⟨rfl, Nat.le_refl _, by simp [maxLen], .inl rfl⟩
theorem Sl.nilc {c : Nat} (hc : c ≤ maxLen) (w : World) (B : Nat) (A : Option Addr) : Sl w B A 0 c [] := ⟨rfl, by omega, hc, .inl rfl⟩
theorem Sl.keep (h : Sl w B A n c xs) (hk : ∀ k, k < B → w'.heap[k]? = w.heap[k]?) : Sl w' B A n c xs := by
  obtain ⟨h1, h2, h3, h4⟩ := h
  refine ⟨h1, h2, h3, ?_⟩
  rcases h4 with h4 | ⟨b, o, e, hb, hc⟩
  · exact .inl h4
  · exact .inr ⟨b, o, e, hb, fun j u hu => (World.cell?_of_block (hk b hb)).trans (hc j u hu)⟩
theorem Sl.keep_from {lo : Nat} (h : Sl w B A n c xs) (hlo : ∀ ad, A = some ad → lo ≤ ad.block) (hk : ∀ k, lo ≤ k → k < B → w'.heap[k]? = w.heap[k]?) : Sl w' B A n c xs := by
  obtain ⟨h1, h2, h3, h4⟩ := h
  refine ⟨h1, h2, h3, ?_⟩
  rcases h4 with h4 | ⟨b, o, e, hb, hc⟩
  · exact .inl h4
  · exact .inr ⟨b, o, e, hb, fun j u hu => (World.cell?_of_block (hk b (hlo _ e) hb)).trans (hc j u hu)⟩
theorem Sl.more (h : Sl w B A n c xs) (hB : B ≤ B') : Sl w B' A n c xs := by
  obtain ⟨h1, h2, h3, h4⟩ := h
  refine ⟨h1, h2, h3, ?_⟩
  rcases h4 with h4 | ⟨b, o, e, hb, hc⟩
  · exact .inl h4
  · exact .inr ⟨b, o, e, by omega, hc⟩
theorem Sl.below (h : Sl w B A n c xs) (hb : Below B w w') : Sl w' B A n c xs := h.keep hb.block
theorem Sl.drewN (h : Sl w B A n c xs) (k : Nat) : Sl (w.drewN k) B A n c xs := h.keep fun _ _ => rfl
theorem Sl.at_ (h : Sl w B A n c xs) {k : Nat} (hk : k < n) : ∃ b o u, A = some ⟨b, o, none⟩ ∧ b < B ∧ xs[k]? = some u ∧ w.cell? ⟨b, o + k, none⟩ = some u := by
  obtain ⟨h1, h2, h3, h4⟩ := h
  rcases h4 with h4 | ⟨b, o, e, hb, hc⟩
  · omega
  · have hl : k < xs.length := by omega
    exact ⟨b, o, xs[k], e, hb, List.getElem?_eq_getElem hl, hc k _ (List.getElem?_eq_getElem hl)⟩
theorem Sl.byte {l : List UInt8} (h : Sl w B A n c (bv l)) {k : Nat} (hk : k < n) : ∃ b o, A = some ⟨b, o, none⟩ ∧ b < B ∧ ∃ hl : k < l.length, w.cell? ⟨b, o + k, none⟩ = some (.int .u8 (l[k].toNat : Int)) := by
  obtain ⟨b, o, u, e, hb, hx, hc⟩ := h.at_ hk
  have hl : k < l.length := by have := h.1; rw [bv_len] at this; omega
  rw [bv_get hl] at hx
  injection hx with hx
  subst hx
  exact ⟨b, o, e, hb, hl, hc⟩
theorem Sl.take (h : Sl w B A n c xs) {k : Nat} (hk : k ≤ n) : Sl w B A k c (xs.take k) := by
  obtain ⟨h1, h2, h3, h4⟩ := h
  refine ⟨by rw [List.length_take]; omega, by omega, h3, ?_⟩
  rcases h4 with h4 | ⟨b, o, e, hb, hc⟩
  · left; omega
  · refine .inr ⟨b, o, e, hb, fun j u hu => hc j u ?_⟩
    rw [List.getElem?_take] at hu
    split at hu
    · exact hu
    · cases hu
theorem Sl.drop (h : Sl w B A n c xs) {k : Nat} (hk : k ≤ n) : Sl w B (if c = k then A else A.map (·.add k)) (n - k) (c - k) (xs.drop k) := by
  obtain ⟨h1, h2, h3, h4⟩ := h
  refine ⟨by rw [List.length_drop]; omega, by omega, by omega, ?_⟩
  rcases h4 with h4 | ⟨b, o, e, hb, hc⟩
  · left; omega
  · by_cases hn : n = k
    · left; omega
    · right
      subst e
      rw [if_neg (by omega)]
      refine ⟨b, o + k, ?_, hb, fun j u hu => ?_⟩
      · by_cases hk0 : k = 0 <;> simp [Addr.add, hk0]
      · rw [Nat.add_assoc]
        exact hc (k + j) u (by rw [← hu, List.getElem?_drop])
theorem own_from {base e : Nat} {v : Value} (h : w.ownsRow base e 1 v n xs) (hv : v = .slice A n c) : ∀ ad, A = some ad → base ≤ ad.block := by
  rintro ad rfl
  exact (h.lt ad.block (by rw [hv]; rfl)).1
theorem Sl.of_own {base e : Nat} (h : w.ownsRow base e 1 (.slice A n c) n xs) : Sl w w.heap.size A n c xs := by
  have hl := h.1
  rcases h.2 with ⟨hv, hn⟩ | ⟨g, cap, cur, hv, hb, hg, hnc, hcm, hcs, ht⟩
  · injection hv with h1 h2 h3
    subst h1 h2 h3
    exact ⟨by simpa using hl, Nat.le_refl _, by simp [maxLen], .inl rfl⟩
  · injection hv with h1 h2 h3
    subst h1 h3
    refine ⟨by simpa using hl, hnc, hcm, .inr ⟨g, 0, rfl, ?_, fun j u hu => ?_⟩⟩
    · rcases Nat.lt_or_ge g w.heap.size with hlt | hge
      · exact hlt
      · rw [Array.getElem?_eq_none hge] at hg; cases hg
    · have := h.cells (g := g) rfl j u hu
      by_cases hj : j = 0
      · subst hj; simpa [Addr.add] using this
      · simpa [Addr.add, hj] using this
end

/-- A block of known cells, none of them frozen. -/
def Ob (w : World) (g : Nat) (t : TypeId) (cs : Array Value) : Prop := w.heap[g]? = some (.cells cs t (0, 0))
section
variable {w w' : World} {g : Nat} {t : TypeId} {cs : Array Value}
theorem Ob.lt (h : Ob w g t cs) : g < w.heap.size := by
  rcases Nat.lt_or_ge g w.heap.size with hlt | hge
  · exact hlt
  · unfold Ob at h; rw [Array.getElem?_eq_none hge] at h; cases h
theorem Ob.cell (h : Ob w g t cs) (i : Nat) : w.cell? ⟨g, i, none⟩ = cs[i]? := cell_of_row w g i cs t (0, 0) h
theorem Ob.frozen (h : Ob w g t cs) (i : Nat) : w.frozen? ⟨g, i, none⟩ = false := by unfold Ob at h; simp [World.frozen?, h]
theorem Ob.made (w : World) (t : TypeId) (cs : Array Value) : Ob (w.alloc (.cells cs t)) w.heap.size t cs := heap_alloc_new w _
theorem Ob.keep (h : Ob w g t cs) (hk : w'.heap[g]? = w.heap[g]?) : Ob w' g t cs := hk.trans h
theorem Ob.below {B : Nat} (h : Ob w g t cs) (hb : Below B w w') (hg : g < B) : Ob w' g t cs := h.keep (hb.block g hg)
theorem Ob.put (h : Ob w g t cs) (i : Nat) (u : Value) : Ob (w.setCell ⟨g, i, none⟩ u) g t (cs.setIfInBounds i u) := by
  unfold Ob at h ⊢
  simp [World.setCell, Array.getElem?_modify, h]
end

/-- Only block r, and what is new, has changed. -/
def Only (r : Nat) (w w' : World) : Prop := w.grownBy w' (some r)
section
variable {r : Nat} {w w' w'' : World}
theorem Only.refl : Only r w w := ⟨rfl, rfl, rfl, Nat.le_refl _, fun _ _ _ => rfl⟩
theorem Only.heap (h : Only r w w') {k : Nat} (hk : k < w.heap.size) (hr : k ≠ r) : w'.heap[k]? = w.heap[k]? := h.block k hk (fun e => hr (by injection e))
theorem Only.le (h : Only r w w') : w.heap.size ≤ w'.heap.size := h.size
theorem Only.trans (h : Only r w w') (k : Only r w' w'') : Only r w w'' :=
  ⟨k.os.trans h.os, k.tape.trans h.tape, k.output.trans h.output, Nat.le_trans h.size k.size, fun i hi hn => (k.block i (Nat.lt_of_lt_of_le hi h.size) hn).trans (h.block i hi hn)⟩
theorem Only.drewN (h : Only r w w') (n : Nat) : Only r w (w'.drewN n) := ⟨h.os, h.tape, h.output, h.size, h.block⟩
theorem Only.of_below (h : Below w.heap.size w w') : Only r w w' := ⟨h.os, h.tape, h.output, h.size, fun k hk _ => h.block k hk⟩
theorem Only.setCell (h : Only r w w') {p : Addr} (hp : p.block = r) (u : Value) : Only r w (w'.setCell p u) :=
  ⟨h.os, h.tape, h.output, by simpa [World.setCell] using h.size, fun i hi hne => (Below.heap_setCell w' p u i (by rw [hp]; rintro rfl; exact hne rfl)).trans (h.block i hi hne)⟩
theorem Only.below {B : Nat} (h : Only r w w') (hB : B ≤ w.heap.size) (hr : B ≤ r) : Below B w w' :=
  ⟨h.os, h.tape, h.output, h.size, fun k hk => h.heap (by omega) (by omega)⟩
end

theorem below_drewN {B : Nat} {a w : World} (h : Below B a w) (n : Nat) : Below B a (w.drewN n) := ⟨h.os, h.tape, h.output, h.size, h.block⟩
theorem ret_bool {a b : Bool} (h : a = b) : Ending.returned (.bool a) = .returned (.bool b) := by rw [h]
theorem ret_int {k : IntKind} {a b : Int} (h : a = b) : Ending.returned (.int k a) = .returned (.int k b) := by rw [h]

theorem bytes_ne {a b : UInt8} : ((a.toNat : Int) != (b.toNat : Int)) = (a != b) := by
  rw [Bool.eq_iff_iff]
  simp only [bne_iff_ne, ne_eq]
  constructor
  · intro h e; exact h (by rw [e])
  · intro h e; exact h (UInt8.toNat_inj.1 (by omega))

end Go.Proofs.Ytjpkemamfccfdaa
/- Go's operations on numbers as plain arithmetic, and append and copy as equations on one run, over the words of XMem. -/
namespace Go.Proofs.Ytjpkemamfccfdaa
open Go.RowKit

theorem i64_inv {k : Int} (h1 : -9223372036854775808 ≤ k) (h2 : k ≤ 9223372036854775807) : bits .xor .i64 (-1) k = -k - 1 := by
  show IntKind.i64.wrap ((BitVec.ofInt 64 (-1) ^^^ BitVec.ofInt 64 k).toNat : Int) = _
  have e1 : BitVec.ofInt 64 (-1) = BitVec.allOnes 64 := by decide
  have e2 : BitVec.allOnes 64 ^^^ BitVec.ofInt 64 k = ~~~(BitVec.ofInt 64 k) := by rw [BitVec.allOnes_xor]
  rw [e1, e2, BitVec.toNat_not, BitVec.toNat_ofInt, IntKind.wrap_i64]
  omega

set_option maxRecDepth 100000 in
theorem lor128 : ∀ x : Nat, x < 256 → x ||| 128 = x % 128 + 128 := by decide +kernel
theorem u8_or128 {x : Int} (h1 : 0 ≤ x) (h2 : x < 256) : bits .or .u8 x 128 = x % 128 + 128 := by
  rw [u8_or x 128 h1 h2 (by omega) (by omega)]
  have := lor128 x.toNat (by omega)
  have e : (128 : Int).toNat = 128 := rfl
  rw [e, this]; omega
theorem u8_and127 {x : Int} (h1 : 0 ≤ x) (h2 : x < 256) : bits .and .u8 x 127 = x % 128 := by
  rw [u8_and x 127 h1 h2 (by omega) (by omega)]
  have e : (127 : Int).toNat = 127 := rfl
  rw [e, nat_mask7]; omega

theorem one_byte (x : Int) : (Value.int .u8 x).oneCell' = true := rfl
theorem one_bv {l : List UInt8} : ∀ v ∈ bv l, v.oneCell' = true := by
  intro v hv
  obtain ⟨c, _, rfl⟩ := List.mem_map.1 hv
  rfl

section
variable {P : Program} {T E : TypeId} {i : TypeInfo}

/-- append(out, x) with one byte, out being the call's own row; the byte's block has just been made. -/
theorem append_one (ht : P.underlying T = some (.slice E)) (hi : P.info? E = some i) (hz : i.zero = some (.int .u8 0)) (hs : i.size = 1) (hb : i.bytes = 1)
    {w : World} {base n c ty : Nat} {A : Option Addr} {xs : List Value} (h : w.ownsRow base E 1 (.slice A n c) n xs) (hn : n ≤ 140737488355327) (hbase : base ≤ w.heap.size) (x : Int) :
    ∃ A' c' w', (Builtin.append_ #[T, T] ty #[.slice A n c, .slice (some ⟨w.heap.size, 0, none⟩) 1 1]).run P (w.alloc (.cells #[.int .u8 x] E)) = .ok (.slice A' (n + 1) c') w' ∧
      w'.ownsRow base E 1 (.slice A' (n + 1) c') (n + 1) (xs ++ [.int .u8 x]) ∧ Below base w w' := by
  obtain ⟨v', w', hrun, h2, h3, h4⟩ := run_append_own (P := P) (w.alloc (.cells #[.int .u8 x] E)) base T ty E i (.int .u8 0) 1 1 ht hi hz hs hb rfl (by omega) (.slice A n c) n xs (h.alloc _)
    ⟨w.heap.size, 0, none⟩ 1 1 [.int .u8 x] rfl (by
      intro j u hu
      match j, hu with
      | 0, hu => simp at hu; subst hu; simp [Addr.add, World.cell?_alloc_at]
      | j + 1, hu => simp at hu) (by simp [one_byte]) (by unfold maxLen; omega) (by omega) (by simp; omega)
  have hform : ∃ A' c', v' = .slice A' (n + 1) c' := by
    rcases h2.2 with ⟨_, hz⟩ | ⟨g, cap, cur, hv, _⟩
    · omega
    · exact ⟨_, _, hv⟩
  obtain ⟨A', c', rfl⟩ := hform
  refine ⟨A', c', w', hrun, h2, ?_⟩
  refine ((Below.refl base w).alloc hbase _).grown h3 (by simp; omega) (fun k hk => ?_)
  exact (h.lt k hk).1

theorem append_nil_src (ht : P.underlying T = some (.slice E)) (hi : P.info? E = some i) {w : World} {base n c ty : Nat} {size : Nat} {v : Value} {xs : List Value} (h : w.ownsRow base E size v n xs) :
    (Builtin.append_ #[T, T] ty #[v, .slice none 0 c]).run P w = .ok v w := by
  rcases h.2 with ⟨rfl, rfl⟩ | ⟨g, cap, cur, rfl, _, _, hnc, _⟩
  · simp [Builtin.append_, run_underlying ht, sizeOf, typeInfo, hi, Builtin.lenOf, Builtin.firstCells]
  · simp [Builtin.append_, run_underlying ht, sizeOf, typeInfo, hi, Builtin.lenOf, Builtin.firstCells, hnc, storeCells]

/-- append(out, b...) of a row that lies somewhere. -/
theorem append_row (ht : P.underlying T = some (.slice E)) (hi : P.info? E = some i) (hz : i.zero = some (.int .u8 0)) (hs : i.size = 1) (hb : i.bytes = 1)
    {w : World} {base B n c m c2 ty : Nat} {A A2 : Option Addr} {xs ys : List Value} (h : w.ownsRow base E 1 (.slice A n c) n xs) (hy : Sl w B A2 m c2 ys) (h1 : ∀ v ∈ ys, v.oneCell' = true)
    (hn : n + m ≤ 140737488355328) (hbase : base ≤ w.heap.size) :
    ∃ A' c' w', (Builtin.append_ #[T, T] ty #[.slice A n c, .slice A2 m c2]).run P w = .ok (.slice A' (n + m) c') w' ∧
      w'.ownsRow base E 1 (.slice A' (n + m) c') (n + m) (xs ++ ys) ∧ Below base w w' := by
  have hlen := hy.len
  have fin : ∀ (ad : Addr), A2 = some ad → (∀ j u, ys[j]? = some u → w.cell? (ad.add j) = some u) → ∃ A' c' w', (Builtin.append_ #[T, T] ty #[.slice A n c, .slice A2 m c2]).run P w = .ok (.slice A' (n + m) c') w' ∧
      w'.ownsRow base E 1 (.slice A' (n + m) c') (n + m) (xs ++ ys) ∧ Below base w w' := by
    rintro ad rfl hc
    obtain ⟨v', w', hrun, h2, h3, h4⟩ := run_append_own (P := P) w base T ty E i (.int .u8 0) 1 1 ht hi hz hs hb rfl (by omega) (.slice A n c) n xs h
      ad m c2 ys (by omega) hc h1 (by unfold maxLen; omega) (by omega) hbase
    have hform : ∃ A' c', v' = .slice A' (n + m) c' := by
      rcases h2.2 with ⟨hv, hz⟩ | ⟨g, cap, cur, hv, _⟩
      · exact ⟨_, _, by rw [hv, hz]⟩
      · exact ⟨_, _, hv⟩
    obtain ⟨A', c', rfl⟩ := hform
    exact ⟨A', c', w', hrun, h2, (Below.refl base w).grown h3 hbase (fun k hk => (h.lt k hk).1)⟩
  rcases hy.2.2.2 with h0 | ⟨b, o, e, hb', hc⟩
  · subst h0
    obtain rfl : ys = [] := List.eq_nil_of_length_eq_zero hlen
    rcases A2 with _ | ad
    · exact ⟨A, c, w, append_nil_src ht hi h, by simpa using h, Below.refl _ _⟩
    · exact fin ad rfl (fun j u hu => by simp at hu)
  · refine fin _ e fun j u hu => ?_
    have := hc j u hu
    by_cases hj : j = 0
    · subst hj; simpa [Addr.add] using this
    · simpa [Addr.add, hj] using this

/-- append(out, s...) of a text. -/
theorem append_text (ht : P.underlying T = some (.slice E)) (hi : P.info? E = some i) (hz : i.zero = some (.int .u8 0)) (hs : i.size = 1) (hb : i.bytes = 1) {S : TypeId} (hS : P.underlying S = some .string)
    {w : World} {base n c ty : Nat} {A : Option Addr} {xs : List Value} (h : w.ownsRow base E 1 (.slice A n c) n xs) (s : ByteArray) (hn : n + s.size ≤ 140737488355328) (hbase : base ≤ w.heap.size) :
    ∃ A' c' w', (Builtin.append_ #[T, S] ty #[.slice A n c, .string s]).run P w = .ok (.slice A' (n + s.size) c') w' ∧
      w'.ownsRow base E 1 (.slice A' (n + s.size) c') (n + s.size) (xs ++ bv s.data.toList) ∧ Below base w w' := by
  obtain ⟨v', w', hrun, h2, h3, h4⟩ := Lib.run_append_own_string (P := P) w base T S ty E i ht hS hi hz hs hb (.slice A n c) n xs h s (by unfold maxLen; omega) (by omega) hbase
  have hform : ∃ A' c', v' = .slice A' (n + s.size) c' := by
    rcases h2.2 with ⟨hv, hz⟩ | ⟨g, cap, cur, hv, _⟩
    · exact ⟨_, _, by rw [hv, hz]⟩
    · exact ⟨_, _, hv⟩
  obtain ⟨A', c', rfl⟩ := hform
  refine ⟨A', c', w', hrun, ?_, (Below.refl base w).grown h3 hbase (fun k hk => (h.lt k hk).1)⟩
  have e : Lib.strCells s = bv s.data.toList := by simp [Lib.strCells, bv]
  rw [← e]; exact h2

/-- copy(to, from): the row 'to' is a known block, 'from' is as long as 'to'. -/
theorem copy_all (ht : P.underlying T = some (.slice E)) (hi : P.info? E = some i) (hs : i.size = 1)
    {w : World} {B g n m c ty : Nat} {A : Option Addr} {xs : List Value} {cur : Array Value} {t : TypeId} (hg : Ob w g t cur) (h : Sl w B A n c xs) (hn : n ≤ cur.size) (h1 : ∀ v ∈ xs, v.oneCell' = true) :
    ∃ w', (Builtin.copy_ #[T, T] ty #[.slice (some ⟨g, 0, none⟩) n m, .slice A n c]).run P w = .ok (.int .i64 (n : Int)) w' ∧ Ob w' g t (xs ++ cur.toList.drop n).toArray ∧ w'.heap.size = w.heap.size ∧ Only g w w' := by
  have hlen := h.len
  have hsz : (P.info? E).map (·.size) = some 1 := by rw [hi]; simp [hs]
  by_cases h0 : n = 0
  · subst h0
    obtain rfl : xs = [] := List.eq_nil_of_length_eq_zero hlen
    refine ⟨w, run_copy_none (P := P) w T T ty E _ A 0 m 0 c ht hsz rfl, by simpa using hg, rfl, Only.refl⟩
  · obtain ⟨b, o, e, hb, hc⟩ : ∃ b o, A = some ⟨b, o, none⟩ ∧ b < B ∧ ∀ j u, xs[j]? = some u → w.cell? ⟨b, o + j, none⟩ = some u := h.2.2.2.resolve_left h0
    subst e
    have hr := run_copy_row (P := P) w T T ty E g 0 n m ⟨b, o, none⟩ n c cur t xs ht hsz hg (by simpa using hlen) (fun j v hj => by
      have := hc j v hj
      by_cases hj0 : j = 0
      · subst hj0; simpa [Addr.add] using this
      · simpa [Addr.add, hj0] using this) (by omega) h1
    refine ⟨w.setRow g (cur.toList.take 0 ++ (xs ++ cur.toList.drop (0 + xs.length))).toArray, by rw [hr]; simp [goInt, hlen], ?_, by simp [World.setRow], ⟨rfl, rfl, rfl, by simp [World.setRow], fun k hk hne => setRow_other w g k _ (fun e => hne (by rw [e]))⟩⟩
    have := setRow_heap w g cur (cur.toList.take 0 ++ (xs ++ cur.toList.drop (0 + xs.length))).toArray t _ hg
    unfold Ob
    rw [this, hlen]
    simp
end

/-- An append whose run is known. -/
theorem wpList_append_run {P : Program} {w w' : World} {ops : Array Oper} {rest : List Oper} {o : Oper} {a : Act} {Q : Exit → Act → World → Prop} (hgd : o.guard = none) (s x : Operand) (t u : TypeId)
    (ho : o.op = .call { callee := .builtin .append, args := #[s, x], argTypes := #[t, u] }) {sv xv v' : Value} (hs : a.eval s = sv) (hx : a.eval x = xv)
    (hrun : (Builtin.append_ #[t, u] o.type #[sv, xv]).run P w = .ok v' w') (h : wpList P ops Q rest (a.put o.dst v') w') : wpList P ops Q (o :: rest) a w := by
  refine wpList_plain hgd fun K hK => ?_
  unfold Oper.wp execOp
  simp only [ho, resolve, invoke, builtin, Sem.run_bind, Sem.run_pure, Result.andThen_ok, List.map_toArray, List.map_cons, List.map_nil, hs, hx, hrun]
  exact hK _ _ h
end Go.Proofs.Ytjpkemamfccfdaa
/- Small facts of new memory and of numbers that come in (any types). -/
namespace Go.Proofs.Ytjpkemamfccfdaa
open Go.RowKit

theorem wf_bounds {a : Int} (h : (Lit.int .i64 a).wf = true) : -9223372036854775808 ≤ a ∧ a ≤ 9223372036854775807 := by
  simp only [Lit.wf, Bool.and_eq_true, decide_eq_true_eq] at h
  exact h
theorem wf_u64 {a : Int} (h : (Lit.int .u64 a).wf = true) : ∃ n : Nat, a = (n : Int) ∧ n < 18446744073709551616 := by
  simp only [Lit.wf, Bool.and_eq_true, decide_eq_true_eq] at h
  have h1 : (0 : Int) ≤ a := h.1
  have h2 : a ≤ 18446744073709551615 := h.2
  exact ⟨a.toNat, by omega, by omega⟩
theorem wf_u8 {a : Int} (h : (Lit.int .u8 a).wf = true) : ∃ c : UInt8, a = (c.toNat : Int) := by
  simp only [Lit.wf, Bool.and_eq_true, decide_eq_true_eq] at h
  have h1 : (0 : Int) ≤ a := h.1
  have h2 : a ≤ 255 := h.2
  exact ⟨UInt8.ofNat a.toNat, by simp; omega⟩

theorem Sl.then_ {w w' : World} {n c : Nat} {A : Option Addr} {xs : List Value} (h : Sl w w.heap.size A n c xs) (hb : Below w.heap.size w w') : Sl w' w'.heap.size A n c xs := (h.below hb).more hb.size
theorem below_step {w a b : World} (h1 : Below w.heap.size w a) (h2 : Below a.heap.size a b) : Below w.heap.size w b := h1.trans (h2.mono h1.size)
theorem only_step {w a b : World} {r : Nat} (h1 : Below w.heap.size w a) (h2 : Only r a b) (hr : w.heap.size ≤ r) : Below w.heap.size w b := h1.trans (h2.below h1.size hr)
theorem Sl.lit (w : World) (t : TypeId) (cs : List Value) (n : Nat) (hn : cs.length = n) (h63 : n ≤ maxLen) : Sl (w.alloc (.cells cs.toArray t)) (w.heap.size + 1) (some ⟨w.heap.size, 0, none⟩) n n cs := by
  refine ⟨hn, Nat.le_refl _, h63, .inr ⟨w.heap.size, 0, rfl, by omega, fun j u hu => ?_⟩⟩
  have := (Ob.made w t cs.toArray).cell j
  rw [Nat.zero_add, this]
  simpa using hu
theorem Below.lit {w w' : World} {o : Obj} (h : Below (w.alloc o).heap.size (w.alloc o) w') : Below w.heap.size w w' := ((Below.refl _ w).alloc (Nat.le_refl _) o).trans (h.mono (by simp))
theorem Sl.lit_keep {w : World} {B n c : Nat} {A : Option Addr} {xs : List Value} (h : Sl w B A n c xs) (hB : B ≤ w.heap.size) (o : Obj) : Sl (w.alloc o) B A n c xs := h.keep fun k hk => Below.heap_alloc w o k (by omega)
theorem Ob.sl {w : World} {g : Nat} {t : TypeId} {n : Nat} {xs : List Value} (h : Ob w g t xs.toArray) (hn : xs.length = n) (h63 : n ≤ maxLen) : Sl w (g + 1) (some ⟨g, 0, none⟩) n n xs := by
  refine ⟨hn, Nat.le_refl _, h63, .inr ⟨g, 0, rfl, by omega, fun j u hu => ?_⟩⟩
  have := h.cell j
  rw [Nat.zero_add, this]
  simpa using hu
theorem size_al (w : World) (o : Obj) : (w.alloc o).heap.size = w.heap.size + 1 := by simp
/-- An append whose run is known, as a step of a region that draws. -/
theorem step_append_run {P : Program} {ops : Array Oper} {o : Oper} {a : Act} {w w' : World} {K : Act → World → Prop} {Q : Exit → Act → World → Prop} {E : Prop}
    (hg : o.guard = none) (s x : Operand) (t u : TypeId) (hop : o.op = Op.call { callee := Callee.builtin Builtin.append, args := #[s, x], argTypes := #[t, u] })
    {sv xv v' : Value} (hs : a.eval s = sv) (hx : a.eval x = xv) (hrun : (Builtin.append_ #[t, u] o.type #[sv, xv]).run P w = .ok v' w') (hK : K (a.put o.dst v') w') :
    if Region.wanted o (yielded ops a.tmps) = true then Oper.wp P o a w K Q else E := by
  have hw : Region.wanted o (yielded ops a.tmps) = true := by simp [Region.wanted, hg]
  rw [if_pos hw]
  unfold Oper.wp
  simp [execOp, hop, resolve, invoke, builtin, hs, hx, hrun, Result.andThen]
  exact hK
end Go.Proofs.Ytjpkemamfccfdaa
/- What a stable sort by blocks does to a row, plainly: turning parts round, a merge by turning, one element put in its place. A row is a function of the place. -/
namespace Go.Proofs.Ytjpkemamfccfdaa
set_option linter.unusedVariables false

/-- From a to below b the elements have changed places; elsewhere nothing has. -/
def Mix {α : Type} (a b : Nat) (f g : Nat → α) : Prop :=
  (∀ i, ¬ (a ≤ i ∧ i < b) → g i = f i) ∧ ∃ σ τ : Nat → Nat, ∀ i, a ≤ i → i < b → a ≤ σ i ∧ σ i < b ∧ a ≤ τ i ∧ τ i < b ∧ τ (σ i) = i ∧ σ (τ i) = i ∧ g i = f (σ i)

theorem Mix.refl {α : Type} (a b : Nat) (f : Nat → α) : Mix a b f f :=
  ⟨fun _ _ => rfl, id, id, fun i h1 h2 => ⟨h1, h2, h1, h2, rfl, rfl, rfl⟩⟩

theorem Mix.trans {α : Type} {a b : Nat} {f g h : Nat → α} (x : Mix a b f g) (y : Mix a b g h) : Mix a b f h := by
  obtain ⟨x0, σ, τ, x1⟩ := x
  obtain ⟨y0, σ', τ', y1⟩ := y
  refine ⟨fun i hi => (y0 i hi).trans (x0 i hi), fun i => σ (σ' i), fun i => τ' (τ i), fun i h1 h2 => ?_⟩
  obtain ⟨p1, p2, p3, p4, p5, p6, p7⟩ := y1 i h1 h2
  obtain ⟨q1, q2, q3, q4, q5, q6, q7⟩ := x1 (σ' i) p1 p2
  obtain ⟨r1, r2, r3, r4, r5, r6, r7⟩ := x1 i h1 h2
  obtain ⟨s1, s2, s3, s4, s5, s6, s7⟩ := y1 (τ i) r3 r4
  refine ⟨q1, q2, s3, s4, ?_, ?_, ?_⟩
  · show τ' (τ (σ (σ' i))) = i
    rw [q5, p5]
  · show σ (σ' (τ' (τ i))) = i
    rw [s6, r6]
  · rw [p7, q7]

theorem Mix.wide {α : Type} {a b a' b' : Nat} {f g : Nat → α} (x : Mix a b f g) (ha : a' ≤ a) (hb : b ≤ b') : Mix a' b' f g := by
  obtain ⟨x0, σ, τ, x1⟩ := x
  refine ⟨fun i hi => x0 i (by omega), fun i => if a ≤ i ∧ i < b then σ i else i, fun i => if a ≤ i ∧ i < b then τ i else i, fun i h1 h2 => ?_⟩
  by_cases h : a ≤ i ∧ i < b
  · obtain ⟨p1, p2, p3, p4, p5, p6, p7⟩ := x1 i h.1 h.2
    simp only [if_pos h, if_pos (And.intro p1 p2), if_pos (And.intro p3 p4)]
    exact ⟨by omega, by omega, by omega, by omega, p5, p6, p7⟩
  · simp only [if_neg h]
    exact ⟨h1, h2, h1, h2, trivial, trivial, x0 i h⟩

/-- The parts from s and from m, to below e, turned round. -/
def rotF {α : Type} (s m e : Nat) (f : Nat → α) : Nat → α := fun i => if s ≤ i ∧ i < s + (e - m) then f (i - s + m) else if s + (e - m) ≤ i ∧ i < e then f (i - (e - m)) else f i
/-- Two parts of n each, from a and from b, exchanged. -/
def swapF {α : Type} (a b n : Nat) (f : Nat → α) : Nat → α := fun i => if a ≤ i ∧ i < a + n then f (b + (i - a)) else if b ≤ i ∧ i < b + n then f (a + (i - b)) else f i

theorem Mix.rot {α : Type} {s m e : Nat} (f : Nat → α) (h1 : s ≤ m) (h2 : m ≤ e) : Mix s e f (rotF s m e f) := by
  refine ⟨fun i hi => ?_, fun i => if i < s + (e - m) then i - s + m else i - (e - m), fun j => if j < m then j + (e - m) else j - m + s, fun i hs he => ?_⟩
  · simp only [rotF]
    rw [if_neg (by omega), if_neg (by omega)]
  · refine ⟨?_, ?_, ?_, ?_, ?_, ?_, ?_⟩
    · show s ≤ (if i < s + (e - m) then i - s + m else i - (e - m))
      split <;> omega
    · show (if i < s + (e - m) then i - s + m else i - (e - m)) < e
      split <;> omega
    · show s ≤ (if i < m then i + (e - m) else i - m + s)
      split <;> omega
    · show (if i < m then i + (e - m) else i - m + s) < e
      split <;> omega
    · show (if (if i < s + (e - m) then i - s + m else i - (e - m)) < m then (if i < s + (e - m) then i - s + m else i - (e - m)) + (e - m) else (if i < s + (e - m) then i - s + m else i - (e - m)) - m + s) = i
      by_cases h : i < s + (e - m)
      · simp only [if_pos h]
        rw [if_neg (by omega)]
        omega
      · simp only [if_neg h]
        rw [if_pos (by omega)]
        omega
    · show (if (if i < m then i + (e - m) else i - m + s) < s + (e - m) then (if i < m then i + (e - m) else i - m + s) - s + m else (if i < m then i + (e - m) else i - m + s) - (e - m)) = i
      by_cases h : i < m
      · simp only [if_pos h]
        rw [if_neg (by omega)]
        omega
      · simp only [if_neg h]
        rw [if_pos (by omega)]
        omega
    · show rotF s m e f i = f (if i < s + (e - m) then i - s + m else i - (e - m))
      simp only [rotF]
      by_cases h : i < s + (e - m)
      · rw [if_pos ⟨hs, h⟩, if_pos h]
      · rw [if_neg (by omega), if_pos (by omega), if_neg h]

theorem rotF_at1 {α : Type} {s m e i : Nat} {f : Nat → α} (h1 : s ≤ i) (h2 : i < s + (e - m)) : rotF s m e f i = f (i - s + m) := if_pos ⟨h1, h2⟩
theorem rotF_at2 {α : Type} {s m e i : Nat} {f : Nat → α} (h1 : s + (e - m) ≤ i) (h2 : i < e) : rotF s m e f i = f (i - (e - m)) := by
  simp only [rotF]
  rw [if_neg (by omega), if_pos (by omega)]
theorem rotF_out {α : Type} {s m e i : Nat} {f : Nat → α} (hm : m ≤ e) (hs : s ≤ m) (h : i < s ∨ e ≤ i) : rotF s m e f i = f i := by
  simp only [rotF]
  rw [if_neg (by omega), if_neg (by omega)]
theorem rotF_none1 {α : Type} {s e : Nat} (f : Nat → α) (h : s ≤ e) : rotF s s e f = f := by
  funext i
  simp only [rotF]
  repeat' split
  all_goals first | rfl | (congr 1; omega)
theorem rotF_none2 {α : Type} {s e : Nat} (f : Nat → α) : rotF s e e f = f := by
  funext i
  simp only [rotF]
  repeat' split
  all_goals first | rfl | (exfalso; omega) | (congr 1; omega)

/-- One exchange of turning round: the front part is the longer one. -/
theorem rot_front {α : Type} {m i j : Nat} (f : Nat → α) (h : j < i) (hi : i ≤ m) (hj : 0 < j) : rotF (m - (i - j)) m (m + j) (swapF (m - i) m j f) = rotF (m - i) m (m + j) f := by
  funext k
  simp only [rotF, swapF]
  repeat' split
  all_goals first | (exfalso; omega) | (congr 1; omega) | rfl
/-- .. the hind part is. -/
theorem rot_hind {α : Type} {m i j : Nat} (f : Nat → α) (h : i < j) (hi : i ≤ m) (h0 : 0 < i) : rotF (m - i) m (m + (j - i)) (swapF (m - i) (m + j - i) i f) = rotF (m - i) m (m + j) f := by
  funext k
  simp only [rotF, swapF]
  repeat' split
  all_goals first | (exfalso; omega) | (congr 1; omega) | rfl
theorem rot_even {α : Type} {m i : Nat} (f : Nat → α) (hi : i ≤ m) : swapF (m - i) m i f = rotF (m - i) m (m + i) f := by
  funext k
  simp only [rotF, swapF]
  repeat' split
  all_goals first | (exfalso; omega) | (congr 1; omega) | rfl
/-- One more step to the right, to the left. -/
theorem rot_right {α : Type} {a k : Nat} (f : Nat → α) (h : a ≤ k) : swapF k (k + 1) 1 (rotF a (a + 1) (k + 1) f) = rotF a (a + 1) (k + 2) f := by
  funext x
  simp only [rotF, swapF]
  repeat' split
  all_goals first | (exfalso; omega) | (congr 1; omega) | rfl
theorem rot_left {α : Type} {j i : Nat} (f : Nat → α) (h : 0 < j) (hj : j ≤ i) : swapF (j - 1) j 1 (rotF j i (i + 1) f) = rotF (j - 1) i (i + 1) f := by
  funext x
  simp only [rotF, swapF]
  repeat' split
  all_goals first | (exfalso; omega) | (congr 1; omega) | rfl
theorem swapF_zero {α : Type} {a b : Nat} (f : Nat → α) : swapF a b 0 f = f := by
  funext x
  simp only [swapF]
  rw [if_neg (by omega), if_neg (by omega)]
theorem swapF_step {α : Type} {a b n : Nat} (f : Nat → α) (hd : a + n + 1 ≤ b) : swapF (a + n) (b + n) 1 (swapF a b n f) = swapF a b (n + 1) f := by
  funext x
  simp only [swapF]
  repeat' split
  all_goals first | (exfalso; omega) | (congr 1; omega) | rfl

/-- In order from a to below b. -/
def Up {α : Type} (le : α → α → Prop) (f : Nat → α) (a b : Nat) : Prop := ∀ i j, a ≤ i → i ≤ j → j < b → le (f i) (f j)

variable {α : Type} {le : α → α → Prop}
theorem Up.part {f : Nat → α} {a b a' b' : Nat} (h : Up le f a b) (ha : a ≤ a') (hb : b' ≤ b) : Up le f a' b' := fun i j h1 h2 h3 => h i j (by omega) h2 (by omega)
theorem Up.join {f : Nat → α} {a m b : Nat} (h1 : Up le f a m) (h2 : Up le f m b) (hx : ∀ i j, a ≤ i → i < m → m ≤ j → j < b → le (f i) (f j)) : Up le f a b := by
  intro i j hi hij hj
  by_cases h : j < m
  · exact h1 i j hi hij h
  · by_cases h' : i < m
    · exact hx i j hi h' (by omega) hj
    · exact h2 i j (by omega) hij hj
theorem Up.same {f g : Nat → α} {a b : Nat} (h : Up le f a b) (he : ∀ i, a ≤ i → i < b → g i = f i) : Up le g a b := fun i j h1 h2 h3 => by
  rw [he i h1 (by omega), he j (by omega) h3]
  exact h i j h1 h2 h3

/-- The four parts behind the turn. -/
theorem Up.rot {f : Nat → α} {a s m e b : Nat} (tr : ∀ x y z, le x y → le y z → le x z) (h1 : Up le f a m) (h2 : Up le f m b) (hs : a ≤ s) (hm : s ≤ m) (he : m ≤ e) (hb : e ≤ b)
    (b1 : a < s → e < b → le (f (s - 1)) (f e)) (b2 : m < e → s < m → le (f (e - 1)) (f s)) :
    Up le (rotF s m e f) a s ∧ Up le (rotF s m e f) s (s + (e - m)) ∧ Up le (rotF s m e f) (s + (e - m)) e ∧ Up le (rotF s m e f) e b
      ∧ ∀ i j, a ≤ i → i < s + (e - m) → s + (e - m) ≤ j → j < b → le (rotF s m e f i) (rotF s m e f j) := by
  refine ⟨?_, ?_, ?_, ?_, ?_⟩
  · exact (h1.part (Nat.le_refl _) hm).same fun i _ hi => rotF_out he hm (.inl hi)
  · intro i j hi hij hj
    rw [rotF_at1 hi (by omega), rotF_at1 (by omega) hj]
    exact h2 _ _ (by omega) (by omega) (by omega)
  · intro i j hi hij hj
    rw [rotF_at2 hi (by omega), rotF_at2 (by omega) hj]
    exact h1 _ _ (by omega) (by omega) (by omega)
  · exact (h2.part he (Nat.le_refl _)).same fun i hi _ => rotF_out he hm (.inr hi)
  · intro i j hi hi' hj hj'
    by_cases c1 : i < s
    · rw [rotF_out he hm (.inl c1)]
      by_cases c2 : j < e
      · rw [rotF_at2 hj c2]
        exact h1 _ _ hi (by omega) (by omega)
      · rw [rotF_out he hm (.inr (by omega))]
        exact tr _ _ _ (h1 i (s - 1) hi (by omega) (by omega)) (tr _ _ _ (b1 (by omega) (by omega)) (h2 e j he (by omega) hj'))
    · rw [rotF_at1 (by omega) hi']
      by_cases c2 : j < e
      · rw [rotF_at2 hj c2]
        exact tr _ _ _ (h2 _ (e - 1) (by omega) (by omega) (by omega)) (tr _ _ _ (b2 (by omega) (by omega)) (h1 s _ hs (by omega) (by omega)))
      · rw [rotF_out he hm (.inr (by omega))]
        exact h2 _ _ (by omega) (by omega) hj'

/-- Both halves put in order, each by itself: the whole is in order. -/
theorem Up.halves {f g h : Nat → α} {a m b : Nat} (ham : a ≤ m) (hmb : m ≤ b) (x : Mix a m f g) (y : Mix m b g h) (h1 : Up le g a m) (h2 : Up le h m b) (hx : ∀ i j, a ≤ i → i < m → m ≤ j → j < b → le (f i) (f j)) : Up le h a b := by
  refine Up.join (m := m) (h1.same fun i _ hi => y.1 i (by omega)) h2 fun i j hi hi' hj hj' => ?_
  obtain ⟨x0, σ, τ, x1⟩ := x
  obtain ⟨y0, σ', τ', y1⟩ := y
  obtain ⟨p1, p2, _, _, _, _, p7⟩ := x1 i hi hi'
  obtain ⟨q1, q2, _, _, _, _, q7⟩ := y1 j hj hj'
  rw [y0 i (by omega), p7, q7, x0 (σ' j) (by omega)]
  exact hx _ _ p1 p2 q1 q2

/-- The first element put in its place among the others, which are in order. -/
theorem Up.first {f : Nat → α} {a b i : Nat} (tr : ∀ x y z, le x y → le y z → le x z) (rf : ∀ x, le x x) (h2 : Up le f (a + 1) b) (hi : a + 1 ≤ i) (hb : i ≤ b)
    (b1 : i < b → le (f a) (f i)) (b2 : a + 1 < i → le (f (i - 1)) (f a)) : Up le (rotF a (a + 1) i f) a b := by
  have h1 : Up le f a (a + 1) := fun x y hx hxy hy => by
    obtain rfl : x = a := by omega
    obtain rfl : y = x := by omega
    exact rf _
  obtain ⟨r1, r2, r3, r4, r5⟩ := Up.rot tr h1 h2 (Nat.le_refl a) (by omega) hi hb (fun h => absurd h (by omega)) (fun h _ => b2 h)
  refine Up.join (m := a + (i - (a + 1))) (r2.part (by omega) (Nat.le_refl _)) (Up.join (m := i) r3 r4 fun x y hx hx' hy hy' => ?_) r5
  rw [rotF_at2 hx hx', rotF_out hi (by omega) (.inr hy)]
  have : x - (i - (a + 1)) = a := by omega
  rw [this]
  exact tr _ _ _ (b1 (by omega)) (h2 i y (by omega) hy hy')

/-- The last element put in its place. -/
theorem Up.last {f : Nat → α} {a m i : Nat} (tr : ∀ x y z, le x y → le y z → le x z) (rf : ∀ x, le x x) (h1 : Up le f a m) (ha : a ≤ i) (hm : i ≤ m)
    (b1 : a < i → le (f (i - 1)) (f m)) (b2 : i < m → le (f m) (f i)) : Up le (rotF i m (m + 1) f) a (m + 1) := by
  have h2 : Up le f m (m + 1) := fun x y hx hxy hy => by
    obtain rfl : x = m := by omega
    obtain rfl : y = x := by omega
    exact rf _
  obtain ⟨r1, r2, r3, r4, r5⟩ := Up.rot tr h1 h2 ha hm (by omega) (Nat.le_refl (m + 1)) (fun _ h => absurd h (by omega)) (fun _ h => by simpa using b2 h)
  refine Up.join (m := i + (m + 1 - m)) (Up.join (m := i) r1 r2 fun x y hx hx' hy hy' => ?_) (r3.part (Nat.le_refl _) (Nat.le_refl _)) r5
  rw [rotF_out (by omega) hm (.inl hx'), rotF_at1 hy hy']
  have : y - i + m = m := by omega
  rw [this]
  exact tr _ _ _ (h1 x (i - 1) hx (by omega) (by omega)) (b1 (by omega))
end Go.Proofs.Ytjpkemamfccfdaa
/- The parts of a stable sort, walked: exchanging, turning. -/
namespace Go.Proofs.Ytjpkemamfccfdaa
set_option linter.unusedVariables false
open Go.Shelf Go.RowKit Go.Lib Go.Sort

/-- What the walks ask of a program: the bodies, and the types they meet; an element has k cells. Stated over any program, so that an element's cells stay one list. -/
structure Sf (P : Program) (k : Nat) : Prop where
  mixed : P.follows .mixedOrders = true
  fS : P.funcs[82]? = some Try.f82
  fR : P.funcs[81]? = some Try.f81
  fM : P.funcs[80]? = some Try.f80
  fI : P.funcs[79]? = some Try.f79
  fT : P.funcs[76]? = some Try.f76
  t0 : P.underlying 0 = some (TypeDesc.tuple #[])
  a0 : ∀ w, (isAgg 0).run P w = .ok false w
  z0 : ∀ w, (Go.sizeOf 0).run P w = .ok 1 w
  v0 : ∀ w, (zeroValue 0).run P w = .ok (Value.tuple #[]) w
  t3 : P.underlying 3 = some (TypeDesc.int IntKind.i64)
  a3 : ∀ w, (isAgg 3).run P w = .ok false w
  z3 : ∀ w, (Go.sizeOf 3).run P w = .ok 1 w
  v3 : ∀ w, (zeroValue 3).run P w = .ok (Value.int IntKind.i64 0) w
  t4 : P.underlying 4 = some (TypeDesc.bool)
  a4 : ∀ w, (isAgg 4).run P w = .ok false w
  z4 : ∀ w, (Go.sizeOf 4).run P w = .ok 1 w
  v4 : ∀ w, (zeroValue 4).run P w = .ok (Value.bool false) w
  tU : P.underlying 99 = some (TypeDesc.int IntKind.u64)
  aU : ∀ w, (isAgg 99).run P w = .ok false w
  zU : ∀ w, (Go.sizeOf 99).run P w = .ok 1 w
  vU : ∀ w, (zeroValue 99).run P w = .ok (Value.int IntKind.u64 0) w
  tG : P.underlying 30 = some (TypeDesc.slice 48)
  aG : ∀ w, (isAgg 30).run P w = .ok false w
  zG : ∀ w, (Go.sizeOf 30).run P w = .ok 1 w
  vG : ∀ w, (zeroValue 30).run P w = .ok (Value.slice none 0 0) w
  aE : ∀ w, (isAgg 48).run P w = .ok true w
  zE : ∀ w, (Go.sizeOf 48).run P w = .ok k w
theorem sf : Sf Try.prog 3 where
  mixed := by kernel_rfl
  fS := Try.func82
  fR := Try.func81
  fM := Try.func80
  fI := Try.func79
  fT := Try.func76
  t0 := by kernel_rfl
  a0 := Try.isAgg0
  z0 := Try.sizeOf0
  v0 := Try.zeroValue0
  t3 := Try.underlying3
  a3 := Try.isAgg3
  z3 := Try.sizeOf3
  v3 := Try.zeroValue3
  t4 := Try.underlying4
  a4 := Try.isAgg4
  z4 := Try.sizeOf4
  v4 := Try.zeroValue4
  tU := Try.underlying99
  aU := Try.isAgg99
  zU := Try.sizeOf99
  vU := Try.zeroValue99
  tG := Try.underlying30
  aG := Try.isAgg30
  zG := Try.sizeOf30
  vG := Try.zeroValue30
  aE := Try.isAgg48
  zE := Try.sizeOf48

variable {P : Program} {k : Nat} {α : Type} [Inhabited α] {enc : α → List Value} {blk off : Nat} {d0 : Array α} {w0 : World}

/-- The row as a function of the place. -/
def rowF {α : Type} [Inhabited α] (d : Array α) : Nat → α := fun t => d[t]!

theorem rowF_swp {α : Type} [Inhabited α] (d : Array α) {i j : Nat} (hi : i < d.size) (hj : j < d.size) (hij : i ≠ j) : rowF (swp d i j) = swapF i j 1 (rowF d) := by
  funext t
  simp only [rowF, swapF]
  rw [swp_get d hi hj t]
  repeat' split
  all_goals first | (exfalso; omega) | (congr 1; omega) | rfl

set_option maxHeartbeats 4000000 in
set_option maxRecDepth 1000000 in
theorem swap_range (L : Sf P k) (cap a b c : Nat) (d : Array α) (w : World) (fn : Value) {N : Nat} (R : RowK enc k w0 blk off d0) (hs : d0.size = N) (hN : d.size = N) (S : SWK enc k w0 blk off d w) (hab : a + c ≤ b) (hb : b + c ≤ N) (hsz : N < 4611686018427387904) :
    Calls P 82 #[.slice (some ⟨blk, off, none⟩) N cap, .int .i64 a, .int .i64 b, .int .i64 c, fn] w fun e w' => e = .returned (.tuple #[]) ∧ ∃ d', d'.size = N ∧ SWK enc k w0 blk off d' w' ∧ rowF d' = swapF a b c (rowF d) := by
  subst hN
  have S0 : Aside (SWK enc k w0 blk off d w) := S
  clear S
  have mixed := L.mixed; have t0 := L.t0; have a0 := L.a0; have z0 := L.z0; have v0 := L.v0; have t3 := L.t3; have a3 := L.a3; have z3 := L.z3; have v3 := L.v3; have t4 := L.t4; have a4 := L.a4; have z4 := L.z4; have v4 := L.v4; have tG := L.tG; have aG := L.aG; have zG := L.zG; have vG := L.vG; have aE := L.aE; have zE := L.zE
  have FG := L.fS
  go_enter FG, Try.ntmps82
  go_wp2
  go_loopg [10] (c + 1) (fun kx s10 wr => ∃ (i : Nat) (dk : Array α), s10 = .int .i64 i ∧ i ≤ c ∧ c + 1 - i ≤ kx ∧ dk.size = d.size ∧ Aside (SWK enc k w0 blk off dk wr) ∧ Hid (rowF dk = swapF a b i (rowF d)))
  case atStart => exact ⟨0, d, rfl, by omega, by omega, rfl, S0, (swapF_zero _).symm⟩
  case round =>
    clear S0
    obtain ⟨i, dk, rfl, hic, hkx, hds, S1, heq⟩ := hrel
    by_cases hlt : (i : Int) < (c : Int)
    · go_wp2_with fail
      have ea : ((a : Int) + (i : Int)).toNat = a + i := by omega
      have pa : (0 : Int) ≤ (a : Int) + (i : Int) := by omega
      have ba : (a : Int) + (i : Int) < (d.size : Int) := by omega
      have ra : IntKind.i64.wrap ((a : Int) + (i : Int)) = (a : Int) + (i : Int) := by rw [IntKind.wrap_i64]; omega
      have eb : ((b : Int) + (i : Int)).toNat = b + i := by omega
      have pb : (0 : Int) ≤ (b : Int) + (i : Int) := by omega
      have bb : (b : Int) + (i : Int) < (d.size : Int) := by omega
      have rb : IntKind.i64.wrap ((b : Int) + (i : Int)) = (b : Int) + (i : Int) := by rw [IntKind.wrap_i64]; omega
      have S2 : Aside (SWK enc k w0 blk off (swp dk (a + i) (b + i)) ((wr.drew.setCells blk (off + (a + i) * k) (enc dk[b + i]!)).setCells blk (off + (b + i) * k) (enc dk[a + i]!))) := S1.out.swapped R (a + i) (b + i) (by omega) (by omega)
      have la := S1.out.ld1 R (by omega) P (a + i) (by omega)
      have lb := S1.out.ld1 R (by omega) P (b + i) (by omega)
      have sa := S1.out.st1 R (by omega) P (a + i) (by omega) dk[b + i]!
      have sb := S1.out.st2 R (by omega) P (a + i) (b + i) (by omega) (by omega) dk[b + i]! dk[a + i]!
      have na : (enc dk[a + i]!).length = k := R.hk _
      have nb : (enc dk[b + i]!).length = k := R.hk _
      generalize enc dk[a + i]! = cI at S2 la sb na
      generalize enc dk[b + i]! = cJ at S2 lb sa sb nb
      clear S1
      go_wp2_with fail
      go_big_region_o
      clear la lb sa sb
      generalize (wr.drew.setCells blk (off + (a + i) * k) cJ).setCells blk (off + (b + i) * k) cI = w2 at S2 ⊢
      go_wp2
      go_roundg (c - i)
      case measure => omega
      case rel =>
        exact ⟨i + 1, swp dk (a + i) (b + i), by go_num, by omega, by omega, by rw [size_swp]; exact hds, S2, by show _ = _; rw [rowF_swp dk (by omega) (by omega) (by omega), heq.out]; exact swapF_step _ (by omega)⟩
    · go_wp2
      go_end0
      obtain rfl : i = c := by omega
      exact ⟨rfl, dk, hds, S1.out, heq.out⟩
end Go.Proofs.Ytjpkemamfccfdaa
/- Turning a part of a row round, walked. -/
namespace Go.Proofs.Ytjpkemamfccfdaa
set_option linter.unusedVariables false
open Go.Shelf Go.RowKit Go.Lib Go.Sort
variable {P : Program} {k : Nat} {α : Type} [Inhabited α] {enc : α → List Value} {blk off : Nat} {d0 : Array α} {w0 : World}

set_option maxHeartbeats 4000000 in
set_option maxRecDepth 1000000 in
theorem rotate_any (L : Sf P k) (cap a m b : Nat) (d : Array α) (w : World) (fn : Value) {N : Nat} (R : RowK enc k w0 blk off d0) (hs : d0.size = N) (hN : d.size = N) (S : SWK enc k w0 blk off d w) (ham : a < m) (hmb : m < b) (hb : b ≤ N) (hsz : N < 4611686018427387904) :
    Calls P 81 #[.slice (some ⟨blk, off, none⟩) N cap, .int .i64 a, .int .i64 m, .int .i64 b, fn] w fun e w' => e = .returned (.tuple #[]) ∧ ∃ d', d'.size = N ∧ SWK enc k w0 blk off d' w' ∧ rowF d' = rotF a m b (rowF d) := by
  have S0 : Aside (SWK enc k w0 blk off d w) := S
  clear S
  have mixed := L.mixed; have t0 := L.t0; have a0 := L.a0; have z0 := L.z0; have v0 := L.v0; have t3 := L.t3; have a3 := L.a3; have z3 := L.z3; have v3 := L.v3; have t4 := L.t4; have a4 := L.a4; have z4 := L.z4; have v4 := L.v4; have tG := L.tG; have aG := L.aG; have zG := L.zG; have vG := L.vG; have aE := L.aE; have zE := L.zE
  have eS : ∀ args w, (callFunc 82 args).run P w = .ok (.enter 82 args) w := enters_of L.fS (by kernel_rfl) rfl
  have FG := L.fR
  go_enter FG, Try.ntmps81
  have ra : IntKind.i64.wrap ((m : Int) - (a : Int)) = ((m - a : Nat) : Int) := by rw [IntKind.wrap_i64]; omega
  have rb : IntKind.i64.wrap ((b : Int) - (m : Int)) = ((b - m : Nat) : Int) := by rw [IntKind.wrap_i64]; omega
  go_wp2
  go_loopg [10, 11] (b - a) (fun kx s10 s11 wr => ∃ (i j : Nat) (dk : Array α), s10 = .int .i64 i ∧ s11 = .int .i64 j ∧ 0 < i ∧ 0 < j ∧ i ≤ m - a ∧ m + j ≤ b ∧ i + j ≤ kx ∧ dk.size = N ∧ Aside (SWK enc k w0 blk off dk wr) ∧ Hid (rotF (m - i) m (m + j) (rowF dk) = rotF a m b (rowF d)))
  case atStart => exact ⟨m - a, b - m, d, by first | rfl | go_num | (congr 1; omega), by first | rfl | go_num | (congr 1; omega), by omega, by omega, by omega, by omega, by omega, hN, S0, by show _ = _; rw [show m - (m - a) = a by omega, show m + (b - m) = b by omega]⟩
  case round =>
    clear S0 ra rb
    obtain ⟨i, j, dk, rfl, rfl, hi0, hj0, him, hjb, hkx, hds, S1, heq⟩ := hrel
    have r1 : IntKind.i64.wrap ((m : Int) - (i : Int)) = ((m - i : Nat) : Int) := by rw [IntKind.wrap_i64]; omega
    by_cases hij : i = j
    · subst hij
      have hcall := swap_range L cap (m - i) m i dk wr fn R hs hds S1.out (by omega) (by omega) hsz
      go_wp2_with (first | (go_at_fn 82; refine hcall.mono ?_; rintro e w5 ⟨rfl, dx, hdx, SX, hx⟩))
      go_end0
      refine ⟨rfl, dx, by omega, SX, ?_⟩
      rw [hx, rot_even _ (by omega)]
      exact heq.out
    · by_cases hlt : j < i
      · have r2 : IntKind.i64.wrap ((i : Int) - (j : Int)) = ((i - j : Nat) : Int) := by rw [IntKind.wrap_i64]; omega
        have hcall := swap_range L cap (m - i) m j dk wr fn R hs hds S1.out (by omega) (by omega) hsz
        go_wp2_with (first | (go_at_fn 82; refine hcall.mono ?_; rintro e w5 ⟨rfl, dx, hdx, SX, hx⟩))
        go_roundg (i - j + j)
        case measure => omega
        case rel => exact ⟨i - j, j, dx, by first | rfl | go_num | (congr 1; omega), rfl, by omega, by omega, by omega, by omega, by omega, by omega, SX, by show _ = _; rw [hx, rot_front _ hlt (by omega) hj0]; exact heq.out⟩
      · have r2 : IntKind.i64.wrap ((j : Int) - (i : Int)) = ((j - i : Nat) : Int) := by rw [IntKind.wrap_i64]; omega
        have hcall := swap_range L cap (m - i) (m + j - i) i dk wr fn R hs hds S1.out (by omega) (by omega) hsz
        rw [show ((m + j - i : Nat) : Int) = (m : Int) + (j : Int) - (i : Int) by omega] at hcall
        go_wp2_with (first | (go_at_fn 82; refine hcall.mono ?_; rintro e w5 ⟨rfl, dx, hdx, SX, hx⟩))
        go_roundg (i + (j - i))
        case measure => omega
        case rel => exact ⟨i, j - i, dx, rfl, by first | rfl | go_num | (congr 1; omega), by omega, by omega, by omega, by omega, by omega, by omega, SX, by show _ = _; rw [hx, rot_hind _ (by omega) (by omega) hi0]; exact heq.out⟩
end Go.Proofs.Ytjpkemamfccfdaa
/- Insertion, walked. -/
namespace Go.Proofs.Ytjpkemamfccfdaa
set_option linter.unusedVariables false
open Go.Shelf Go.RowKit Go.Lib Go.Sort
variable {P : Program} {k : Nat} {α : Type} [Inhabited α] {enc : α → List Value} {blk off : Nat} {d0 : Array α} {w0 : World}

theorem swapF_comm {α : Type} {a b : Nat} (f : Nat → α) (h : a ≠ b) : swapF a b 1 f = swapF b a 1 f := by
  funext x
  simp only [swapF]
  repeat' split
  all_goals first | (exfalso; omega) | (congr 1; omega) | rfl

/-- The order that a comparison makes. -/
def LeC (cf : α → α → Int) (x y : α) : Prop := ¬ cf y x < 0
structure OrdC (cf : α → α → Int) : Prop where
  tr : ∀ x y z, LeC cf x y → LeC cf y z → LeC cf x z
  asym : ∀ x y, cf x y < 0 → ¬ cf y x < 0
omit [Inhabited α] in
theorem OrdC.rf {cf : α → α → Int} (h : OrdC cf) (x : α) : LeC cf x x := fun e => h.asym _ _ e e

set_option maxHeartbeats 4000000 in
set_option maxRecDepth 1000000 in
theorem ins_any (L : Sf P k) (cf : α → α → Int) (O : OrdC cf) (g : Nat) (cb : Array Value) (eg : ∀ args w, (callFunc g args).run P w = .ok (.enter g args) w) {N : Nat} (hC : CmpLays P g cb enc k cf blk off N w0) (cap a b : Nat) (d : Array α) (w : World) (R : RowK enc k w0 blk off d0) (hs : d0.size = N) (hN : d.size = N) (S : SWK enc k w0 blk off d w) (hab : a ≤ b) (hb : b ≤ N) (hsz : N < 4611686018427387904) :
    Calls P 79 #[.slice (some ⟨blk, off, none⟩) N cap, .int .i64 a, .int .i64 b, .func (.func g) #[] cb] w fun e w' => e = .returned (.tuple #[]) ∧ ∃ d', d'.size = N ∧ SWK enc k w0 blk off d' w' ∧ Mix a b (rowF d) (rowF d') ∧ Up (LeC cf) (rowF d') a b := by
  have S0 : Aside (SWK enc k w0 blk off d w) := S
  have HC : Aside _ := hC
  clear S hC
  have mixed := L.mixed; have t0 := L.t0; have a0 := L.a0; have z0 := L.z0; have v0 := L.v0; have t3 := L.t3; have a3 := L.a3; have z3 := L.z3; have v3 := L.v3; have t4 := L.t4; have a4 := L.a4; have z4 := L.z4; have v4 := L.v4; have tG := L.tG; have aG := L.aG; have zG := L.zG; have vG := L.vG; have aE := L.aE; have zE := L.zE
  have FG := L.fI
  go_enter FG, Try.ntmps79
  go_wp2
  go_loopg [8] (b - a) (fun kx s8 wr => ∃ (i : Nat) (dk : Array α), s8 = .int .i64 i ∧ a < i ∧ i ≤ b + 1 ∧ b + 1 - i ≤ kx + 1 ∧ dk.size = N ∧ Aside (SWK enc k w0 blk off dk wr) ∧ Hid (Mix a b (rowF d) (rowF dk)) ∧ Hid (Up (LeC cf) (rowF dk) a i))
  case atStart => exact ⟨a + 1, d, by go_num, by omega, by omega, by omega, hN, S0, Mix.refl _ _ _, fun x y hx hxy hy => by
    obtain rfl : x = a := by omega
    obtain rfl : y = x := by omega
    exact O.rf _⟩
  case round =>
    clear S0
    obtain ⟨i, dk, rfl, hai, hib, hkx, hds, S1, HM, HU⟩ := hrel
    by_cases hlt : i < b
    · have hltz : (i : Int) < (b : Int) := by omega
      go_wp2
      go_loopg [9] i (fun g2 vj wr2 => ∃ (j : Nat) (dj : Array α), vj = .int .i64 j ∧ a ≤ j ∧ j ≤ i ∧ j ≤ g2 ∧ dj.size = N ∧ Aside (SWK enc k w0 blk off dj wr2) ∧ Hid (rowF dj = rotF j i (i + 1) (rowF dk)) ∧ Hid (j < i → cf (rowF dk i) (rowF dk j) < 0))
      case atStart => exact ⟨i, dk, rfl, by omega, Nat.le_refl _, Nat.le_refl _, hds, S1, by
        show _ = _
        funext x
        simp only [rotF]
        repeat' split
        all_goals first | rfl | (exfalso; omega) | (congr 1; omega), fun h => absurd h (by omega)⟩
      case round =>
        obtain ⟨j, dj, rfl, haj, hji, hg2, hsj, SJ, HR, HL⟩ := hrel
        have ej : rowF dj j = rowF dk i := by rw [HR.out, rotF_at1 (Nat.le_refl _) (by omega)]; congr 1; omega
        have ep : 0 < j → rowF dj (j - 1) = rowF dk (j - 1) := fun h => by rw [HR.out, rotF_out (by omega) hji (.inl (by omega))]
        have out : (j ≤ a ∨ ¬ cf (rowF dj j) (rowF dj (j - 1)) < 0) → Hid (Mix a b (rowF d) (rowF dj)) ∧ Hid (Up (LeC cf) (rowF dj) a (i + 1)) := fun hh => by
          refine ⟨HM.out.trans ?_, ?_⟩
          · rw [HR.out]
            exact (Mix.rot (rowF dk) hji (by omega)).wide haj (by omega)
          · show Up _ _ _ _
            rw [HR.out]
            refine Up.last O.tr O.rf HU.out haj hji (fun h => ?_) (fun h => O.asym _ _ (HL.out h))
            rcases hh with hh | hh
            · omega
            · rw [ej, ep (by omega)] at hh
              exact hh
        have OUT : Aside _ := out
        have EJ := Lib.hid ej
        have EP : Aside _ := ep
        clear out ej ep
        by_cases hja : a < j
        · have hjaz : (a : Int) < (j : Int) := by omega
          obtain ⟨jp, rfl⟩ : ∃ jp, j = jp + 1 := ⟨j - 1, by omega⟩
          obtain ⟨xj, hxj⟩ : ∃ x, dj[jp + 1]! = x := ⟨_, rfl⟩
          obtain ⟨xp, hxp⟩ : ∃ x, dj[jp]! = x := ⟨_, rfl⟩
          have hwp : IntKind.i64.wrap (jp : Int) = (jp : Int) := by rw [IntKind.wrap_i64]; omega
          have jz : (jp : Int) + 1 < (N : Int) := by omega
          have jz1 : (jp : Int) < (N : Int) := by omega
          have hjaz' : (a : Int) < (jp : Int) + 1 := by omega
          have p0 : (0 : Int) ≤ (jp : Int) + 1 := by omega
          have e0 : ((jp : Int) + 1).toNat = jp + 1 := by omega
          have lj := fun n os => SJ.out.ld R (by omega) P (jp + 1) (by omega) n os
          have lp := fun n os => SJ.out.ld R (by omega) P jp (by omega) n os
          rw [hxj] at lj
          rw [hxp] at lp
          have hcg := fun n os => SJ.out.cmp HC.out hsj xj xp n os
          by_cases hlv : cf xj xp < 0
          · go_wp2_with fail
            go_quiet_grown (first | (go_at_fn g; refine Calls.grown_of (hcg _ _)))
            go_wp2_with fail
            have S2 : Aside (SWK enc k w0 blk off dj (grow (wr.drewN nq) osq)) := SJ.out.grown nq osq
            clear lj lp hcg
            generalize grow (wr.drewN nq) osq = wq2 at S2 ⊢
            have S3 : Aside (SWK enc k w0 blk off (swp dj (jp + 1) jp) ((wq2.drew.setCells blk (off + (jp + 1) * k) (enc dj[jp]!)).setCells blk (off + jp * k) (enc dj[jp + 1]!))) := S2.out.swapped R (jp + 1) jp (by omega) (by omega)
            have la := S2.out.ld1 R (by omega) P (jp + 1) (by omega)
            have lb := S2.out.ld1 R (by omega) P jp (by omega)
            have sa := S2.out.st1 R (by omega) P (jp + 1) (by omega) dj[jp]!
            have sb := S2.out.st2 R (by omega) P (jp + 1) jp (by omega) (by omega) dj[jp]! dj[jp + 1]!
            have na : (enc dj[jp + 1]!).length = k := R.hk _
            have nb : (enc dj[jp]!).length = k := R.hk _
            generalize enc dj[jp + 1]! = cI at S3 la sb na
            generalize enc dj[jp]! = cJ at S3 lb sa sb nb
            clear S2
            go_wp2_with fail
            go_big_region_o
            clear la lb sa sb
            generalize (wq2.drew.setCells blk (off + (jp + 1) * k) cJ).setCells blk (off + jp * k) cI = w5 at S3 ⊢
            all_goals go_wp2
            go_roundg jp
            case measure => omega
            case rel =>
              refine ⟨jp, swp dj (jp + 1) jp, by first | rfl | go_num | (congr 1; omega), by omega, by omega, Nat.le_refl _, by rw [size_swp]; exact hsj, S3, ?_, ?_⟩
              · show _ = _
                rw [rowF_swp dj (by omega) (by omega) (by omega), swapF_comm _ (by omega), HR.out]
                exact rot_left (j := jp + 1) (rowF dk) (by omega) hji
              · intro _
                have e1 : rowF dk i = xj := by rw [← EJ.out]; exact hxj
                have e2 : rowF dk jp = xp := by
                  have := EP.out (by omega)
                  simp only [Nat.add_sub_cancel] at this
                  rw [← this]
                  exact hxp
                rw [e1, e2]
                exact hlv
          · go_wp2_with fail
            go_quiet_grown (first | (go_at_fn g; refine Calls.grown_of (hcg _ _)))
            go_wp2
            go_roundg (b - (i + 1))
            case measure => omega
            case rel =>
              have hoo := OUT.out (.inr (by rw [Nat.add_sub_cancel]; show (0 : Int) ≤ cf dj[jp + 1]! dj[jp]!; rw [hxj, hxp]; omega))
              exact ⟨i + 1, dj, by go_num, by omega, by omega, by omega, hsj, SJ.out.grown nq osq, hoo.1, hoo.2⟩
        · have hjaz : decide ((j : Int) > (a : Int)) = false := decide_eq_false (by omega)
          have hjaz' : ¬ (a : Int) < (j : Int) := by omega
          have SD : Aside (SWK enc k w0 blk off dj wr.drew) := SJ.out.drew
          go_wp2_with fail
          go_big_region_o
          all_goals go_wp2
          go_roundg (b - (i + 1))
          case measure => omega
          case rel =>
            have hoo := OUT.out (.inl (by omega))
            exact ⟨i + 1, dj, by go_num, by omega, by omega, by omega, hsj, SD, hoo.1, hoo.2⟩
    · have hltz : ¬ (i : Int) < (b : Int) := by omega
      go_wp2
      go_end0
      exact ⟨rfl, dk, hds, S1.out, HM.out, HU.out.part (Nat.le_refl _) (by omega)⟩
end Go.Proofs.Ytjpkemamfccfdaa
/- The merge by turning, plainly: the four parts, put in order by two's. -/
namespace Go.Proofs.Ytjpkemamfccfdaa
set_option linter.unusedVariables false
variable {α : Type} {le : α → α → Prop}

/-- The four parts behind the turn, said of the middle. -/
theorem Up.sym_parts {f : Nat → α} {a m b mid s : Nat} (tr : ∀ x y z, le x y → le y z → le x z) (h1 : Up le f a m) (h2 : Up le f m b) (hs : a ≤ s) (hm : s ≤ m) (hmid : s ≤ mid) (hb : mid + m - s ≤ b)
    (b1 : a < s → mid + m - s < b → le (f (s - 1)) (f (mid + m - s))) (b2 : m < mid + m - s → s < m → le (f (mid + m - s - 1)) (f s)) :
    Up le (rotF s m (mid + m - s) f) a s ∧ Up le (rotF s m (mid + m - s) f) s mid ∧ Up le (rotF s m (mid + m - s) f) mid (mid + m - s) ∧ Up le (rotF s m (mid + m - s) f) (mid + m - s) b
      ∧ ∀ i j, a ≤ i → i < mid → mid ≤ j → j < b → le (rotF s m (mid + m - s) f i) (rotF s m (mid + m - s) f j) := by
  have := Up.rot (s := s) (e := mid + m - s) tr h1 h2 hs hm (by omega) hb b1 b2
  rwa [show s + (mid + m - s - m) = mid by omega] at this
theorem Up.nil1 {f : Nat → α} {a b : Nat} (h : b ≤ a) : Up le f a b := fun i j h1 h2 h3 => by omega
theorem rot_none {f : Nat → α} {s m e : Nat} (hs : s ≤ m) (he : m ≤ e) (h : ¬ (s < m ∧ m < e)) : rotF s m e f = f := by
  by_cases c : s = m
  · subst c; exact rotF_none1 f he
  · obtain rfl : m = e := by omega
    exact rotF_none2 f
end Go.Proofs.Ytjpkemamfccfdaa
/- The merge of a row of which the first part has one element, walked. -/
namespace Go.Proofs.Ytjpkemamfccfdaa
set_option linter.unusedVariables false
open Go.Shelf Go.RowKit Go.Lib Go.Sort
variable {P : Program} {k : Nat} {α : Type} [Inhabited α] {enc : α → List Value} {blk off : Nat} {d0 : Array α} {w0 : World}

set_option maxHeartbeats 8000000 in
set_option maxRecDepth 1000000 in
theorem sym_first (L : Sf P k) (cf : α → α → Int) (O : OrdC cf) (g : Nat) (cb : Array Value) (eg : ∀ args w, (callFunc g args).run P w = .ok (.enter g args) w) {N : Nat} (hC : CmpLays P g cb enc k cf blk off N w0) (cap a m b : Nat) (d : Array α) (w : World) (R : RowK enc k w0 blk off d0) (hs : d0.size = N) (hN : d.size = N) (S : SWK enc k w0 blk off d w) (hm1 : m ≤ a + 1) (hm2 : a + 1 ≤ m) (hab : m < b) (hb : b ≤ N) (hsz : N < 4611686018427387904) (HU2 : Up (LeC cf) (rowF d) (a + 1) b) :
    Calls P 80 #[.slice (some ⟨blk, off, none⟩) N cap, .int .i64 a, .int .i64 m, .int .i64 b, .func (.func g) #[] cb] w fun e w' => e = .returned (.tuple #[]) ∧ ∃ d', d'.size = N ∧ SWK enc k w0 blk off d' w' ∧ Mix a b (rowF d) (rowF d') ∧ Up (LeC cf) (rowF d') a b := by
  have S0 : Aside (SWK enc k w0 blk off d w) := S
  have HC : Aside _ := hC
  have HU : Aside _ := HU2
  clear S hC HU2
  have mixed := L.mixed; have t0 := L.t0; have a0 := L.a0; have z0 := L.z0; have v0 := L.v0; have t3 := L.t3; have a3 := L.a3; have z3 := L.z3; have v3 := L.v3; have t4 := L.t4; have a4 := L.a4; have z4 := L.z4; have v4 := L.v4; have tG := L.tG; have aG := L.aG; have zG := L.zG; have vG := L.vG; have aE := L.aE; have zE := L.zE; have tU := L.tU; have aU := L.aU; have zU := L.zU; have vU := L.vU
  have FG := L.fM
  have hone : IntKind.i64.wrap ((m : Int) - (a : Int)) = 1 := by rw [IntKind.wrap_i64]; omega
  go_enter FG, Try.ntmps80
  go_wp2
  go_loopg [10, 11] (b - a) (fun kx s10 s11 wr => ∃ i j : Nat, s10 = .int .i64 i ∧ s11 = .int .i64 j ∧ a + 1 ≤ i ∧ i ≤ j ∧ j ≤ b ∧ j - i ≤ kx ∧ Aside (SWK enc k w0 blk off d wr) ∧ Hid (a + 1 < i → cf (rowF d (i - 1)) (rowF d a) < 0) ∧ Hid (j < b → ¬ cf (rowF d j) (rowF d a) < 0))
  case atStart => exact ⟨m, b, rfl, rfl, hm2, by omega, Nat.le_refl _, by omega, S0, fun h => by omega, fun h => by omega⟩
  case round =>
    clear S0
    obtain ⟨i, j, rfl, rfl, hai, hij, hjb, hkx, S1, HI, HJ⟩ := hrel
    by_cases hlt : i < j
    · have hltz : (i : Int) < (j : Int) := by omega
      obtain ⟨h, hh⟩ : ∃ h : Nat, h = (i + j) / 2 := ⟨_, rfl⟩
      have hcast : ((i : Int) + (j : Int)) / 2 = (h : Int) := by omega
      have hih : i ≤ h := by omega
      have hhj : h < j := by omega
      have wh : IntKind.i64.wrap ((h : Int) + 1) = ((h + 1 : Nat) : Int) := by rw [IntKind.wrap_i64]; omega
      obtain ⟨xh, hxh⟩ : ∃ x, d[h]! = x := ⟨_, rfl⟩
      obtain ⟨xa, hxa⟩ : ∃ x, d[a]! = x := ⟨_, rfl⟩
      have jz : (h : Int) < (N : Int) := by omega
      have jz1 : (a : Int) < (N : Int) := by omega
      have lh := fun n os => S1.out.ld R (by omega) P h (by omega) n os
      have la := fun n os => S1.out.ld R (by omega) P a (by omega) n os
      rw [hxh] at lh
      rw [hxa] at la
      have hcg := fun n os => S1.out.cmp HC.out hN xh xa n os
      have HXH : Hid (rowF d h = xh) := hxh
      have HXA : Hid (rowF d a = xa) := hxa
      clear hh
      by_cases hlv : cf xh xa < 0
      · go_wp2_with fail
        go_quiet_grown (first | (go_at_fn g; refine Calls.grown_of (hcg _ _)))
        go_wp2
        go_roundg (j - (h + 1))
        case measure => omega
        case rel =>
          refine ⟨h + 1, j, by first | rfl | go_num, rfl, by omega, by omega, by omega, Nat.le_refl _, S1.out.grown nq osq, ?_, HJ⟩
          show a + 1 < h + 1 → _
          intro _
          rw [Nat.add_sub_cancel, HXH.out, HXA.out]
          exact hlv
      · go_wp2_with fail
        go_quiet_grown (first | (go_at_fn g; refine Calls.grown_of (hcg _ _)))
        go_wp2
        go_roundg (h - i)
        case measure => omega
        case rel =>
          refine ⟨i, h, rfl, rfl, by omega, by omega, by omega, Nat.le_refl _, S1.out.grown nq osq, HI, ?_⟩
          show h < b → _
          intro _
          rw [HXH.out, HXA.out]
          exact hlv
    · have hltz : ¬ (i : Int) < (j : Int) := by omega
      obtain rfl : i = j := by omega
      clear hlt
      have UF : Aside (Up (LeC cf) (rotF a (a + 1) i (rowF d)) a b) := Up.first O.tr O.rf HU.out hai hjb (fun h => HJ.out h) (fun h => O.asym _ _ (HI.out h))
      have wi : IntKind.i64.wrap ((i : Int) - 1) = (i : Int) - 1 := by rw [IntKind.wrap_i64]; omega
      go_wp2
      go_loopg [13] i (fun kx s13 wr2 => ∃ (t : Nat) (dk : Array α), s13 = .int .i64 t ∧ a ≤ t ∧ t + 1 ≤ i ∧ i - t ≤ kx ∧ dk.size = N ∧ Aside (SWK enc k w0 blk off dk wr2) ∧ Hid (rowF dk = rotF a (a + 1) (t + 1) (rowF d)))
      case atStart => exact ⟨a, d, rfl, Nat.le_refl _, hai, by omega, hN, S1, by
        show _ = _
        exact (rotF_none2 _).symm⟩
      case round =>
        clear S1
        obtain ⟨t, dk, rfl, hat, hti, hk2, hds, S2, HR⟩ := hrel
        by_cases hlt2 : t + 1 < i
        · have hz2 : (t : Int) < (i : Int) - 1 := by omega
          have w1 : IntKind.i64.wrap ((t : Int) + 1) = ((t + 1 : Nat) : Int) := by rw [IntKind.wrap_i64]; omega
          have p1 : (0 : Int) ≤ ((t + 1 : Nat) : Int) := by omega
          have b1 : ((t + 1 : Nat) : Int) < (N : Int) := by omega
          have b0 : (t : Int) < (N : Int) := by omega
          have e1 : ((t + 1 : Nat) : Int).toNat = t + 1 := by omega
          have S3 : Aside (SWK enc k w0 blk off (swp dk t (t + 1)) ((wr.drew.setCells blk (off + t * k) (enc dk[t + 1]!)).setCells blk (off + (t + 1) * k) (enc dk[t]!))) := S2.out.swapped R t (t + 1) (by omega) (by omega)
          have la := S2.out.ld1 R (by omega) P t (by omega)
          have lb := S2.out.ld1 R (by omega) P (t + 1) (by omega)
          have sa := S2.out.st1 R (by omega) P t (by omega) dk[t + 1]!
          have sb := S2.out.st2 R (by omega) P t (t + 1) (by omega) (by omega) dk[t + 1]! dk[t]!
          have na : (enc dk[t]!).length = k := R.hk _
          have nb : (enc dk[t + 1]!).length = k := R.hk _
          generalize enc dk[t]! = cI at S3 la sb na
          generalize enc dk[t + 1]! = cJ at S3 lb sa sb nb
          clear S2
          go_wp2_with fail
          go_big_region_o
          all_goals clear la lb sa sb
          all_goals generalize (wr.drew.setCells blk (off + t * k) cJ).setCells blk (off + (t + 1) * k) cI = w5 at S3 ⊢
          all_goals go_wp2
          go_roundg (i - (t + 1))
          case measure => omega
          case rel =>
            refine ⟨t + 1, swp dk t (t + 1), by first | rfl | go_num, by omega, by omega, Nat.le_refl _, by rw [size_swp]; exact hds, S3, ?_⟩
            show _ = _
            rw [rowF_swp dk (by omega) (by omega) (by omega), HR.out]
            exact rot_right (rowF d) hat
        · have hz2 : ¬ (t : Int) < (i : Int) - 1 := by omega
          obtain rfl : i = t + 1 := by omega
          go_wp2
          try simp only [Exit.inBlock, Exit.then]
          refine bodyPost_ret (results_none rfl _ _ _) rfl ?_
          refine ⟨rfl, dk, hds, S2.out, ?_, ?_⟩
          · rw [HR.out]
            exact (Mix.rot (rowF d) (by omega) (by omega)).wide (Nat.le_refl _) hjb
          · rw [HR.out]
            exact UF.out
end Go.Proofs.Ytjpkemamfccfdaa
/- The merge of a row of which the hind part has one element, walked. -/
namespace Go.Proofs.Ytjpkemamfccfdaa
set_option linter.unusedVariables false
open Go.Shelf Go.RowKit Go.Lib Go.Sort
variable {P : Program} {k : Nat} {α : Type} [Inhabited α] {enc : α → List Value} {blk off : Nat} {d0 : Array α} {w0 : World}

set_option maxHeartbeats 8000000 in
set_option maxRecDepth 1000000 in
theorem sym_last (L : Sf P k) (cf : α → α → Int) (O : OrdC cf) (g : Nat) (cb : Array Value) (eg : ∀ args w, (callFunc g args).run P w = .ok (.enter g args) w) {N : Nat} (hC : CmpLays P g cb enc k cf blk off N w0) (cap a m b : Nat) (d : Array α) (w : World) (R : RowK enc k w0 blk off d0) (hs : d0.size = N) (hN : d.size = N) (S : SWK enc k w0 blk off d w) (hma : a + 1 < m) (hm1 : b ≤ m + 1) (hm2 : m + 1 ≤ b) (hb : b ≤ N) (hsz : N < 4611686018427387904) (HU2 : Up (LeC cf) (rowF d) a m) :
    Calls P 80 #[.slice (some ⟨blk, off, none⟩) N cap, .int .i64 a, .int .i64 m, .int .i64 b, .func (.func g) #[] cb] w fun e w' => e = .returned (.tuple #[]) ∧ ∃ d', d'.size = N ∧ SWK enc k w0 blk off d' w' ∧ Mix a b (rowF d) (rowF d') ∧ Up (LeC cf) (rowF d') a b := by
  have S0 : Aside (SWK enc k w0 blk off d w) := S
  have HC : Aside _ := hC
  have HU : Aside _ := HU2
  clear S hC HU2
  have mixed := L.mixed; have t0 := L.t0; have a0 := L.a0; have z0 := L.z0; have v0 := L.v0; have t3 := L.t3; have a3 := L.a3; have z3 := L.z3; have v3 := L.v3; have t4 := L.t4; have a4 := L.a4; have z4 := L.z4; have v4 := L.v4; have tG := L.tG; have aG := L.aG; have zG := L.zG; have vG := L.vG; have aE := L.aE; have zE := L.zE; have tU := L.tU; have aU := L.aU; have zU := L.zU; have vU := L.vU
  have FG := L.fM
  have hdm : IntKind.i64.wrap ((m : Int) - (a : Int)) = ((m - a : Nat) : Int) := by rw [IntKind.wrap_i64]; omega
  have hne : (((m - a : Nat) : Int) == 1) = false := by rw [beq_eq_false_iff_ne]; omega
  have hone : IntKind.i64.wrap ((b : Int) - (m : Int)) = 1 := by rw [IntKind.wrap_i64]; omega
  obtain ⟨ma, hma'⟩ : ∃ ma : Nat, ma = m - a := ⟨_, rfl⟩
  rw [← hma'] at hdm hne
  clear hma'
  go_enter FG, Try.ntmps80
  go_wp2
  go_loopg [14, 15] (m - a) (fun kx s10 s11 wr => ∃ i j : Nat, s10 = .int .i64 i ∧ s11 = .int .i64 j ∧ a ≤ i ∧ i ≤ j ∧ j ≤ m ∧ j - i ≤ kx ∧ Aside (SWK enc k w0 blk off d wr) ∧ Hid (a < i → ¬ cf (rowF d m) (rowF d (i - 1)) < 0) ∧ Hid (j < m → cf (rowF d m) (rowF d j) < 0))
  case atStart => exact ⟨a, m, rfl, rfl, Nat.le_refl _, by omega, Nat.le_refl _, by omega, S0, fun h => by omega, fun h => by omega⟩
  case round =>
    clear S0
    obtain ⟨i, j, rfl, rfl, hai, hij, hjb, hkx, S1, HI, HJ⟩ := hrel
    by_cases hlt : i < j
    · have hltz : (i : Int) < (j : Int) := by omega
      obtain ⟨h, hh⟩ : ∃ h : Nat, h = (i + j) / 2 := ⟨_, rfl⟩
      have hcast : ((i : Int) + (j : Int)) / 2 = (h : Int) := by omega
      have hih : i ≤ h := by omega
      have hhj : h < j := by omega
      have wh : IntKind.i64.wrap ((h : Int) + 1) = ((h + 1 : Nat) : Int) := by rw [IntKind.wrap_i64]; omega
      obtain ⟨xh, hxh⟩ : ∃ x, d[h]! = x := ⟨_, rfl⟩
      obtain ⟨xa, hxa⟩ : ∃ x, d[m]! = x := ⟨_, rfl⟩
      have jz : (h : Int) < (N : Int) := by omega
      have jz1 : (m : Int) < (N : Int) := by omega
      have lh := fun n os => S1.out.ld R (by omega) P h (by omega) n os
      have la := fun n os => S1.out.ld R (by omega) P m (by omega) n os
      rw [hxh] at lh
      rw [hxa] at la
      have hcg := fun n os => S1.out.cmp HC.out hN xa xh n os
      have HXH : Hid (rowF d h = xh) := hxh
      have HXA : Hid (rowF d m = xa) := hxa
      clear hh
      by_cases hlv : cf xa xh < 0
      · go_wp2_with fail
        go_quiet_grown (first | (go_at_fn g; refine Calls.grown_of (hcg _ _)))
        go_wp2
        go_roundg (h - i)
        case measure => omega
        case rel =>
          refine ⟨i, h, rfl, rfl, by omega, by omega, by omega, Nat.le_refl _, S1.out.grown nq osq, HI, ?_⟩
          show h < m → _
          intro _
          rw [HXH.out, HXA.out]
          exact hlv
      · have hdd : decide (cf xa xh < 0) = false := decide_eq_false hlv
        have hdf : (cf xa xh < 0) = False := eq_false hlv
        go_wp2_with fail
        go_quiet_grown (first | (go_at_fn g; refine Calls.grown_of (hcg _ _)))
        go_wp2
        go_roundg (j - (h + 1))
        case measure => omega
        case rel =>
          refine ⟨h + 1, j, by first | rfl | go_num, rfl, by omega, by omega, by omega, Nat.le_refl _, S1.out.grown nq osq, ?_, HJ⟩
          show a < h + 1 → _
          intro _
          rw [Nat.add_sub_cancel, HXH.out, HXA.out]
          exact hlv
    · have hltz : ¬ (i : Int) < (j : Int) := by omega
      obtain rfl : i = j := by omega
      clear hlt
      have UF : Aside (Up (LeC cf) (rotF i m (m + 1) (rowF d)) a (m + 1)) := Up.last O.tr O.rf HU.out hai hjb (fun h => HI.out h) (fun h => O.asym _ _ (HJ.out h))
      go_wp2
      go_loopg [17] (m + 1) (fun kx s13 wr2 => ∃ (t : Nat) (dk : Array α), s13 = .int .i64 t ∧ i ≤ t ∧ t ≤ m ∧ t ≤ kx ∧ dk.size = N ∧ Aside (SWK enc k w0 blk off dk wr2) ∧ Hid (rowF dk = rotF t m (m + 1) (rowF d)))
      case atStart => exact ⟨m, d, rfl, hjb, Nat.le_refl _, by omega, hN, S1, by
        show _ = _
        exact (rotF_none1 _ (by omega)).symm⟩
      case round =>
        clear S1
        obtain ⟨t, dk, rfl, hat, hti, hk2, hds, S2, HR⟩ := hrel
        by_cases hlt2 : i < t
        · obtain ⟨jp, rfl⟩ : ∃ jp, t = jp + 1 := ⟨t - 1, by omega⟩
          have hz2 : (i : Int) < (jp : Int) + 1 := by omega
          have w1 : IntKind.i64.wrap (jp : Int) = (jp : Int) := by rw [IntKind.wrap_i64]; omega
          have b1 : (jp : Int) + 1 < (N : Int) := by omega
          have b0 : (jp : Int) < (N : Int) := by omega
          have p0 : (0 : Int) ≤ (jp : Int) + 1 := by omega
          have e0 : ((jp : Int) + 1).toNat = jp + 1 := by omega
          have S3 : Aside (SWK enc k w0 blk off (swp dk (jp + 1) jp) ((wr.drew.setCells blk (off + (jp + 1) * k) (enc dk[jp]!)).setCells blk (off + jp * k) (enc dk[jp + 1]!))) := S2.out.swapped R (jp + 1) jp (by omega) (by omega)
          have la := S2.out.ld1 R (by omega) P (jp + 1) (by omega)
          have lb := S2.out.ld1 R (by omega) P jp (by omega)
          have sa := S2.out.st1 R (by omega) P (jp + 1) (by omega) dk[jp]!
          have sb := S2.out.st2 R (by omega) P (jp + 1) jp (by omega) (by omega) dk[jp]! dk[jp + 1]!
          have na : (enc dk[jp + 1]!).length = k := R.hk _
          have nb : (enc dk[jp]!).length = k := R.hk _
          generalize enc dk[jp + 1]! = cI at S3 la sb na
          generalize enc dk[jp]! = cJ at S3 lb sa sb nb
          clear S2
          go_wp2_with fail
          go_big_region_o
          all_goals clear la lb sa sb
          all_goals generalize (wr.drew.setCells blk (off + (jp + 1) * k) cJ).setCells blk (off + jp * k) cI = w5 at S3 ⊢
          all_goals go_wp2
          go_roundg jp
          case measure => omega
          case rel =>
            refine ⟨jp, swp dk (jp + 1) jp, by first | rfl | go_num | (congr 1; omega), by omega, by omega, Nat.le_refl _, by rw [size_swp]; exact hds, S3, ?_⟩
            show _ = _
            rw [rowF_swp dk (by omega) (by omega) (by omega), swapF_comm _ (by omega), HR.out]
            exact rot_left (j := jp + 1) (rowF d) (by omega) hti
        · have hz2 : ¬ (i : Int) < (t : Int) := by omega
          obtain rfl : t = i := by omega
          go_wp2
          try simp only [Exit.inBlock, Exit.then]
          refine bodyPost_ret (results_none rfl _ _ _) rfl ?_
          have hbm : b = m + 1 := by omega
          refine ⟨rfl, dk, hds, S2.out, ?_, ?_⟩
          · rw [HR.out, hbm]
            exact (Mix.rot (rowF d) hjb (by omega)).wide hai (Nat.le_refl _)
          · rw [HR.out, hbm]
            exact UF.out
end Go.Proofs.Ytjpkemamfccfdaa
/- The merge of a row of which both parts have more, walked. -/
namespace Go.Proofs.Ytjpkemamfccfdaa
set_option linter.unusedVariables false
open Go.Shelf Go.RowKit Go.Lib Go.Sort
variable {P : Program} {k : Nat} {α : Type} [Inhabited α] {enc : α → List Value} {blk off : Nat} {d0 : Array α} {w0 : World}

/-- What a merge of the parts from a and from m, to below b, says. -/
def SymTo (P : Program) (k : Nat) {α : Type} [Inhabited α] (enc : α → List Value) (blk off : Nat) (w0 : World) (cf : α → α → Int) (g : Nat) (cb : Array Value) (N cap a m b : Nat) (d : Array α) (w : World) : Prop :=
  Calls P 80 #[.slice (some ⟨blk, off, none⟩) N cap, .int .i64 a, .int .i64 m, .int .i64 b, .func (.func g) #[] cb] w fun e w' => e = .returned (.tuple #[]) ∧ ∃ d', d'.size = N ∧ SWK enc k w0 blk off d' w' ∧ Mix a b (rowF d) (rowF d') ∧ Up (LeC cf) (rowF d') a b

set_option maxHeartbeats 16000000 in
set_option maxRecDepth 1000000 in
theorem sym_long (L : Sf P k) (cf : α → α → Int) (O : OrdC cf) (g : Nat) (cb : Array Value) (eg : ∀ args w, (callFunc g args).run P w = .ok (.enter g args) w) {N : Nat} (hC : CmpLays P g cb enc k cf blk off N w0) (cap a m b : Nat) (d : Array α) (w : World) (R : RowK enc k w0 blk off d0) (hs : d0.size = N) (hN : d.size = N) (S : SWK enc k w0 blk off d w) (hma : a + 1 < m) (hmb : m + 1 < b) (hb : b ≤ N) (hsz : N < 4611686018427387904) (HU1 : Up (LeC cf) (rowF d) a m) (HU2 : Up (LeC cf) (rowF d) m b)
    (IH : ∀ (a' m' b' : Nat) (d' : Array α) (w' : World), a ≤ a' → b' ≤ b → a' < m' → m' < b' → b' - a' < b - a → d'.size = N → SWK enc k w0 blk off d' w' → Up (LeC cf) (rowF d') a' m' → Up (LeC cf) (rowF d') m' b' → SymTo P k enc blk off w0 cf g cb N cap a' m' b' d' w') :
    SymTo P k enc blk off w0 cf g cb N cap a m b d w := by
  unfold SymTo at IH ⊢
  have S0 : Aside (SWK enc k w0 blk off d w) := S
  have HC : Aside _ := hC
  have V1 : Aside _ := HU1
  have V2 : Aside _ := HU2
  have HI0 : Aside _ := IH
  clear S hC HU1 HU2 IH
  have mixed := L.mixed; have t0 := L.t0; have a0 := L.a0; have z0 := L.z0; have v0 := L.v0; have t3 := L.t3; have a3 := L.a3; have z3 := L.z3; have v3 := L.v3; have t4 := L.t4; have a4 := L.a4; have z4 := L.z4; have v4 := L.v4; have tG := L.tG; have aG := L.aG; have zG := L.zG; have vG := L.vG; have aE := L.aE; have zE := L.zE; have tU := L.tU; have aU := L.aU; have zU := L.zU; have vU := L.vU
  have eS : ∀ args w, (callFunc 81 args).run P w = .ok (.enter 81 args) w := enters_of L.fR (by kernel_rfl) rfl
  have eM : ∀ args w, (callFunc 80 args).run P w = .ok (.enter 80 args) w := enters_of L.fM (by kernel_rfl) rfl
  have FG := L.fM
  have hdm : IntKind.i64.wrap ((m : Int) - (a : Int)) = ((m - a : Nat) : Int) := by rw [IntKind.wrap_i64]; omega
  have hne : (((m - a : Nat) : Int) == 1) = false := by rw [beq_eq_false_iff_ne]; omega
  have hdb : IntKind.i64.wrap ((b : Int) - (m : Int)) = ((b - m : Nat) : Int) := by rw [IntKind.wrap_i64]; omega
  have hnb : (((b - m : Nat) : Int) == 1) = false := by rw [beq_eq_false_iff_ne]; omega
  obtain ⟨ma, hma'⟩ : ∃ ma : Nat, ma = m - a := ⟨_, rfl⟩
  obtain ⟨mb, hmb'⟩ : ∃ mb : Nat, mb = b - m := ⟨_, rfl⟩
  rw [← hma'] at hdm hne
  rw [← hmb'] at hdb hnb
  clear hma' hmb'
  obtain ⟨mid, hmid⟩ : ∃ mid : Nat, mid = (a + b) / 2 := ⟨_, rfl⟩
  have hcast : ((a : Int) + (b : Int)) / 2 = (mid : Int) := by omega
  have hm1 : a < mid := by omega
  have hm2 : mid < b := by omega
  have hm3 : 2 * mid ≤ a + b := by omega
  obtain ⟨n, hn⟩ : ∃ n : Nat, n = mid + m := ⟨_, rfl⟩
  have wn : IntKind.i64.wrap ((mid : Int) + (m : Int)) = (n : Int) := by rw [IntKind.wrap_i64]; omega
  have hn1 : n ≤ mid + m := by omega
  have hn2 : mid + m ≤ n := by omega
  have hm4 : a + b ≤ 2 * mid + 1 := by omega
  clear hmid hn
  go_enter FG, Try.ntmps80
  go_upto_if 140 with fail
  go_cut [20, 21] from 138 to 146 (fun s r wx => ∃ s0 r0 : Nat, s = .int .i64 s0 ∧ r = .int .i64 r0 ∧ (a ≤ s0 ∧ s0 ≤ r0 ∧ r0 ≤ m ∧ r0 ≤ mid) ∧ (s0 ≤ a ∨ n - s0 ≥ b) ∧ (r0 ≥ m ∨ r0 ≥ mid) ∧ n ≤ s0 + b ∧ Aside (SWK enc k w0 blk off d wx))
  case first =>
    by_cases hgt : (mid : Int) < (m : Int)
    · obtain ⟨s0, hs0⟩ : ∃ s0 : Nat, s0 = n - b := ⟨_, rfl⟩
      have ws : IntKind.i64.wrap ((n : Int) - (b : Int)) = (s0 : Int) := by rw [IntKind.wrap_i64]; omega
      go_wp2_with fail
      go_meet
      case rel => exact ⟨s0, mid, (by first | rfl | go_num | (congr 1; omega)), rfl, ⟨by omega, by omega, by omega, by omega⟩, .inr (by omega), .inr (by omega), by omega, S0⟩
    · go_wp2_with fail
      go_meet
      case rel => exact ⟨a, m, rfl, rfl, ⟨by omega, by omega, by omega, by omega⟩, .inl (by omega), .inl (by omega), by omega, S0⟩
  case rest =>
    clear S0
    obtain ⟨s0, r0, rfl, rfl, ⟨f1, f2, f3, f4⟩, f5, f6, f7, S1⟩ := hcut
    obtain ⟨p, hp⟩ : ∃ p : Nat, p = n - 1 := ⟨_, rfl⟩
    have wp : IntKind.i64.wrap ((n : Int) - 1) = (p : Int) := by rw [IntKind.wrap_i64]; omega
    have hp1 : p + 1 ≤ n := by omega
    have hp2 : n ≤ p + 1 := by omega
    have F5 : Aside _ := f5
    have F6 : Aside _ := f6
    clear hp f5 f6
    go_wp2_with fail
    go_loopg [20, 21] (b - a) (fun kx s r wr => ∃ i j : Nat, s = .int .i64 i ∧ r = .int .i64 j ∧ s0 ≤ i ∧ i ≤ j ∧ j ≤ r0 ∧ j - i ≤ kx ∧ Aside (SWK enc k w0 blk off d wr) ∧ Hid (s0 < i → ¬ cf (rowF d (n - i)) (rowF d (i - 1)) < 0) ∧ Hid (j < r0 → cf (rowF d (n - 1 - j)) (rowF d j) < 0))
    case atStart => exact ⟨s0, r0, rfl, rfl, Nat.le_refl _, f2, Nat.le_refl _, by omega, S1, fun h => by omega, fun h => by omega⟩
    case round =>
      clear S1
      obtain ⟨i, j, rfl, rfl, hai, hij, hjb, hkx, S1, HI, HJ⟩ := hrel
      by_cases hlt : i < j
      · have hltz : (i : Int) < (j : Int) := by omega
        obtain ⟨h, hh⟩ : ∃ h : Nat, h = (i + j) / 2 := ⟨_, rfl⟩
        have hch : ((i : Int) + (j : Int)) / 2 = (h : Int) := by omega
        have hih : i ≤ h := by omega
        have hhj : h < j := by omega
        have wh : IntKind.i64.wrap ((h : Int) + 1) = ((h + 1 : Nat) : Int) := by rw [IntKind.wrap_i64]; omega
        obtain ⟨q, hq⟩ : ∃ q : Nat, q = n - 1 - h := ⟨_, rfl⟩
        have wq : IntKind.i64.wrap ((p : Int) - (h : Int)) = (q : Int) := by rw [IntKind.wrap_i64]; omega
        have wq3 : IntKind.i64.wrap (q : Int) = (q : Int) := by rw [IntKind.wrap_i64]; omega
        obtain ⟨xh, hxh⟩ : ∃ x, d[h]! = x := ⟨_, rfl⟩
        obtain ⟨xq, hxq⟩ : ∃ x, d[q]! = x := ⟨_, rfl⟩
        have jz : (h : Int) < (N : Int) := by omega
        have jz1 : (q : Int) < (N : Int) := by omega
        have lh := fun n os => S1.out.ld R (by omega) P h (by omega) n os
        have lq := fun n os => S1.out.ld R (by omega) P q (by omega) n os
        rw [hxh] at lh
        rw [hxq] at lq
        have hcg := fun n os => S1.out.cmp HC.out hN xq xh n os
        have HXH : Hid (rowF d h = xh) := hxh
        have HXQ : Hid (rowF d q = xq) := hxq
        have HQ := Lib.hid hq
        clear hh hq
        by_cases hlv : cf xq xh < 0
        · go_wp2_with fail
          go_quiet_grown (first | (go_at_fn g; refine Calls.grown_of (hcg _ _)))
          go_wp2
          go_roundg (h - i)
          case measure => omega
          case rel =>
            refine ⟨i, h, rfl, rfl, by omega, by omega, by omega, Nat.le_refl _, S1.out.grown nq osq, HI, ?_⟩
            show h < r0 → _
            intro _
            rw [← HQ.out, HXH.out, HXQ.out]
            exact hlv
        · have hdd : decide (cf xq xh < 0) = false := decide_eq_false hlv
          have hdf : (cf xq xh < 0) = False := eq_false hlv
          go_wp2_with fail
          go_quiet_grown (first | (go_at_fn g; refine Calls.grown_of (hcg _ _)))
          go_wp2
          go_roundg (j - (h + 1))
          case measure => omega
          case rel =>
            refine ⟨h + 1, j, by first | rfl | go_num, rfl, by omega, by omega, by omega, Nat.le_refl _, S1.out.grown nq osq, ?_, HJ⟩
            show s0 < h + 1 → _
            intro _
            have e : n - (h + 1) = q := by have := HQ.out; omega
            rw [e, Nat.add_sub_cancel, HXH.out, HXQ.out]
            exact hlv
      · have hltz : ¬ (i : Int) < (j : Int) := by omega
        obtain rfl : i = j := by omega
        clear hlt
        obtain ⟨e, he⟩ : ∃ e : Nat, e = mid + m - i := ⟨_, rfl⟩
        have we : IntKind.i64.wrap ((n : Int) - (i : Int)) = (e : Int) := by rw [IntKind.wrap_i64]; omega
        have we2 : (n : Int) - (i : Int) = (e : Int) := by omega
        have e1 : e + i ≤ mid + m := by omega
        have e2 : mid + m ≤ e + i := by omega
        have PARTS : Aside _ := Up.sym_parts (f := rowF d) (a := a) (m := m) (b := b) (mid := mid) (s := i) O.tr V1.out V2.out (by omega) (by omega) (by omega) (by omega)
          (fun h1 h2 => by
            have hsi : s0 < i := by
              by_cases c : s0 < i
              · exact c
              · have := F5.out; omega
            have := HI.out hsi
            have en : n - i = mid + m - i := by omega
            rw [en] at this
            exact this)
          (fun h1 h2 => by
            have hsi : i < r0 := by
              by_cases c : i < r0
              · exact c
              · have := F6.out; omega
            have := HJ.out hsi
            have en : n - 1 - i = mid + m - i - 1 := by omega
            rw [en] at this
            exact O.asym _ _ this)
        rw [← he] at PARTS
        have MR : Aside _ := Mix.rot (s := i) (m := m) (e := e) (rowF d) (by omega) (by omega)
        have RN : Aside _ := rot_none (f := rowF d) (s := i) (m := m) (e := e) (by omega) (by omega)
        clear he
        go_upto_region 39 with fail
        go_cut [185] from 178 to 184 (fun t wx => ∃ tb : Bool, t = .bool tb ∧ Hid (tb = true ↔ (i < m ∧ m < e)) ∧ Aside (SWK enc k w0 blk off d wx))
        case first =>
          by_cases c1 : (i : Int) < (m : Int)
          · by_cases c2 : (m : Int) < (e : Int)
            · go_wp2_with fail
              go_meet
              case rel => exact ⟨true, rfl, by show _ ↔ _; simp; omega, S1⟩
            · go_wp2_with fail
              go_meet
              case rel => exact ⟨false, rfl, by show _ ↔ _; simp; omega, S1⟩
          · go_wp2_with fail
            go_meet
            case rel => exact ⟨false, rfl, by show _ ↔ _; simp; omega, S1⟩
        case rest =>
          clear S1
          obtain ⟨tb, rfl, htb, S1⟩ := hcut
          go_upto_if 185 with fail
          go_cut [] from 186 to 191 (fun wx => ∃ d1 : Array α, d1.size = N ∧ Hid (rowF d1 = rotF i m e (rowF d)) ∧ Aside (SWK enc k w0 blk off d1 wx))
          case first =>
            cases tb with
            | true =>
              have hc := htb.out.1 rfl
              have hcall := rotate_any L cap i m e d wc (.func (.func g) #[] cb) R hs hN S1.out hc.1 hc.2 (by omega) hsz
              clear htb
              go_wp2_with (first | (go_at_fn 81; refine hcall.mono ?_; rintro e' w5 ⟨rfl, dx, hdx, SX, hx⟩))
              go_meet
              case rel => exact ⟨dx, hdx, hx, SX⟩
            | false =>
              have hc := RN.out (fun h => by have := htb.out.2 h; cases this)
              clear htb
              go_wp2_with fail
              go_meet
              case rel => exact ⟨d, hN, hc.symm, S1⟩
          case rest =>
            clear S1 htb
            obtain ⟨d1, hd1, HR1, S2⟩ := hcut
            go_upto_region 41 with fail
            go_cut [199] from 192 to 198 (fun t wx => ∃ tb : Bool, t = .bool tb ∧ Hid (tb = true ↔ (a < i ∧ i < mid)) ∧ Aside (SWK enc k w0 blk off d1 wx))
            case first =>
              by_cases c1 : (a : Int) < (i : Int)
              · by_cases c2 : (i : Int) < (mid : Int)
                · go_wp2_with fail
                  go_meet
                  case rel => exact ⟨true, rfl, by show _ ↔ _; simp; omega, S2⟩
                · go_wp2_with fail
                  go_meet
                  case rel => exact ⟨false, rfl, by show _ ↔ _; simp; omega, S2⟩
              · go_wp2_with fail
                go_meet
                case rel => exact ⟨false, rfl, by show _ ↔ _; simp; omega, S2⟩
            case rest =>
              clear S2
              obtain ⟨tb, rfl, htb, S2⟩ := hcut
              go_upto_if 199 with fail
              go_cut [] from 200 to 205 (fun wx => ∃ d2 : Array α, d2.size = N ∧ Hid (Mix a mid (rotF i m e (rowF d)) (rowF d2)) ∧ Hid (Up (LeC cf) (rowF d2) a mid) ∧ Aside (SWK enc k w0 blk off d2 wx))
              case first =>
                cases tb with
                | true =>
                  have hc := htb.out.1 rfl
                  have hcall := HI0.out a i mid d1 wc (Nat.le_refl _) (by omega) hc.1 hc.2 (by omega) hd1 S2.out (by rw [HR1.out]; exact PARTS.out.1) (by rw [HR1.out]; exact PARTS.out.2.1)
                  clear htb
                  go_wp2_with (first | (go_at_fn 80; refine hcall.mono ?_; rintro e' w5 ⟨rfl, dx, hdx, SX, hx, hu⟩))
                  go_meet
                  case rel => exact ⟨dx, hdx, by rw [← HR1.out]; exact hx, hu, SX⟩
                | false =>
                  have hc : ¬ (a < i ∧ i < mid) := fun h => by have := htb.out.2 h; cases this
                  have hu : Up (LeC cf) (rowF d1) a mid := by
                    rw [HR1.out]
                    by_cases c : a < i
                    · have : i = mid := by omega
                      rw [← this]
                      exact PARTS.out.1
                    · have : a = i := by omega
                      rw [this]
                      exact PARTS.out.2.1
                  have HUU : Aside _ := hu
                  clear htb hc hu
                  go_wp2_with fail
                  go_meet
                  case rel => exact ⟨d1, hd1, by rw [HR1.out]; exact Mix.refl _ _ _, HUU.out, S2⟩
              case rest =>
                clear S2 htb
                obtain ⟨d2, hd2, HM2, HU2, S3⟩ := hcut
                have P3 : Aside (Up (LeC cf) (rowF d2) mid e) := (PARTS.out.2.2.1).same fun t h1 h2 => HM2.out.1 t (by omega)
                have P4 : Aside (Up (LeC cf) (rowF d2) e b) := (PARTS.out.2.2.2.1).same fun t h1 h2 => HM2.out.1 t (by omega)
                have fin : ∀ (d3 : Array α), Mix mid b (rowF d2) (rowF d3) → Up (LeC cf) (rowF d3) mid b → Mix a b (rowF d) (rowF d3) ∧ Up (LeC cf) (rowF d3) a b := fun d3 x y =>
                  ⟨((Mix.wide MR.out (by omega) (by omega)).trans (HM2.out.wide (Nat.le_refl _) (by omega))).trans (x.wide (by omega) (Nat.le_refl _)), Up.halves (by omega) (by omega) HM2.out x HU2.out y PARTS.out.2.2.2.2⟩
                have FIN : Aside _ := fin
                clear fin
                go_upto_region 43 with fail
                go_cut [213] from 206 to 212 (fun t wx => ∃ tb : Bool, t = .bool tb ∧ Hid (tb = true ↔ (mid < e ∧ e < b)) ∧ Aside (SWK enc k w0 blk off d2 wx))
                case first =>
                  by_cases c1 : (mid : Int) < (e : Int)
                  · by_cases c2 : (e : Int) < (b : Int)
                    · go_wp2_with fail
                      go_meet
                      case rel => exact ⟨true, rfl, by show _ ↔ _; simp; omega, S3⟩
                    · go_wp2_with fail
                      go_meet
                      case rel => exact ⟨false, rfl, by show _ ↔ _; simp; omega, S3⟩
                  · go_wp2_with fail
                    go_meet
                    case rel => exact ⟨false, rfl, by show _ ↔ _; simp; omega, S3⟩
                case rest =>
                  clear S3
                  obtain ⟨tb, rfl, htb, S3⟩ := hcut
                  cases tb with
                  | true =>
                    have hc := htb.out.1 rfl
                    have hcall := HI0.out mid e b d2 wc (by omega) (Nat.le_refl _) hc.1 hc.2 (by omega) hd2 S3.out P3.out P4.out
                    clear htb
                    go_wp2_with (first | (go_at_fn 80; refine hcall.mono ?_; rintro e' w5 ⟨rfl, dx, hdx, SX, hx, hu⟩))
                    go_end0
                    exact ⟨rfl, dx, hdx, SX, FIN.out dx hx hu⟩
                  | false =>
                    have hc : ¬ (mid < e ∧ e < b) := fun h => by have := htb.out.2 h; cases this
                    have hu : Up (LeC cf) (rowF d2) mid b := by
                      by_cases c : mid < e
                      · have : e = b := by omega
                        rw [← this]
                        exact P3.out
                      · have : mid = e := by omega
                        rw [this]
                        exact P4.out
                    have HUU : Aside _ := hu
                    clear htb hc hu
                    go_wp2_with fail
                    go_end0
                    exact ⟨rfl, d2, hd2, S3.out, FIN.out d2 (Mix.refl _ _ _) HUU.out⟩
end Go.Proofs.Ytjpkemamfccfdaa
/- A stable sort, walked: the merge of any two parts, blocks of 20, merges of blocks. -/
namespace Go.Proofs.Ytjpkemamfccfdaa
set_option linter.unusedVariables false
open Go.Shelf Go.RowKit Go.Lib Go.Sort
variable {P : Program} {k : Nat} {α : Type} [Inhabited α] {enc : α → List Value} {blk off : Nat} {d0 : Array α} {w0 : World}

theorem sym_any (L : Sf P k) (cf : α → α → Int) (O : OrdC cf) (g : Nat) (cb : Array Value) (eg : ∀ args w, (callFunc g args).run P w = .ok (.enter g args) w) {N : Nat} (hC : CmpLays P g cb enc k cf blk off N w0) (cap : Nat) (R : RowK enc k w0 blk off d0) (hs : d0.size = N) (hsz : N < 4611686018427387904) :
    ∀ (n a m b : Nat) (d : Array α) (w : World), b - a ≤ n → a < m → m < b → b ≤ N → d.size = N → SWK enc k w0 blk off d w → Up (LeC cf) (rowF d) a m → Up (LeC cf) (rowF d) m b → SymTo P k enc blk off w0 cf g cb N cap a m b d w := by
  intro n
  induction n with
  | zero => intro a m b d w h; omega
  | succ n ih =>
    intro a m b d w hn ham hmb hb hN S h1 h2
    by_cases c1 : m ≤ a + 1
    · have e : m = a + 1 := by omega
      exact sym_first L cf O g cb eg hC cap a m b d w R hs hN S c1 (by omega) hmb hb hsz (by rw [← e]; exact h2)
    · by_cases c2 : b ≤ m + 1
      · exact sym_last L cf O g cb eg hC cap a m b d w R hs hN S (by omega) c2 (by omega) hb hsz h1
      · exact sym_long L cf O g cb eg hC cap a m b d w R hs hN S (by omega) (by omega) hb hsz h1 h2 (fun a' m' b' d' w' ha hb' h1 h2 h3 h4 h5 h6 h7 => ih a' m' b' d' w' (by omega) h1 h2 (by omega) h4 h5 h6 h7)

/-- Each block of so many is in order. -/
def Blks (le : α → α → Prop) (f : Nat → α) (bs N : Nat) : Prop := ∀ s, bs ∣ s → Up le f s (min (s + bs) N)
omit [Inhabited α] in
theorem dvd_gap {c s a : Nat} (h1 : c ∣ s) (h2 : c ∣ a) (h3 : s ≤ a) (h4 : a < s + c) : s = a := by
  obtain ⟨x, rfl⟩ := h1
  obtain ⟨y, rfl⟩ := h2
  have hc : 0 < c := by omega
  have hxy : x ≤ y := Nat.le_of_mul_le_mul_left h3 hc
  have : y < x + 1 := by
    refine Nat.lt_of_mul_lt_mul_left (a := c) ?_
    rw [Nat.mul_add, Nat.mul_one]
    exact h4
  have : x = y := by omega
  rw [this]
/-- While blocks are merged: what is done, and what is left. -/
structure Half (le : α → α → Prop) (f : Nat → α) (bs N a : Nat) : Prop where
  dv : 2 * bs ∣ a
  done : ∀ s, 2 * bs ∣ s → s + 2 * bs ≤ a → Up le f s (s + 2 * bs)
  rest : ∀ s, bs ∣ s → a ≤ s → Up le f s (min (s + bs) N)
omit [Inhabited α] in
theorem Half.start {le : α → α → Prop} {f : Nat → α} {bs N : Nat} (h : Blks le f bs N) (hb : 0 < bs) : Half le f bs N 0 :=
  ⟨⟨0, rfl⟩, fun s _ h => by omega, fun s hs _ => h s hs⟩
omit [Inhabited α] in
theorem Half.dv1 {le : α → α → Prop} {f : Nat → α} {bs N a : Nat} (h : Half le f bs N a) : bs ∣ a := Nat.dvd_trans ⟨2, Nat.mul_comm _ _⟩ h.dv
omit [Inhabited α] in
theorem Half.parts {le : α → α → Prop} {f : Nat → α} {bs N a : Nat} (h : Half le f bs N a) (hb : a + bs ≤ N) : Up le f a (a + bs) ∧ Up le f (a + bs) (min (a + 2 * bs) N) := by
  constructor
  · have := h.rest a h.dv1 (Nat.le_refl _)
    rwa [Nat.min_eq_left hb] at this
  · have := h.rest (a + bs) ((Nat.dvd_add_iff_right h.dv1).1 (Nat.dvd_refl _)) (by omega)
    rwa [show a + bs + bs = a + 2 * bs by omega] at this
omit [Inhabited α] in
theorem Half.step {le : α → α → Prop} {f g : Nat → α} {bs N a : Nat} (h : Half le f bs N a) (hb : a + 2 * bs ≤ N) (x : Mix a (a + 2 * bs) f g) (u : Up le g a (a + 2 * bs)) (h0 : 0 < bs) : Half le g bs N (a + 2 * bs) := by
  refine ⟨(Nat.dvd_add_iff_right h.dv).1 (Nat.dvd_refl _), fun s hs hle => ?_, fun s hs hle => ?_⟩
  · by_cases c : s + 2 * bs ≤ a
    · exact (h.done s hs c).same fun t h1 h2 => x.1 t (by omega)
    · have e : s = a := by
        by_cases c2 : s ≤ a
        · exact dvd_gap hs h.dv c2 (by omega)
        · omega
      rw [e]
      exact u
  · exact (h.rest s hs (by omega)).same fun t h1 h2 => x.1 t (by omega)
omit [Inhabited α] in
theorem blks_of {le : α → α → Prop} {f g : Nat → α} {c N a : Nat} (hc : c ∣ a) (done : ∀ s, c ∣ s → s + c ≤ a → Up le f s (s + c)) (hb : N < a + c) (x : Mix a N f g) (u : Up le g a N) (h0 : 0 < c) : Blks le g c N := fun s hs => by
  by_cases c1 : s + c ≤ a
  · refine Up.part (b := s + c) ?_ (Nat.le_refl _) (Nat.min_le_left _ _)
    exact (done s hs c1).same fun t h1 h2 => x.1 t (by omega)
  · by_cases c2 : s ≤ a
    · have e : s = a := dvd_gap hs hc c2 (by omega)
      rw [e]
      exact u.part (Nat.le_refl _) (Nat.min_le_right _ _)
    · have hlt : a + c ≤ s := by
        by_cases c3 : a + c ≤ s
        · exact c3
        · have := dvd_gap hc hs (by omega) (by omega)
          omega
      refine Up.nil1 ?_
      have := Nat.min_le_right (s + c) N
      omega
omit [Inhabited α] in
theorem Half.over {le : α → α → Prop} {f g : Nat → α} {bs N a : Nat} (h : Half le f bs N a) (hb : N < a + 2 * bs) (x : Mix a N f g) (u : Up le g a N) (h0 : 0 < bs) : Blks le g (2 * bs) N :=
  blks_of h.dv h.done hb x u (by omega)

set_option maxHeartbeats 8000000 in
set_option maxRecDepth 1000000 in
theorem stable_any (L : Sf P k) (cf : α → α → Int) (O : OrdC cf) (g : Nat) (cb : Array Value) (eg : ∀ args w, (callFunc g args).run P w = .ok (.enter g args) w) {N : Nat} (hC : CmpLays P g cb enc k cf blk off N w0) (cap : Nat) (d : Array α) (w : World) (R : RowK enc k w0 blk off d0) (hs : d0.size = N) (hN : d.size = N) (S : SWK enc k w0 blk off d w) (hsz : N ≤ 1000000) :
    Calls P 76 #[.slice (some ⟨blk, off, none⟩) N cap, .int .i64 N, .func (.func g) #[] cb] w fun e w' => e = .returned (.tuple #[]) ∧ ∃ d', d'.size = N ∧ SWK enc k w0 blk off d' w' ∧ Mix 0 N (rowF d) (rowF d') ∧ Up (LeC cf) (rowF d') 0 N := by
  have S0 : Aside (SWK enc k w0 blk off d w) := S
  have HC : Aside _ := hC
  clear S hC
  have mixed := L.mixed; have t0 := L.t0; have a0 := L.a0; have z0 := L.z0; have v0 := L.v0; have t3 := L.t3; have a3 := L.a3; have z3 := L.z3; have v3 := L.v3; have t4 := L.t4; have a4 := L.a4; have z4 := L.z4; have v4 := L.v4; have tG := L.tG; have aG := L.aG; have zG := L.zG; have vG := L.vG; have aE := L.aE; have zE := L.zE; have tU := L.tU; have aU := L.aU; have zU := L.zU; have vU := L.vU
  have eI : ∀ args w, (callFunc 79 args).run P w = .ok (.enter 79 args) w := enters_of L.fI (by kernel_rfl) rfl
  have eM : ∀ args w, (callFunc 80 args).run P w = .ok (.enter 80 args) w := enters_of L.fM (by kernel_rfl) rfl
  have FG := L.fT
  go_enter FG, Try.ntmps76
  go_wp2
  go_loopg [7, 8] N (fun kx sa sb wr => ∃ (a b : Nat) (dk : Array α), sa = .int .i64 a ∧ sb = .int .i64 b ∧ b ≤ a + 20 ∧ a + 20 ≤ b ∧ a ≤ N ∧ N - a ≤ kx ∧ dk.size = N ∧ Aside (SWK enc k w0 blk off dk wr) ∧ Hid (Mix 0 N (rowF d) (rowF dk)) ∧ Hid (20 ∣ a) ∧ Hid (∀ s, 20 ∣ s → s + 20 ≤ a → Up (LeC cf) (rowF dk) s (s + 20)))
  case atStart => exact ⟨0, 20, d, rfl, rfl, by omega, by omega, by omega, by omega, hN, S0, Mix.refl _ _ _, ⟨0, rfl⟩, fun s _ h => by omega⟩
  case round =>
    clear S0
    obtain ⟨a, b, dk, rfl, rfl, hb1, hb2, ha, hkx, hds, S1, HM, HD, HU⟩ := hrel
    by_cases hlt : (b : Int) ≤ (N : Int)
    · have hcall := ins_any L cf O g cb eg HC.out cap a b dk wr R hs hds S1.out (by omega) (by omega) (by omega)
      have wb : IntKind.i64.wrap ((b : Int) + 20) = ((b + 20 : Nat) : Int) := by rw [IntKind.wrap_i64]; omega
      go_wp2_with (first | (go_at_fn 79; refine hcall.mono ?_; rintro e w5 ⟨rfl, dx, hdx, SX, hx, hu⟩))
      go_roundg (N - b)
      case measure => omega
      case rel =>
        refine ⟨b, b + 20, dx, rfl, by first | rfl | go_num, by omega, by omega, by omega, Nat.le_refl _, hdx, SX, HM.out.trans (hx.wide (by omega) (by omega)), ?_, ?_⟩
        · show 20 ∣ b
          have : b = a + 20 := by omega
          rw [this]
          exact (Nat.dvd_add_iff_right HD.out).1 (Nat.dvd_refl _)
        · show ∀ s, 20 ∣ s → s + 20 ≤ b → Up (LeC cf) (rowF dx) s (s + 20)
          intro s hs20 hle
          by_cases c : s + 20 ≤ a
          · exact (HU.out s hs20 c).same fun t h1 h2 => hx.1 t (by omega)
          · have e : s = a := by
              by_cases c2 : s ≤ a
              · exact dvd_gap hs20 HD.out c2 (by omega)
              · omega
            have e2 : a + 20 = b := by omega
            rw [e, e2]
            exact hu
    · have hcall := ins_any L cf O g cb eg HC.out cap a N dk wr R hs hds S1.out (by omega) (by omega) (by omega)
      go_upto_region 7 with (first | (go_at_fn 79; refine hcall.mono ?_; rintro e w5 ⟨rfl, dx, hdx, SX, hx, hu⟩))
      have MX : Aside (Mix 0 N (rowF d) (rowF dx)) := HM.out.trans (hx.wide (by omega) (Nat.le_refl _))
      have BX : Aside (Blks (LeC cf) (rowF dx) 20 N) := blks_of HD.out HU.out (by omega) hx hu (by omega)
      have SX : Aside (SWK enc k w0 blk off dx w5) := SX
      clear S1 HM HD HU hcall hx hu hlt hb1 hb2 ha hkx hds
      go_loopg [6] N (fun ky s6 wr => ∃ (bs : Nat) (dj : Array α), s6 = .int .i64 bs ∧ 20 ≤ bs ∧ bs ≤ 2000000 ∧ N - bs ≤ ky ∧ dj.size = N ∧ Aside (SWK enc k w0 blk off dj wr) ∧ Hid (Mix 0 N (rowF d) (rowF dj)) ∧ Hid (Blks (LeC cf) (rowF dj) bs N))
      case atStart => exact ⟨20, dx, rfl, Nat.le_refl _, by omega, by omega, hdx, SX, MX, BX⟩
      case round =>
        clear SX MX BX
        obtain ⟨bs, dj, rfl, hbs, hbs2, hky, hdj, S1, HM, HB⟩ := hrel
        by_cases hlt : (bs : Int) < (N : Int)
        · have w2 : IntKind.i64.wrap (2 * (bs : Int)) = ((2 * bs : Nat) : Int) := by rw [IntKind.wrap_i64]; omega
          have w3 : IntKind.i64.wrap ((bs : Int) * 2) = ((2 * bs : Nat) : Int) := by rw [IntKind.wrap_i64]; omega
          obtain ⟨b2, hb2⟩ : ∃ b2 : Nat, b2 = 2 * bs := ⟨_, rfl⟩
          rw [← hb2] at w2 w3
          have hb3 : b2 ≤ 2 * bs := by omega
          have hb4 : 2 * bs ≤ b2 := by omega
          have HB2 := Lib.hid hb2
          clear hb2
          go_wp2
          go_loopg [7, 8] N (fun kz s7 s8 wr => ∃ (a b : Nat) (dk : Array α), s7 = .int .i64 a ∧ s8 = .int .i64 b ∧ b ≤ a + b2 ∧ a + b2 ≤ b ∧ a ≤ N ∧ N - a ≤ kz ∧ dk.size = N ∧ Aside (SWK enc k w0 blk off dk wr) ∧ Hid (Mix 0 N (rowF d) (rowF dk)) ∧ Hid (Half (LeC cf) (rowF dk) bs N a))
          case atStart => exact ⟨0, b2, dj, rfl, by first | rfl | go_num, by omega, by omega, by omega, by omega, hdj, S1, HM.out, Half.start HB.out (by omega)⟩
          case round =>
            clear S1 HM HB
            obtain ⟨a, b, dk, rfl, rfl, hab1, hab2, haN, hkz, hdk, S2, HM, HH⟩ := hrel
            have w4 : IntKind.i64.wrap ((a : Int) + (bs : Int)) = ((a + bs : Nat) : Int) := by rw [IntKind.wrap_i64]; omega
            obtain ⟨mm, hmm⟩ : ∃ mm : Nat, mm = a + bs := ⟨_, rfl⟩
            rw [← hmm] at w4
            have hm1 : mm ≤ a + bs := by omega
            have hm2 : a + bs ≤ mm := by omega
            have HMM := Lib.hid hmm
            clear hmm
            by_cases hle : (b : Int) ≤ (N : Int)
            · have w5 : IntKind.i64.wrap ((b : Int) + (b2 : Int)) = ((b + b2 : Nat) : Int) := by rw [IntKind.wrap_i64]; omega
              have hp := HH.out.parts (by omega)
              have hbb : a + 2 * bs = b := by omega
              rw [← HMM.out, hbb, Nat.min_eq_left (show b ≤ N by omega)] at hp
              have hcall := sym_any L cf O g cb eg HC.out cap R hs (by omega) (b - a) a mm b dk wr (Nat.le_refl _) (by omega) (by omega) (by omega) hdk S2.out hp.1 hp.2
              unfold SymTo at hcall
              have HBB := Lib.hid hbb
              clear hp hbb
              go_wp2_with (first | (go_at_fn 80; refine hcall.mono ?_; rintro e w6 ⟨rfl, dx, hdx, SX, hx, hu⟩))
              go_roundg (N - b)
              case measure => omega
              case rel =>
                refine ⟨b, b + b2, dx, rfl, by first | rfl | go_num, by omega, by omega, by omega, Nat.le_refl _, hdx, SX, HM.out.trans (hx.wide (by omega) (by omega)), ?_⟩
                show Half _ _ _ _ _
                rw [← HBB.out]
                exact HH.out.step (by omega) (by rw [HBB.out]; exact hx) (by rw [HBB.out]; exact hu) (by omega)
            · have w6 : IntKind.i64.wrap (b2 : Int) = (b2 : Int) := by rw [IntKind.wrap_i64]; omega
              by_cases hlm : (mm : Int) < (N : Int)
              · have hp := HH.out.parts (by omega)
                rw [← HMM.out, Nat.min_eq_right (show N ≤ a + 2 * bs by omega)] at hp
                have hcall := sym_any L cf O g cb eg HC.out cap R hs (by omega) (N - a) a mm N dk wr (Nat.le_refl _) (by omega) (by omega) (by omega) hdk S2.out hp.1 hp.2
                unfold SymTo at hcall
                clear hp
                go_wp2_with (first | (go_at_fn 80; refine hcall.mono ?_; rintro e w6 ⟨rfl, dx, hdx, SX, hx, hu⟩))
                go_roundg (N - b2)
                case measure => omega
                case rel =>
                  refine ⟨b2, dx, by first | rfl | go_num | (congr 1; omega), by omega, by omega, Nat.le_refl _, hdx, SX, HM.out.trans (hx.wide (by omega) (Nat.le_refl _)), ?_⟩
                  show Blks _ _ _ _
                  rw [HB2.out]
                  exact HH.out.over (by omega) hx hu (by omega)
              · have hu : Up (LeC cf) (rowF dk) a N := by
                  have := HH.out.rest a HH.out.dv1 (Nat.le_refl _)
                  rwa [Nat.min_eq_right (show N ≤ a + bs by omega)] at this
                have HUU : Aside _ := hu
                clear hu
                go_wp2_with fail
                go_roundg (N - b2)
                case measure => omega
                case rel =>
                  refine ⟨b2, dk, by first | rfl | go_num | (congr 1; omega), by omega, by omega, Nat.le_refl _, hdk, S2, HM, ?_⟩
                  show Blks _ _ _ _
                  rw [HB2.out]
                  exact HH.out.over (by omega) (Mix.refl _ _ _) HUU.out (by omega)
        · have hu : Up (LeC cf) (rowF dj) 0 N := by
            have := HB.out 0 ⟨0, rfl⟩
            rwa [Nat.zero_add, Nat.min_eq_right (show N ≤ bs by omega)] at this
          have HUU : Aside _ := hu
          clear hu
          go_wp2
          go_end0
          exact ⟨rfl, dj, hdj, S1.out, HM.out, HUU.out⟩
end Go.Proofs.Ytjpkemamfccfdaa
/- The bytes of chapter 1's numbers as plain lists: enc (what is written), dec (what is read), zig and zag (the sign in the lowest bit). No Go, no program: plain mathematics. -/
namespace Go.Proofs.Ytjpkemamfccfdaa

def enc (u : Nat) : List UInt8 := if u < 128 then [UInt8.ofNat u] else UInt8.ofNat (u % 128 + 128) :: enc (u / 128)
termination_by u
decreasing_by omega

theorem enc_small {u : Nat} (h : u < 128) : enc u = [UInt8.ofNat u] := by rw [enc, if_pos h]
theorem enc_big {u : Nat} (h : 128 ≤ u) : enc u = UInt8.ofNat (u % 128 + 128) :: enc (u / 128) := by rw [enc, if_neg (by omega)]
theorem ofNat_toNat {u : Nat} (h : u < 256) : (UInt8.ofNat u).toNat = u := by simp; omega

def dec : Nat → Nat → List UInt8 → Option (Nat × Nat)
  | _, _, [] => none
  | i, u, c :: r => if 10 ≤ i then none else if 128 ≤ c.toNat then dec (i + 1) (u + (c.toNat - 128) * 128 ^ i) r
      else if (0 < i ∧ c.toNat = 0) ∨ (i = 9 ∧ 1 < c.toNat) then none else some (u + c.toNat * 128 ^ i, i + 1)

theorem pow9 {i : Nat} (h : 10 ≤ i) : 1180591620717411303424 ≤ 128 ^ i := by
  have : (128 : Nat) ^ 10 ≤ 128 ^ i := Nat.pow_le_pow_right (by omega) h
  have e : (128 : Nat) ^ 10 = 1180591620717411303424 := by decide
  omega

theorem dec_enc (v : Nat) : ∀ (i u : Nat) (r : List UInt8), v * 128 ^ i < 18446744073709551616 → (0 < i → 0 < v) → i ≤ 9 → dec i u (enc v ++ r) = some (u + v * 128 ^ i, i + (enc v).length) := by
  induction v using enc.induct with
  | case1 v h =>
    intro i u r hv hp hi
    rw [enc_small h]
    have e := ofNat_toNat (u := v) (by omega)
    simp only [List.cons_append, List.nil_append, dec, e]
    rw [if_neg (by omega), if_neg (by omega), if_neg]
    · rfl
    · rintro (⟨a, b⟩ | ⟨a, b⟩)
      · have := hp a; omega
      · subst a
        have e9 : (128 : Nat) ^ 9 = 9223372036854775808 := by decide
        rw [e9] at hv; omega
  | case2 v h ih =>
    intro i u r hv hp hi
    rw [enc_big (by omega)]
    have e := ofNat_toNat (u := v % 128 + 128) (by omega)
    simp only [List.cons_append, dec, e]
    have hs : v * 128 ^ i = (v % 128) * 128 ^ i + (v / 128) * 128 ^ (i + 1) := by
      conv => lhs; rw [show v = v % 128 + 128 * (v / 128) from by omega]
      rw [Nat.add_mul, Nat.pow_succ]
      congr 1
      rw [Nat.mul_comm 128 (v / 128), Nat.mul_assoc, Nat.mul_comm 128 (128 ^ i)]
    have hi9 : i ≠ 9 := by
      rintro rfl
      have e9 : (128 : Nat) ^ 9 = 9223372036854775808 := by decide
      rw [e9] at hv; omega
    rw [if_neg (by omega), if_pos (by omega), ih (i + 1) _ r (by omega) (by omega) (by omega)]
    rw [hs]
    simp only [List.length_cons, Option.some.injEq, Prod.mk.injEq]
    constructor
    · rw [show v % 128 + 128 - 128 = v % 128 from by omega]; omega
    · omega

theorem dec_cut (v : Nat) : ∀ (i u k : Nat), k < (enc v).length → dec i u ((enc v).take k) = none := by
  induction v using enc.induct with
  | case1 v h =>
    intro i u k hk
    rw [enc_small h] at hk ⊢
    obtain rfl : k = 0 := by simpa using hk
    rfl
  | case2 v h ih =>
    intro i u k hk
    rw [enc_big (by omega)] at hk ⊢
    cases k with
    | zero => rfl
    | succ k =>
      have e := ofNat_toNat (u := v % 128 + 128) (by omega)
      simp only [List.take_succ_cons, dec, e]
      rw [if_pos (show 128 ≤ v % 128 + 128 from by omega), ih _ _ k (by simpa using hk)]
      simp

theorem enc_pos (u : Nat) : 0 < (enc u).length := by
  rw [enc]; split <;> simp

theorem enc_len_le (u : Nat) : ∀ k : Nat, u < 128 ^ (k + 1) → (enc u).length ≤ k + 1 := by
  induction u using enc.induct with
  | case1 u h => intro k _; rw [enc_small h]; simp
  | case2 u h ih =>
    intro k hk
    rw [enc_big (by omega)]
    cases k with
    | zero => simp at hk; omega
    | succ k =>
      have := ih k (by rw [Nat.div_lt_iff_lt_mul (by omega)]; rw [Nat.pow_succ] at hk; exact hk)
      simp; omega

theorem enc_len_ge (u : Nat) : ∀ k : Nat, 128 ^ k ≤ u → k + 1 ≤ (enc u).length := by
  induction u using enc.induct with
  | case1 u h =>
    intro k hk; rw [enc_small h]
    cases k with
    | zero => simp
    | succ k =>
      have : 128 ^ (k + 1) ≥ 128 := by rw [Nat.pow_succ]; have := Nat.pow_pos (n := k) (show 0 < 128 by omega); omega
      omega
  | case2 u h ih =>
    intro k hk
    rw [enc_big (by omega)]
    cases k with
    | zero => simp
    | succ k =>
      have := ih k (by rw [Nat.le_div_iff_mul_le (by omega)]; rw [Nat.pow_succ] at hk; exact hk)
      simp; omega

theorem enc_len10 {u : Nat} (h : u < 18446744073709551616) : (enc u).length ≤ 10 :=
  enc_len_le u 9 (Nat.lt_of_lt_of_le h (by decide))

theorem enc_last (u : Nat) : (enc u).length = 1 ∨ ∃ l c, enc u = l ++ [c] ∧ c ≠ 0 := by
  induction u using enc.induct with
  | case1 u h => left; rw [enc_small h]; rfl
  | case2 u h ih =>
    right
    rw [enc_big (by omega)]
    rcases ih with h1 | ⟨l, c, h1, h2⟩
    · by_cases h3 : u / 128 < 128
      · rw [enc_small h3]
        refine ⟨[UInt8.ofNat (u % 128 + 128)], UInt8.ofNat (u / 128), rfl, fun e => ?_⟩
        have e' := congrArg UInt8.toNat e
        rw [ofNat_toNat (by omega)] at e'
        simp at e'; omega
      · rw [enc_big (by omega)] at h1
        have := enc_pos (u / 128 / 128)
        simp only [List.length_cons] at h1; omega
    · exact ⟨_ :: l, c, by rw [h1]; rfl, h2⟩

theorem dec_none_le {l : List UInt8} : ∀ {i u : Nat}, 10 ≤ i → dec i u l = none := by
  cases l with
  | nil => intros; rfl
  | cons c r => intro i u h; simp [dec, h]

theorem dec_some {l : List UInt8} : ∀ {i u v k : Nat}, dec i u l = some (v, k) → i < k ∧ k - i ≤ l.length ∧ k ≤ 10 ∧ (∃ c, l[k - i - 1]? = some c ∧ c.toNat < 128) := by
  induction l with
  | nil => intro i u v k h; cases h
  | cons c r ih =>
    intro i u v k h
    simp only [dec] at h
    split at h
    · cases h
    · split at h
      · obtain ⟨a, b, d, c', e, f⟩ := ih h
        refine ⟨by omega, by simp; omega, d, c', ?_, f⟩
        rw [show k - i - 1 = (k - (i + 1) - 1) + 1 from by omega]
        exact e
      · split at h
        · cases h
        · simp only [Option.some.injEq, Prod.mk.injEq] at h
          refine ⟨by omega, by simp; omega, by omega, c, ?_, by omega⟩
          rw [show k - i - 1 = 0 from by omega]
          rfl

theorem dec_lt {l : List UInt8} : ∀ {i u v k : Nat}, dec i u l = some (v, k) → u < 128 ^ i → v < 18446744073709551616 := by
  induction l with
  | nil => intro i u v k h; cases h
  | cons c r ih =>
    intro i u v k h hu
    simp only [dec] at h
    split at h
    · cases h
    · rename_i hi
      split at h
      · refine ih h ?_
        have hc := c.toNat_lt
        have : (c.toNat - 128) * 128 ^ i ≤ 127 * 128 ^ i := Nat.mul_le_mul_right _ (by omega)
        rw [Nat.pow_succ]; omega
      · split at h
        · cases h
        · rename_i hc hn
          simp only [Option.some.injEq, Prod.mk.injEq] at h
          obtain ⟨rfl, rfl⟩ := h
          by_cases h9 : i = 9
          · subst h9
            have e9 : (128 : Nat) ^ 9 = 9223372036854775808 := by decide
            rw [e9] at hu ⊢
            omega
          · have h1 : c.toNat * 128 ^ i ≤ 127 * 128 ^ i := Nat.mul_le_mul_right _ (by omega)
            have h2 : (128 : Nat) ^ i ≤ 128 ^ 8 := Nat.pow_le_pow_right (by omega) (by omega)
            have e8 : (128 : Nat) ^ 8 = 72057594037927936 := by decide
            omega

def zig (n : Int) : Nat := if n < 0 then (2 * (-n - 1) + 1).toNat else (2 * n).toNat
def zag (u : Nat) : Int := if u % 2 = 1 then -((u / 2 : Nat) : Int) - 1 else ((u / 2 : Nat) : Int)
theorem zag_zig (n : Int) : zag (zig n) = n := by unfold zag zig; split <;> split <;> omega
theorem zig_lt {n : Int} (h1 : -9223372036854775808 ≤ n) (h2 : n ≤ 9223372036854775807) : zig n < 18446744073709551616 := by unfold zig; split <;> omega
theorem zag_in {u : Nat} (h : u < 18446744073709551616) : -9223372036854775808 ≤ zag u ∧ zag u ≤ 9223372036854775807 := by unfold zag; split <;> omega
theorem zig_inj {m n : Int} (h : zig m = zig n) : m = n := by rw [← zag_zig m, ← zag_zig n, h]

/-- The bytes of a number. -/
def numB (n : Int) : List UInt8 := enc (zig n)
theorem numB_pos (n : Int) : 0 < (numB n).length := enc_pos _
theorem numB_len {n : Int} (h1 : -9223372036854775808 ≤ n) (h2 : n ≤ 9223372036854775807) : (numB n).length ≤ 10 := enc_len10 (zig_lt h1 h2)
theorem dec_numB {n : Int} (h1 : -9223372036854775808 ≤ n) (h2 : n ≤ 9223372036854775807) (r : List UInt8) : dec 0 0 (numB n ++ r) = some (zig n, (numB n).length) := by
  have := dec_enc (zig n) 0 0 r (by simpa using zig_lt h1 h2) (by omega) (by omega)
  simpa [numB] using this

/-- The bytes of a text. -/
def textB (s : List UInt8) : List UInt8 := numB (s.length : Int) ++ s
end Go.Proofs.Ytjpkemamfccfdaa
/- Values, plainly: which are right, how they stand, their bytes and their texts. -/
namespace Go.Proofs.Ytjpkemamfccfdaa
set_option linter.unusedVariables false

/-- a to z. -/
def lett (c : UInt8) : Bool := decide (97 ≤ c.toNat) && decide (c.toNat ≤ 122)
/-- 0 to 9, and '_'. -/
def later (c : UInt8) : Bool := decide (48 ≤ c.toNat) && decide (c.toNat ≤ 57) || decide (c.toNat = 95)
def okAt (j : Nat) (c : UInt8) : Bool := lett c || decide (0 < j) && later c

/-- P3.1. -/
def Named (l : List UInt8) : Prop := (1 ≤ l.length ∧ l.length ≤ 16) ∧ ∀ j (h : j < l.length), okAt j l[j] = true
instance (l : List UInt8) : Decidable (Named l) := by unfold Named; infer_instance

theorem not_named {l : List UInt8} {j : Nat} (h : j < l.length) (hb : okAt j l[j] = false) : decide (Named l) = false := by
  rw [decide_eq_false_iff_not]
  rintro ⟨_, ha⟩
  rw [ha j h] at hb
  cases hb

/-- P3.2. -/
def RightV (k n : Int) (l : List UInt8) : Prop :=
  k = 1 ∧ l = [] ∧ (n = 0 ∨ n = 1) ∨ k = 2 ∧ l = [] ∨ k = 3 ∧ n = 0 ∧ l.length ≤ 64 ∨ k = 4 ∧ l = [] ∧ 0 ≤ n ∧ n ≤ 1099511627776 ∨ k = 5 ∧ n = 0 ∧ Named l
instance (k n : Int) (l : List UInt8) : Decidable (RightV k n l) := by unfold RightV; infer_instance

/-- Texts and names. -/
def inT (k : Int) : Bool := decide (k = 3) || decide (k = 5)

/-- A value: kind, number, text. -/
structure Vl where
  k : Int
  n : Int
  s : ByteArray
def Vl.l (v : Vl) : List UInt8 := v.s.data.toList
def Vl.right (v : Vl) : Prop := RightV v.k v.n v.l
instance (v : Vl) : Decidable v.right := by unfold Vl.right; infer_instance
theorem Vl.ext' {a b : Vl} (h1 : a.k = b.k) (h2 : a.n = b.n) (h3 : a.l = b.l) : a = b := by
  obtain ⟨k, n, s⟩ := a
  obtain ⟨k', n', s'⟩ := b
  obtain ⟨⟨x⟩⟩ := s
  obtain ⟨⟨y⟩⟩ := s'
  simp_all [Vl.l]
instance : DecidableEq Vl := fun a b => if h : a.k = b.k ∧ a.n = b.n ∧ a.l = b.l then .isTrue (Vl.ext' h.1 h.2.1 h.2.2) else .isFalse (by rintro rfl; exact h ⟨rfl, rfl, rfl⟩)
/-- What int can hold. -/
def Vl.ok (v : Vl) : Prop := (-9223372036854775808 ≤ v.k ∧ v.k ≤ 9223372036854775807) ∧ (-9223372036854775808 ≤ v.n ∧ v.n ≤ 9223372036854775807) ∧ v.s.size ≤ maxLen

/-- P3.4. -/
def putB (v : Vl) : List UInt8 := numB v.k ++ if inT v.k = true then textB v.l else numB v.n

def hexd (n : Nat) : UInt8 := UInt8.ofNat (if n < 10 then 48 + n else 87 + n)
/-- Must a byte be written by its number? -/
def odd8 (c : UInt8) : Bool := decide (c.toNat < 32) || decide (126 < c.toNat) || decide (c.toNat = 34) || decide (c.toNat = 92)
def quoteC (c : UInt8) : List UInt8 := if odd8 c = true then [92, hexd (c.toNat / 16), hexd (c.toNat % 16)] else [c]
def quoteL : List UInt8 → List UInt8
  | [] => []
  | c :: r => quoteC c ++ quoteL r
theorem quoteL_app (l m : List UInt8) : quoteL (l ++ m) = quoteL l ++ quoteL m := by
  induction l with
  | nil => rfl
  | cons c r ih => simp [quoteL, ih]
def quoteB (l : List UInt8) : List UInt8 := [34] ++ quoteL l ++ [34]
theorem quoteC_len (c : UInt8) : (quoteC c).length ≤ 3 := by unfold quoteC; split <;> simp
theorem quoteL_len (l : List UInt8) : (quoteL l).length ≤ 3 * l.length := by
  induction l with
  | nil => simp [quoteL]
  | cons c r ih => have := quoteC_len c; simp [quoteL]; omega

/-- P3.6. -/
def showB (v : Vl) : List UInt8 :=
  if v.right then
    if v.k = 1 then (if v.n = 1 then [116, 114, 117, 101] else [102, 97, 108, 115, 101])
    else if v.k = 3 then quoteB v.l
    else if v.k = 4 then 64 :: Lib.itoa v.n
    else if v.k = 5 then 35 :: v.l
    else Lib.itoa v.n
  else []

/-- Cut to 80 bytes. -/
def fewV (v : Vl) : Vl := ⟨v.k, v.n, ⟨(v.l.take 80).toArray⟩⟩
theorem fewV_l (v : Vl) : (fewV v).l = v.l.take 80 := rfl
theorem fewV_size (v : Vl) : (fewV v).s.size ≤ 80 := by show (v.l.take 80).toArray.size ≤ 80; simp; omega
theorem fewV_len (v : Vl) : (fewV v).l.length ≤ 80 := by rw [fewV_l]; simp; omega
theorem fewV_ok {v : Vl} (h : v.ok) : (fewV v).ok := ⟨h.1, h.2.1, by have := fewV_size v; unfold maxLen; omega⟩
theorem right_few {v : Vl} (h : v.right) : fewV v = v := by
  have hl : v.l.length ≤ 80 := by
    unfold Vl.right RightV at h
    rcases h with ⟨_, h, _⟩ | ⟨_, h⟩ | ⟨_, _, h⟩ | ⟨_, h, _⟩ | ⟨_, _, h, _⟩
    all_goals first | (rw [h]; simp) | omega
  exact Vl.ext' rfl rfl (by rw [fewV_l, List.take_of_length_le hl])
end Go.Proofs.Ytjpkemamfccfdaa
/- Names: the project's test. -/
namespace Go.Proofs.Ytjpkemamfccfdaa
set_option linter.unusedVariables false
open Go.RowKit

theorem data_at {s : ByteArray} {k : Nat} (h : k < s.size) : s.data.toList[k]? = some s[k] := by
  have hs : k < s.data.size := h
  rw [Array.getElem?_toList, Array.getElem?_eq_getElem hs]
  rfl
theorem data_len (s : ByteArray) : s.data.toList.length = s.size := by rw [Array.length_toList]; rfl

theorem okAt_of {k : Nat} {c : UInt8} (h : 97 ≤ c.toNat ∧ c.toNat ≤ 122 ∨ 0 < k ∧ (48 ≤ c.toNat ∧ c.toNat ≤ 57 ∨ c.toNat = 95)) : okAt k c = true := by
  simpa [okAt, lett, later] using h
theorem okAt_not {k : Nat} {c : UInt8} (h : ¬ (97 ≤ c.toNat ∧ c.toNat ≤ 122 ∨ 0 < k ∧ (48 ≤ c.toNat ∧ c.toNat ≤ 57 ∨ c.toNat = 95))) : okAt k c = false := by
  rw [← Bool.not_eq_true]
  intro h'
  exact h (by simpa [okAt, lett, later] using h')

/-- The places below k are those of a name. -/
def NameTo (l : List UInt8) (k : Nat) : Prop := ∀ j c, l[j]? = some c → j < k → okAt j c = true
theorem NameTo.step {l : List UInt8} {k : Nat} {c : UInt8} (h : NameTo l k) (hk : l[k]? = some c) (hb : okAt k c = true) : NameTo l (k + 1) := fun j d hj hjk => by
  by_cases e : j = k
  · subst e
    obtain rfl := Option.some.inj (hk.symm.trans hj)
    exact hb
  · exact h j d hj (by omega)
theorem NameTo.all {l : List UInt8} {n : Nat} (h : NameTo l n) (hn : l.length = n) : decide (Named l) = decide (1 ≤ n ∧ n ≤ 16) := by
  rw [decide_eq_decide]
  subst hn
  exact ⟨fun h => h.1, fun h1 => ⟨h1, fun j hj => h j _ (List.getElem?_eq_getElem hj) hj⟩⟩
theorem name_bad {l : List UInt8} {j : Nat} {c : UInt8} (h : l[j]? = some c) (hb : okAt j c = false) : decide (Named l) = false := by
  rw [decide_eq_false_iff_not]
  rintro ⟨_, ha⟩
  obtain ⟨hj, e⟩ := List.getElem?_eq_some_iff.1 h
  have := ha j hj
  rw [e, hb] at this
  cases this
theorem name_len {l : List UInt8} (h : l.length < 1 ∨ 16 < l.length) : decide (Named l) = false := by
  rw [decide_eq_false_iff_not]
  rintro ⟨h, _⟩
  omega

set_option maxHeartbeats 1600000 in
theorem name_any (s : ByteArray) (hs : s.size ≤ maxLen) (w : World) :
    Calls Try.prog 73 #[.string s] w fun e w' => e = .returned (.bool (decide (Named s.data.toList))) ∧ w' = w := by
  have hl := data_len s
  generalize hL : s.data.toList = l at *
  have HD : Hid (∀ k (h : k < s.size), l[k]? = some s[k]) := by
    show ∀ k (h : k < s.size), l[k]? = some s[k]
    subst hL; exact fun k h => data_at h
  have HL := Lib.hid hl
  unfold maxLen at hs
  clear hl hL
  by_cases h1 : s.size < 1
  · go_enter Try.func73, Try.ntmps73
    go_wp2_with fail
    go_ret
    exact ⟨ret_bool (name_len (by have := HL.out; omega)).symm, rfl⟩
  by_cases h2 : 16 < s.size
  · go_enter Try.func73, Try.ntmps73
    go_wp2_with fail
    go_ret
    exact ⟨ret_bool (name_len (by have := HL.out; omega)).symm, rfl⟩
  go_enter Try.func73, Try.ntmps73
  go_wp2_with fail
  go_loop [17] (fun i => ∃ k : Nat, k ≤ s.size ∧ i = .int .i64 k ∧ NameTo l k) (fun i => s.size - (intOf i).toNat)
  case atStart => exact ⟨0, Nat.zero_le _, rfl, fun j c h hj => by omega⟩
  case round =>
    obtain ⟨k, hk, rfl, ht⟩ := hrel
    have HT := Lib.hid ht
    clear ht
    by_cases hlt : k < s.size
    · have two : ∀ c : UInt8, ((c.toNat : Int) < 97 ∧ (c.toNat : Int) < 48 ∧ ((c.toNat : Int) == 95) = false) ∨ ((c.toNat : Int) < 97 ∧ (48 ≤ (c.toNat : Int) ∧ (c.toNat : Int) ≤ 57) ∧ ((c.toNat : Int) == 95) = false) ∨ ((c.toNat : Int) < 97 ∧ (48 ≤ (c.toNat : Int) ∧ 57 < (c.toNat : Int)) ∧ ((c.toNat : Int) == 95) = false) ∨
          ((c.toNat : Int) < 97 ∧ (48 ≤ (c.toNat : Int) ∧ 57 < (c.toNat : Int)) ∧ ((c.toNat : Int) == 95) = true) ∨ (122 < (c.toNat : Int) ∧ (48 ≤ (c.toNat : Int) ∧ 57 < (c.toNat : Int) ∧ 97 ≤ (c.toNat : Int)) ∧ ((c.toNat : Int) == 95) = false) ∨ ((97 ≤ (c.toNat : Int) ∧ (c.toNat : Int) ≤ 122) ∧ (48 ≤ (c.toNat : Int) ∧ 57 < (c.toNat : Int)) ∧ ((c.toNat : Int) == 95) = false) := fun c => by
        simp only [beq_iff_eq, beq_eq_false_iff_ne]; omega
      have hi : 0 ≤ (k : Int) ∧ (k : Int) < s.size := by omega
      have hc := HD.out k hlt
      rcases Nat.eq_zero_or_pos k with rfl | hpos
      · have two := two s[0]
        generalize hcc : s[0] = c at *
        have HC := Lib.hid hc
        clear hc
        rcases two with ⟨a, b, e⟩ | ⟨a, b, e⟩ | ⟨a, b, e⟩ | ⟨a, b, e⟩ | ⟨a, b, e⟩ | ⟨a, b, e⟩
        all_goals
          go_wp2_with fail
          all_goals simp only [beq_iff_eq, beq_eq_false_iff_ne] at e
          all_goals first
            | (exfalso; rename_i hh; revert hh; simp; omega)
            | (go_ret; exact ⟨ret_bool (name_bad HC.out (okAt_not (by omega))).symm, rfl⟩)
            | (go_round
               case rel => exact ⟨0 + 1, by omega, by go_num, HT.out.step HC.out (okAt_of (by omega))⟩
               case measure => simp [intOf]; omega)
      · have two := two s[k]
        generalize hcc : s[k] = c at *
        have HC := Lib.hid hc
        clear hc
        have hkn : ¬ k = 0 := by omega
        have hkz : ((k : Int) == 0) = false := by rw [beq_eq_false_iff_ne]; omega
        rcases two with ⟨a, b, e⟩ | ⟨a, b, e⟩ | ⟨a, b, e⟩ | ⟨a, b, e⟩ | ⟨a, b, e⟩ | ⟨a, b, e⟩
        all_goals
          go_wp2_with fail
          all_goals simp only [beq_iff_eq, beq_eq_false_iff_ne] at e
          all_goals first
            | (exfalso; rename_i hh; revert hh; simp; omega)
            | (go_ret; exact ⟨ret_bool (name_bad HC.out (okAt_not (by omega))).symm, rfl⟩)
            | (go_round
               case rel => exact ⟨k + 1, by omega, by go_num, HT.out.step HC.out (okAt_of (by omega))⟩
               case measure => simp [intOf]; omega)
    · obtain rfl : k = s.size := by omega
      go_wp2_with fail
      go_ret
      exact ⟨ret_bool ((HT.out.all HL.out).trans (decide_eq_true (by omega))).symm, rfl⟩

end Go.Proofs.Ytjpkemamfccfdaa
/- Which values are right, the project's test and the reference's; the laws' helpers. -/
namespace Go.Proofs.Ytjpkemamfccfdaa
set_option linter.unusedVariables false
open Go.RowKit

theorem rv1 {n : Int} {l : List UInt8} : RightV 1 n l ↔ l = [] ∧ (n = 0 ∨ n = 1) := by unfold RightV; simp
theorem rv2 {n : Int} {l : List UInt8} : RightV 2 n l ↔ l = [] := by unfold RightV; simp
theorem rv3 {n : Int} {l : List UInt8} : RightV 3 n l ↔ n = 0 ∧ l.length ≤ 64 := by unfold RightV; simp
theorem rv4 {n : Int} {l : List UInt8} : RightV 4 n l ↔ l = [] ∧ 0 ≤ n ∧ n ≤ 1099511627776 := by unfold RightV; simp
theorem rv5 {n : Int} {l : List UInt8} : RightV 5 n l ↔ n = 0 ∧ Named l := by unfold RightV; simp
theorem rv_none {k n : Int} {l : List UInt8} (h : k ≠ 1 ∧ k ≠ 2 ∧ k ≠ 3 ∧ k ≠ 4 ∧ k ≠ 5) : ¬ RightV k n l := by
  obtain ⟨h1, h2, h3, h4, h5⟩ := h
  unfold RightV; simp [h1, h2, h3, h4, h5]
theorem kind_cases (k : Int) : k = 1 ∨ k = 2 ∨ k = 3 ∨ k = 4 ∨ k = 5 ∨ (k ≠ 1 ∧ k ≠ 2 ∧ k ≠ 3 ∧ k ≠ 4 ∧ k ≠ 5) := by omega

set_option maxHeartbeats 3200000 in
theorem right_any (k n : Int) (s : ByteArray) (hs : s.size ≤ maxLen) (w : World) :
    Calls Try.prog 74 #[.agg #[.int .i64 k, .int .i64 n, .string s]] w fun e w' => e = .returned (.bool (decide (RightV k n s.data.toList))) ∧ Below w.heap.size w w' := by
  have hln := data_len s
  have hlt : s.toList = s.data.toList := ByteArray.toList_eq s
  have hname := name_any s hs
  generalize hL : s.data.toList = l at *
  have HN := Lib.hid hname
  have HL := Lib.hid hln
  clear hL hname hln
  unfold maxLen at hs
  rcases kind_cases k with rfl | rfl | rfl | rfl | rfl | hk
  · go_enter Try.func74, Try.ntmps74
    go_wp2_with fail
    all_goals
      go_ret
      refine ⟨ret_bool ?_, (Below.refl _ _).alloc (Nat.le_refl _) _⟩
      rw [Bool.eq_iff_iff]
      simp [rv1, *]
  · go_enter Try.func74, Try.ntmps74
    go_wp2_with fail
    all_goals
      go_ret
      refine ⟨ret_bool ?_, (Below.refl _ _).alloc (Nat.le_refl _) _⟩
      rw [Bool.eq_iff_iff]
      simp [rv2, *]
  · go_enter Try.func74, Try.ntmps74
    go_wp2_with fail
    all_goals
      go_ret
      refine ⟨ret_bool ?_, (Below.refl _ _).alloc (Nat.le_refl _) _⟩
      rw [Bool.eq_iff_iff]
      simp [rv3, HL.out, *] <;> omega
  · go_enter Try.func74, Try.ntmps74
    go_wp2_with fail
    all_goals
      go_ret
      refine ⟨ret_bool ?_, (Below.refl _ _).alloc (Nat.le_refl _) _⟩
      rw [Bool.eq_iff_iff]
      simp [rv4, *] <;> omega
  · go_enter Try.func74, Try.ntmps74
    go_wp2_with (go_at_call 73; refine (HN.out _).mono ?_; rintro e w1 ⟨rfl, rfl⟩)
    all_goals
      go_ret
      refine ⟨ret_bool ?_, (Below.refl _ _).alloc (Nat.le_refl _) _⟩
      rw [Bool.eq_iff_iff]
      simp [rv5, *]
  · have HK := Lib.hid hk
    go_enter Try.func74, Try.ntmps74
    go_wp2_with fail
    all_goals
      go_ret
      refine ⟨ret_bool ?_, (Below.refl _ _).alloc (Nat.le_refl _) _⟩
      exact (decide_eq_false (rv_none HK.out)).symm

end Go.Proofs.Ytjpkemamfccfdaa
/- Texts and names: the project's test. -/
namespace Go.Proofs.Ytjpkemamfccfdaa
set_option linter.unusedVariables false
open Go.RowKit

theorem inT_any (k : Int) (w : World) : Calls Try.prog 68 #[.int .i64 k] w fun e w' => e = .returned (.bool (inT k)) ∧ w = w' := by
  by_cases h3 : k = 3
  · subst h3
    go_enter Try.func68, Try.ntmps68
    go_wp2_with fail
    go_ret
    exact ⟨rfl, rfl⟩
  · have H3 := Lib.hid h3
    have h3' : (k == 3) = false := by rw [beq_eq_false_iff_ne]; exact h3
    by_cases h5 : k = 5
    · subst h5
      go_enter Try.func68, Try.ntmps68
      go_wp2_with fail
      go_ret
      exact ⟨rfl, rfl⟩
    · have H5 := Lib.hid h5
      have h5' : (k == 5) = false := by rw [beq_eq_false_iff_ne]; exact h5
      clear h3 h5
      go_enter Try.func68, Try.ntmps68
      go_wp2_with fail
      go_ret
      exact ⟨ret_bool (by unfold inT; rw [decide_eq_false H3.out, decide_eq_false H5.out]; rfl), rfl⟩

end Go.Proofs.Ytjpkemamfccfdaa
/- Names: the reference's test. -/
namespace Go.Proofs.Ytjpkemamfccfdaa
set_option linter.unusedVariables false
open Go.RowKit

set_option maxHeartbeats 1600000 in
theorem refname_any (s : ByteArray) (hs : s.size ≤ maxLen) (w : World) :
    Calls Try.prog 45 #[.string s] w fun e w' => e = .returned (.bool (decide (Named s.data.toList))) ∧ w' = w := by
  have hl := data_len s
  generalize hL : s.data.toList = l at *
  have HD : Hid (∀ k (h : k < s.size), l[k]? = some s[k]) := by
    show ∀ k (h : k < s.size), l[k]? = some s[k]
    subst hL; exact fun k h => data_at h
  have HL := Lib.hid hl
  unfold maxLen at hs
  clear hl hL
  go_enter Try.func45, Try.ntmps45
  go_wp2_with fail
  go_loop [3] (fun i => ∃ k : Nat, k ≤ s.size ∧ i = .int .i64 k ∧ NameTo l k) (fun i => s.size - (intOf i).toNat)
  case atStart => exact ⟨0, Nat.zero_le _, rfl, fun j c h hj => by omega⟩
  case round =>
    obtain ⟨k, hk, rfl, ht⟩ := hrel
    have HT := Lib.hid ht
    clear ht
    by_cases hlt : k < s.size
    · have two : ∀ c : UInt8, ((c.toNat : Int) < 97 ∧ (c.toNat : Int) < 48 ∧ ((c.toNat : Int) == 95) = false) ∨ ((c.toNat : Int) < 97 ∧ (48 ≤ (c.toNat : Int) ∧ (c.toNat : Int) ≤ 57) ∧ ((c.toNat : Int) == 95) = false) ∨ ((c.toNat : Int) < 97 ∧ (48 ≤ (c.toNat : Int) ∧ 57 < (c.toNat : Int)) ∧ ((c.toNat : Int) == 95) = false) ∨
          ((c.toNat : Int) < 97 ∧ (48 ≤ (c.toNat : Int) ∧ 57 < (c.toNat : Int)) ∧ ((c.toNat : Int) == 95) = true) ∨ (122 < (c.toNat : Int) ∧ (48 ≤ (c.toNat : Int) ∧ 57 < (c.toNat : Int) ∧ 97 ≤ (c.toNat : Int)) ∧ ((c.toNat : Int) == 95) = false) ∨ ((97 ≤ (c.toNat : Int) ∧ (c.toNat : Int) ≤ 122) ∧ (48 ≤ (c.toNat : Int) ∧ 57 < (c.toNat : Int)) ∧ ((c.toNat : Int) == 95) = false) := fun c => by
        simp only [beq_iff_eq, beq_eq_false_iff_ne]; omega
      have hi : 0 ≤ (k : Int) ∧ (k : Int) < s.size := by omega
      have hc := HD.out k hlt
      rcases Nat.eq_zero_or_pos k with rfl | hpos
      · have two := two s[0]
        generalize hcc : s[0] = c at *
        have HC := Lib.hid hc
        clear hc
        rcases two with ⟨a, b, e⟩ | ⟨a, b, e⟩ | ⟨a, b, e⟩ | ⟨a, b, e⟩ | ⟨a, b, e⟩ | ⟨a, b, e⟩
        all_goals
          go_wp2_with fail
          all_goals simp only [beq_iff_eq, beq_eq_false_iff_ne] at e
          all_goals first
            | (exfalso; rename_i hh; revert hh; simp; omega)
            | (go_ret; exact ⟨ret_bool (name_bad HC.out (okAt_not (by omega))).symm, rfl⟩)
            | (go_round
               case rel => exact ⟨0 + 1, by omega, by go_num, HT.out.step HC.out (okAt_of (by omega))⟩
               case measure => simp [intOf]; omega)
      · have two := two s[k]
        generalize hcc : s[k] = c at *
        have HC := Lib.hid hc
        clear hc
        have hkn : ¬ k = 0 := by omega
        have hkz : ((k : Int) == 0) = false := by rw [beq_eq_false_iff_ne]; omega
        rcases two with ⟨a, b, e⟩ | ⟨a, b, e⟩ | ⟨a, b, e⟩ | ⟨a, b, e⟩ | ⟨a, b, e⟩ | ⟨a, b, e⟩
        all_goals
          go_wp2_with fail
          all_goals simp only [beq_iff_eq, beq_eq_false_iff_ne] at e
          all_goals first
            | (exfalso; rename_i hh; revert hh; simp; omega)
            | (go_ret; exact ⟨ret_bool (name_bad HC.out (okAt_not (by omega))).symm, rfl⟩)
            | (go_round
               case rel => exact ⟨k + 1, by omega, by go_num, HT.out.step HC.out (okAt_of (by omega))⟩
               case measure => simp [intOf]; omega)
    · obtain rfl : k = s.size := by omega
      have ha := HT.out.all HL.out
      have HA := Lib.hid ha
      clear ha
      by_cases h1 : 1 ≤ s.size
      · go_wp2_with fail
        go_ret
        exact ⟨ret_bool (HA.out.trans (decide_eq_decide.2 (by omega))).symm, rfl⟩
      · go_wp2_with fail
        go_ret
        exact ⟨ret_bool (HA.out.trans (decide_eq_false (by omega))).symm, rfl⟩
end Go.Proofs.Ytjpkemamfccfdaa
/- Which values are right: the reference's test. -/
namespace Go.Proofs.Ytjpkemamfccfdaa
set_option linter.unusedVariables false
open Go.RowKit

set_option maxHeartbeats 3200000 in
theorem refright_any (k n : Int) (s : ByteArray) (hs : s.size ≤ maxLen) (w : World) :
    Calls Try.prog 57 #[.agg #[.int .i64 k, .int .i64 n, .string s]] w fun e w' => e = .returned (.bool (decide (RightV k n s.data.toList))) ∧ Below w.heap.size w w' := by
  have hln := data_len s
  have hlt : s.toList = s.data.toList := ByteArray.toList_eq s
  have hname := refname_any s hs
  generalize hL : s.data.toList = l at *
  have HN := Lib.hid hname
  have HL := Lib.hid hln
  clear hL hname hln
  unfold maxLen at hs
  rcases kind_cases k with rfl | rfl | rfl | rfl | rfl | hk
  · go_enter Try.func57, Try.ntmps57
    go_wp2_with fail
    all_goals
      go_ret
      refine ⟨ret_bool ?_, (Below.refl _ _).alloc (Nat.le_refl _) _⟩
      rw [Bool.eq_iff_iff]
      simp [rv1, *]
  · go_enter Try.func57, Try.ntmps57
    go_wp2_with fail
    all_goals
      go_ret
      refine ⟨ret_bool ?_, (Below.refl _ _).alloc (Nat.le_refl _) _⟩
      rw [Bool.eq_iff_iff]
      simp [rv2, *]
  · go_enter Try.func57, Try.ntmps57
    go_wp2_with fail
    all_goals
      go_ret
      refine ⟨ret_bool ?_, (Below.refl _ _).alloc (Nat.le_refl _) _⟩
      rw [Bool.eq_iff_iff]
      simp [rv3, HL.out, *] <;> omega
  · go_enter Try.func57, Try.ntmps57
    go_wp2_with fail
    all_goals
      go_ret
      refine ⟨ret_bool ?_, (Below.refl _ _).alloc (Nat.le_refl _) _⟩
      rw [Bool.eq_iff_iff]
      simp [rv4, *] <;> omega
  · go_enter Try.func57, Try.ntmps57
    go_wp2_with (go_at_call 45; refine (HN.out _).mono ?_; rintro e w1 ⟨rfl, rfl⟩)
    all_goals
      go_ret
      refine ⟨ret_bool ?_, (Below.refl _ _).alloc (Nat.le_refl _) _⟩
      rw [Bool.eq_iff_iff]
      simp [rv5, *]
  · have HK := Lib.hid hk
    go_enter Try.func57, Try.ntmps57
    go_wp2_with fail
    all_goals
      go_ret
      refine ⟨ret_bool ?_, (Below.refl _ _).alloc (Nat.le_refl _) _⟩
      exact (decide_eq_false (rv_none HK.out)).symm
end Go.Proofs.Ytjpkemamfccfdaa
/- Names: the project's test and the reference's. -/
/- Which values are right: the project's test and the reference's. -/
/- A value as Go has it, and in a block of its own. -/
namespace Go.Proofs.Ytjpkemamfccfdaa
set_option linter.unusedVariables false
open Go.RowKit

/-- A value as Go has it. -/
def Vl.val (v : Vl) : Value := .agg #[.int .i64 v.k, .int .i64 v.n, .string v.s]
/-- Its cells. -/
def Vl.cells (v : Vl) : List Value := [.int .i64 v.k, .int .i64 v.n, .string v.s]

/-- A value in a block of its own. -/
def Bx (w : World) (g : Nat) (k n : Int) (s : ByteArray) : Prop := Ob w g 25 #[.int .i64 k, .int .i64 n, .string s]
section
variable {w w' : World} {g : Nat} {k n : Int} {s : ByteArray}
theorem Bx.made (w : World) (k n : Int) (s : ByteArray) : Bx (w.alloc (.cells #[.int .i64 k, .int .i64 n, .string s] 25)) w.heap.size k n s := Ob.made _ _ _
theorem Bx.lt (h : Bx w g k n s) : g < w.heap.size := Ob.lt h
theorem Bx.alloc (h : Bx w g k n s) (o : Obj) : Bx (w.alloc o) g k n s := Ob.keep h (Below.heap_alloc w o g h.lt)
theorem Bx.then_ (h : Bx w g k n s) (hb : Below w.heap.size w w') : Bx w' g k n s := Ob.below h hb h.lt
theorem Bx.below {B : Nat} (h : Bx w g k n s) (hb : Below B w w') (hg : g < B) : Bx w' g k n s := Ob.below h hb hg
theorem Bx.only {r : Nat} (h : Bx w g k n s) (ho : Only r w w') (hg : g ≠ r) : Bx w' g k n s := Ob.keep h (ho.heap h.lt hg)
theorem Bx.drewN (h : Bx w g k n s) (j : Nat) : Bx (w.drewN j) g k n s := h
theorem Bx.c3 (h : Bx w g k n s) : w.cell? ⟨g, 0, none⟩ = some (.int .i64 k) ∧ w.cell? ⟨g, 1, none⟩ = some (.int .i64 n) ∧ w.cell? ⟨g, 2, none⟩ = some (.string s) := ⟨Ob.cell h 0, Ob.cell h 1, Ob.cell h 2⟩
theorem Bx.fz (h : Bx w g k n s) (i : Nat) : w.frozen? ⟨g, i, none⟩ = false := Ob.frozen h i
theorem Bx.setS (h : Bx w g k n s) (s' : ByteArray) : Bx (w.setCell ⟨g, 2, none⟩ (.string s')) g k n s' := by unfold Bx; simpa using Ob.put h 2 (.string s')
theorem Bx.setN (h : Bx w g k n s) (n' : Int) : Bx (w.setCell ⟨g, 1, none⟩ (.int .i64 n')) g k n' s := by unfold Bx; simpa using Ob.put h 1 (.int .i64 n')
end
end Go.Proofs.Ytjpkemamfccfdaa
/- How values stand: the project's Less and the reference's; the laws' two helpers. -/
namespace Go.Proofs.Ytjpkemamfccfdaa
set_option linter.unusedVariables false
open Go.RowKit

theorem vright_any (v : Vl) (hs : v.s.size ≤ maxLen) (w : World) :
    Calls Try.prog 74 #[v.val] w fun e w' => e = .returned (.bool (decide v.right)) ∧ Below w.heap.size w w' := right_any v.k v.n v.s hs w
theorem vrefright_any (v : Vl) (hs : v.s.size ≤ maxLen) (w : World) :
    Calls Try.prog 57 #[v.val] w fun e w' => e = .returned (.bool (decide v.right)) ∧ Below w.heap.size w w' := refright_any v.k v.n v.s hs w

/-- P3.3. -/
def lessOf (a b : Vl) : Bool × Int :=
  if a.right ∧ b.right then
    if a.k ≠ b.k ∨ a.k = 1 then (false, 2)
    else if inT a.k = true then (Op.bytesLess a.l b.l, 0)
    else (decide (a.n < b.n), 0)
  else (false, 1)

theorem below_two {w a : World} {o p : Obj} (h1 : Below ((w.alloc o).alloc p).heap.size ((w.alloc o).alloc p) a) : Below w.heap.size w a := Below.lit (Below.lit h1)

theorem lessOf_eq (a b : Vl) : lessOf a b = if a.right ∧ b.right then
    if a.k ≠ b.k ∨ a.k = 1 then (false, 2)
    else if inT a.k = true then (Op.bytesLess a.l b.l, 0)
    else (decide (a.n < b.n), 0)
  else (false, 1) := rfl
theorem less_wrong {a b : Vl} (h : ¬ a.right ∨ ¬ b.right) : lessOf a b = (false, 1) := by rw [lessOf_eq, if_neg (fun hh => h.elim (fun h => h hh.1) (fun h => h hh.2))]
theorem less_type {a b : Vl} (h1 : a.right) (h2 : b.right) (h : a.k ≠ b.k ∨ a.k = 1) : lessOf a b = (false, 2) := by rw [lessOf_eq, if_pos ⟨h1, h2⟩, if_pos h]
theorem less_text {a b : Vl} (h1 : a.right) (h2 : b.right) (h : a.k = b.k) (h' : a.k ≠ 1) (h3 : inT a.k = true) : lessOf a b = (Op.bytesLess a.l b.l, 0) := by
  rw [lessOf_eq, if_pos ⟨h1, h2⟩, if_neg (fun hh => hh.elim (fun x => x h) h'), if_pos h3]
theorem less_num {a b : Vl} (h1 : a.right) (h2 : b.right) (h : a.k = b.k) (h' : a.k ≠ 1) (h3 : inT a.k = false) : lessOf a b = (decide (a.n < b.n), 0) := by
  rw [lessOf_eq, if_pos ⟨h1, h2⟩, if_neg (fun hh => hh.elim (fun x => x h) h'), if_neg (by rw [h3]; simp)]
theorem ret_two {a : Bool} {x : Int} {p : Bool × Int} (h : p = (a, x)) : Ending.returned (.tuple #[.bool a, .int .i64 x]) = .returned (.tuple #[.bool p.1, .int .i64 p.2]) := by rw [h]

set_option maxHeartbeats 3200000 in
theorem less_any (a b : Vl) (ha : a.s.size ≤ maxLen) (hb : b.s.size ≤ maxLen) (w : World) :
    Calls Try.prog 70 #[a.val, b.val] w fun e w' => e = .returned (.tuple #[.bool (lessOf a b).1, .int .i64 (lessOf a b).2]) ∧ Below w.heap.size w w' := by
  generalize hLo : lessOf a b = lo
  have HLO := Lib.hid hLo.symm
  have hla : a.s.toList = a.l := ByteArray.toList_eq a.s
  have hlb : b.s.toList = b.l := ByteArray.toList_eq b.s
  generalize hal : a.l = la at *
  generalize hbl : b.l = lb at *
  have HAL := Lib.hid hal
  have HBL := Lib.hid hbl
  clear hLo hal hbl
  obtain ⟨k, n, s⟩ := a
  obtain ⟨k', n', s'⟩ := b
  have ra := right_any k n s ha
  have rb := right_any k' n' s' hb
  show Calls _ _ #[.agg #[.int .i64 k, .int .i64 n, .string s], .agg #[.int .i64 k', .int .i64 n', .string s']] w _
  dsimp only at hla hlb
  clear ha hb
  by_cases h1 : RightV k n s.data.toList
  · rw [decide_eq_true h1] at ra
    have H1 : Hid (Vl.right ⟨k, n, s⟩) := h1
    have RA := Lib.hid ra
    clear h1 ra
    by_cases h2 : RightV k' n' s'.data.toList
    · rw [decide_eq_true h2] at rb
      have H2 : Hid (Vl.right ⟨k', n', s'⟩) := h2
      have RB := Lib.hid rb
      clear h2 rb
      go_enter Try.func70, Try.ntmps70
      go_wp2_with fail
      refine (RA.out _).mono ?_
      rintro e w1 ⟨rfl, hb1⟩
      have B1 := Lib.hid (((Bx.made w k n s).alloc (.cells #[.int .i64 k', .int .i64 n', .string s'] 25)).then_ hb1)
      have C1 := Lib.hid ((Bx.made (w.alloc (.cells #[.int .i64 k, .int .i64 n, .string s] 25)) k' n' s').then_ hb1)
      have D1 := Lib.hid (below_two hb1)
      clear hb1
      have b1 := B1.out.c3
      have c1 := C1.out.c3
      rw [size_al] at c1
      go_wp2_with fail
      refine (RB.out _).mono ?_
      rintro e w2 ⟨rfl, hb2⟩
      have b2 := (B1.out.then_ hb2).c3
      have c2 := (C1.out.then_ hb2).c3
      rw [size_al] at c2
      have D2 := Lib.hid (below_step D1.out hb2)
      clear hb2 b1 c1 B1 C1
      by_cases hk : k = k'
      · subst hk
        by_cases h1 : k = 1
        · subst h1
          go_wp2_with fail
          go_ret2
          exact ⟨ret_two (HLO.out.trans (less_type H1.out H2.out (.inr rfl))), D2.out⟩
        · have K1 := Lib.hid h1
          have h1' : (k == 1) = false := by rw [beq_eq_false_iff_ne]; exact h1
          clear h1
          have hin := inT_any k w2
          cases ht : inT k
          · rw [ht] at hin
            have HI := Lib.hid hin
            have HT := Lib.hid ht
            clear hin ht
            go_wp2_with fail
            refine HI.out.mono ?_
            rintro e w3 ⟨rfl, rfl⟩
            go_wp2_with fail
            go_ret2
            exact ⟨ret_two (HLO.out.trans (less_num H1.out H2.out rfl K1.out HT.out)), D2.out⟩
          · rw [ht] at hin
            have HI := Lib.hid hin
            have HT := Lib.hid ht
            clear hin ht
            go_wp2_with fail
            refine HI.out.mono ?_
            rintro e w3 ⟨rfl, rfl⟩
            go_wp2_with fail
            go_ret2
            refine ⟨ret_two ?_, D2.out⟩
            have := HLO.out.trans (less_text H1.out H2.out rfl K1.out HT.out)
            rw [HAL.out, HBL.out] at this
            exact this
      · have hk' : (k != k') = true := by rw [bne_iff_ne]; exact hk
        have HK := Lib.hid hk
        clear hk
        go_wp2_with fail
        go_ret2
        exact ⟨ret_two (HLO.out.trans (less_type H1.out H2.out (.inl HK.out))), D2.out⟩
    · rw [decide_eq_false h2] at rb
      have H2 : Hid (¬ Vl.right ⟨k', n', s'⟩) := h2
      have RB := Lib.hid rb
      clear h2 rb
      go_enter Try.func70, Try.ntmps70
      go_wp2_with fail
      refine (RA.out _).mono ?_
      rintro e w1 ⟨rfl, hb1⟩
      have c1 := ((Bx.made (w.alloc (.cells #[.int .i64 k, .int .i64 n, .string s] 25)) k' n' s').then_ hb1).c3
      rw [size_al] at c1
      have D1 := Lib.hid (below_two hb1)
      clear hb1
      go_wp2_with fail
      refine (RB.out _).mono ?_
      rintro e w2 ⟨rfl, hb2⟩
      have D2 := Lib.hid (below_step D1.out hb2)
      clear hb2
      go_wp2_with fail
      go_ret2
      exact ⟨ret_two (HLO.out.trans (less_wrong (.inr H2.out))), D2.out⟩
  · rw [decide_eq_false h1] at ra
    have H1 : Hid (¬ Vl.right ⟨k, n, s⟩) := h1
    have RA := Lib.hid ra
    clear h1 ra rb
    go_enter Try.func70, Try.ntmps70
    go_wp2_with fail
    refine (RA.out _).mono ?_
    rintro e w1 ⟨rfl, hb1⟩
    have D1 := Lib.hid (below_two hb1)
    clear hb1
    go_wp2_with fail
    go_ret2
    exact ⟨ret_two (HLO.out.trans (less_wrong (.inl H1.out))), D1.out⟩

set_option maxHeartbeats 3200000 in
theorem refless_any (a b : Vl) (ha : a.s.size ≤ maxLen) (hb : b.s.size ≤ maxLen) (w : World) :
    Calls Try.prog 39 #[a.val, b.val] w fun e w' => e = .returned (.tuple #[.bool (lessOf a b).1, .int .i64 (lessOf a b).2]) ∧ Below w.heap.size w w' := by
  generalize hLo : lessOf a b = lo
  have HLO := Lib.hid hLo.symm
  have hla : a.s.toList = a.l := ByteArray.toList_eq a.s
  have hlb : b.s.toList = b.l := ByteArray.toList_eq b.s
  generalize hal : a.l = la at *
  generalize hbl : b.l = lb at *
  have HAL := Lib.hid hal
  have HBL := Lib.hid hbl
  clear hLo hal hbl
  obtain ⟨k, n, s⟩ := a
  obtain ⟨k', n', s'⟩ := b
  have ra := refright_any k n s ha
  have rb := refright_any k' n' s' hb
  show Calls _ _ #[.agg #[.int .i64 k, .int .i64 n, .string s], .agg #[.int .i64 k', .int .i64 n', .string s']] w _
  dsimp only at hla hlb
  clear ha hb
  by_cases h1 : RightV k n s.data.toList
  · rw [decide_eq_true h1] at ra
    have H1 : Hid (Vl.right ⟨k, n, s⟩) := h1
    have RA := Lib.hid ra
    clear h1 ra
    by_cases h2 : RightV k' n' s'.data.toList
    · rw [decide_eq_true h2] at rb
      have H2 : Hid (Vl.right ⟨k', n', s'⟩) := h2
      have RB := Lib.hid rb
      clear h2 rb
      go_enter Try.func39, Try.ntmps39
      go_wp2_with fail
      refine (RA.out _).mono ?_
      rintro e w1 ⟨rfl, hb1⟩
      have B1 := Lib.hid (((Bx.made w k n s).alloc (.cells #[.int .i64 k', .int .i64 n', .string s'] 25)).then_ hb1)
      have C1 := Lib.hid ((Bx.made (w.alloc (.cells #[.int .i64 k, .int .i64 n, .string s] 25)) k' n' s').then_ hb1)
      have D1 := Lib.hid (below_two hb1)
      clear hb1
      have b1 := B1.out.c3
      have c1 := C1.out.c3
      rw [size_al] at c1
      go_wp2_with fail
      refine (RB.out _).mono ?_
      rintro e w2 ⟨rfl, hb2⟩
      have b2 := (B1.out.then_ hb2).c3
      have c2 := (C1.out.then_ hb2).c3
      rw [size_al] at c2
      have D2 := Lib.hid (below_step D1.out hb2)
      clear hb2 b1 c1 B1 C1
      by_cases hk : k = k'
      · subst hk
        by_cases h1 : k = 1
        · subst h1
          go_wp2_with fail
          go_ret2
          exact ⟨ret_two (HLO.out.trans (less_type H1.out H2.out (.inr rfl))), D2.out⟩
        · have K1 := Lib.hid h1
          have h1' : (k == 1) = false := by rw [beq_eq_false_iff_ne]; exact h1
          clear h1
          have ttxt : inT k = true → lo = (Op.bytesLess la lb, 0) := fun h => by
            have := HLO.out.trans (less_text H1.out H2.out rfl K1.out h)
            rw [HAL.out, HBL.out] at this
            exact this
          have TT := Lib.hid ttxt
          clear ttxt
          by_cases h3 : k = 3
          · subst h3
            go_wp2_with fail
            go_ret2
            exact ⟨ret_two (TT.out rfl), D2.out⟩
          · have h3' : (k == 3) = false := by rw [beq_eq_false_iff_ne]; exact h3
            by_cases h5 : k = 5
            · subst h5
              go_wp2_with fail
              go_ret2
              exact ⟨ret_two (TT.out rfl), D2.out⟩
            · have h5' : (k == 5) = false := by rw [beq_eq_false_iff_ne]; exact h5
              have HT : Hid (inT k = false) := by show _ = _; unfold inT; rw [decide_eq_false h3, decide_eq_false h5]; rfl
              clear h3 h5
              go_wp2_with fail
              go_ret2
              exact ⟨ret_two (HLO.out.trans (less_num H1.out H2.out rfl K1.out HT.out)), D2.out⟩
      · have hk' : (k != k') = true := by rw [bne_iff_ne]; exact hk
        have HK := Lib.hid hk
        clear hk
        go_wp2_with fail
        go_ret2
        exact ⟨ret_two (HLO.out.trans (less_type H1.out H2.out (.inl HK.out))), D2.out⟩
    · rw [decide_eq_false h2] at rb
      have H2 : Hid (¬ Vl.right ⟨k', n', s'⟩) := h2
      have RB := Lib.hid rb
      clear h2 rb
      go_enter Try.func39, Try.ntmps39
      go_wp2_with fail
      refine (RA.out _).mono ?_
      rintro e w1 ⟨rfl, hb1⟩
      have c1 := ((Bx.made (w.alloc (.cells #[.int .i64 k, .int .i64 n, .string s] 25)) k' n' s').then_ hb1).c3
      rw [size_al] at c1
      have D1 := Lib.hid (below_two hb1)
      clear hb1
      go_wp2_with fail
      refine (RB.out _).mono ?_
      rintro e w2 ⟨rfl, hb2⟩
      have D2 := Lib.hid (below_step D1.out hb2)
      clear hb2
      go_wp2_with fail
      go_ret2
      exact ⟨ret_two (HLO.out.trans (less_wrong (.inr H2.out))), D2.out⟩
  · rw [decide_eq_false h1] at ra
    have H1 : Hid (¬ Vl.right ⟨k, n, s⟩) := h1
    have RA := Lib.hid ra
    clear h1 ra rb
    go_enter Try.func39, Try.ntmps39
    go_wp2_with fail
    refine (RA.out _).mono ?_
    rintro e w1 ⟨rfl, hb1⟩
    have D1 := Lib.hid (below_two hb1)
    clear hb1
    go_wp2_with fail
    go_ret2
    exact ⟨ret_two (HLO.out.trans (less_wrong (.inl H1.out))), D1.out⟩

end Go.Proofs.Ytjpkemamfccfdaa
/- The order of values, plainly. -/
namespace Go.Proofs.Ytjpkemamfccfdaa
set_option linter.unusedVariables false

theorem bl_cons (x y : UInt8) (a b : List UInt8) : Op.bytesLess (x :: a) (y :: b) = true ↔ x.toNat < y.toNat ∨ x = y ∧ Op.bytesLess a b = true := by
  simp [Op.bytesLess, UInt8.lt_iff_toNat_lt]
theorem bl_irrefl (a : List UInt8) : ¬ Op.bytesLess a a = true := by
  induction a with
  | nil => simp [Op.bytesLess]
  | cons x a ih => rw [bl_cons]; rintro (h | ⟨_, h⟩); · omega
                   · exact ih h
theorem bl_trans : ∀ a b c : List UInt8, Op.bytesLess a b = true → Op.bytesLess b c = true → Op.bytesLess a c = true
  | a, [], c, h, _ => by cases a <;> simp [Op.bytesLess] at h
  | a, y :: b, [], _, h => by simp [Op.bytesLess] at h
  | [], y :: b, z :: c, _, _ => by simp [Op.bytesLess]
  | x :: a, y :: b, z :: c, h1, h2 => by
    rw [bl_cons] at *
    rcases h1 with h1 | ⟨rfl, h1⟩ <;> rcases h2 with h2 | ⟨rfl, h2⟩
    · left; omega
    · left; omega
    · left; omega
    · right; exact ⟨rfl, bl_trans a b c h1 h2⟩
theorem bl_total : ∀ a b : List UInt8, Op.bytesLess a b = true ∨ Op.bytesLess b a = true ∨ a = b
  | [], [] => by simp
  | [], y :: b => by simp [Op.bytesLess]
  | x :: a, [] => by simp [Op.bytesLess]
  | x :: a, y :: b => by
    rw [bl_cons, bl_cons]
    rcases Nat.lt_trichotomy x.toNat y.toNat with h | h | h
    · exact .inl (.inl h)
    · have e : x = y := UInt8.toNat_inj.1 h
      subst e
      rcases bl_total a b with h | h | h
      · exact .inl (.inr ⟨rfl, h⟩)
      · exact .inr (.inl (.inr ⟨rfl, h⟩))
      · exact .inr (.inr (by rw [h]))
    · exact .inr (.inl (.inl h))

/-- Which of the three: less, more, the same. -/
def One (x y e : Prop) : Prop := x ∧ ¬ y ∧ ¬ e ∨ ¬ x ∧ y ∧ ¬ e ∨ ¬ x ∧ ¬ y ∧ e
theorem bl_one (a b : List UInt8) : One (Op.bytesLess a b = true) (Op.bytesLess b a = true) (a = b) := by
  rcases bl_total a b with h | h | h
  · exact .inl ⟨h, fun h' => bl_irrefl a (bl_trans _ _ _ h h'), fun e => by subst e; exact bl_irrefl a h⟩
  · exact .inr (.inl ⟨fun h' => bl_irrefl a (bl_trans _ _ _ h' h), h, fun e => by subst e; exact bl_irrefl a h⟩)
  · subst h
    exact .inr (.inr ⟨bl_irrefl a, bl_irrefl a, rfl⟩)

theorem right_num {v : Vl} (h : v.right) (h1 : inT v.k = true) : v.n = 0 := by
  unfold Vl.right RightV at h
  unfold inT at h1
  simp at h1
  rcases h with h | h | h | h | h <;> omega
theorem right_txt {v : Vl} (h : v.right) (h1 : inT v.k = false) : v.l = [] := by
  unfold Vl.right RightV at h
  unfold inT at h1
  simp at h1
  rcases h with h | h | h | h | h
  · exact h.2.1
  · exact h.2
  · exact absurd h.1 h1.1
  · exact h.2.1
  · exact absurd h.1 h1.2

theorem less_sort (a b : Vl) : (¬ a.right ∨ ¬ b.right) ∧ lessOf a b = (false, 1) ∧ lessOf b a = (false, 1) ∨
    (a.right ∧ b.right ∧ (a.k ≠ b.k ∨ a.k = 1)) ∧ lessOf a b = (false, 2) ∧ lessOf b a = (false, 2) ∨
    (a.right ∧ b.right ∧ a.k = b.k ∧ a.k ≠ 1 ∧ inT a.k = true) ∧ lessOf a b = (Op.bytesLess a.l b.l, 0) ∧ lessOf b a = (Op.bytesLess b.l a.l, 0) ∨
    (a.right ∧ b.right ∧ a.k = b.k ∧ a.k ≠ 1 ∧ inT a.k = false) ∧ lessOf a b = (decide (a.n < b.n), 0) ∧ lessOf b a = (decide (b.n < a.n), 0) := by
  by_cases h1 : a.right
  · by_cases h2 : b.right
    · by_cases h3 : a.k = b.k
      · by_cases h4 : a.k = 1
        · exact .inr (.inl ⟨⟨h1, h2, .inr h4⟩, less_type h1 h2 (.inr h4), less_type h2 h1 (.inr (h3 ▸ h4))⟩)
        · cases h5 : inT a.k with
          | true => exact .inr (.inr (.inl ⟨⟨h1, h2, h3, h4, rfl⟩, less_text h1 h2 h3 h4 h5, less_text h2 h1 h3.symm (h3 ▸ h4) (h3 ▸ h5)⟩))
          | false => exact .inr (.inr (.inr ⟨⟨h1, h2, h3, h4, rfl⟩, less_num h1 h2 h3 h4 h5, less_num h2 h1 h3.symm (h3 ▸ h4) (h3 ▸ h5)⟩))
      · exact .inr (.inl ⟨⟨h1, h2, .inl h3⟩, less_type h1 h2 (.inl h3), less_type h2 h1 (.inl (Ne.symm h3))⟩)
    · exact .inl ⟨.inr h2, less_wrong (.inr h2), less_wrong (.inl h2)⟩
  · exact .inl ⟨.inl h1, less_wrong (.inl h1), less_wrong (.inr h1)⟩

/-- Of two values both ways: no order, or just one of less, more, same. -/
theorem less_both (a b : Vl) : (∃ x : Int, x ≠ 0 ∧ lessOf a b = (false, x) ∧ lessOf b a = (false, x)) ∨
    (∃ p q : Bool, lessOf a b = (p, 0) ∧ lessOf b a = (q, 0) ∧ One (p = true) (q = true) (a = b)) := by
  rcases less_sort a b with ⟨_, h1, h2⟩ | ⟨_, h1, h2⟩ | ⟨⟨r1, r2, hk, _, ht⟩, h1, h2⟩ | ⟨⟨r1, r2, hk, _, ht⟩, h1, h2⟩
  · exact .inl ⟨1, by omega, h1, h2⟩
  · exact .inl ⟨2, by omega, h1, h2⟩
  · refine .inr ⟨_, _, h1, h2, ?_⟩
    have e : (a = b) = (a.l = b.l) := propext ⟨fun h => by rw [h], fun h => Vl.ext' hk (by rw [right_num r1 ht, right_num r2 (hk ▸ ht)]) h⟩
    rw [e]
    exact bl_one _ _
  · refine .inr ⟨_, _, h1, h2, ?_⟩
    have e : (a = b) = (a.n = b.n) := propext ⟨fun h => by rw [h], fun h => Vl.ext' hk h (by rw [right_txt r1 ht, right_txt r2 (hk ▸ ht)])⟩
    rw [e]
    simp only [decide_eq_true_eq]
    unfold One
    omega

/-- It goes on from one to the next. -/
theorem less_next {a b c : Vl} {x z : Bool} (h1 : lessOf a b = (x, 0)) (h2 : lessOf b c = (z, 0)) : ∃ u, lessOf a c = (u, 0) ∧ (x = true → z = true → u = true) := by
  rcases less_sort a b with ⟨_, e1, _⟩ | ⟨_, e1, _⟩ | ⟨⟨r1, r2, hk, hn, ht⟩, e1, _⟩ | ⟨⟨r1, r2, hk, hn, ht⟩, e1, _⟩
  · rw [e1] at h1; injection h1 with _ h1; omega
  · rw [e1] at h1; injection h1 with _ h1; omega
  · rcases less_sort b c with ⟨_, e2, _⟩ | ⟨_, e2, _⟩ | ⟨⟨r3, r4, hk2, hn2, ht2⟩, e2, _⟩ | ⟨⟨r3, r4, hk2, hn2, ht2⟩, e2, _⟩
    · rw [e2] at h2; injection h2 with _ h2; omega
    · rw [e2] at h2; injection h2 with _ h2; omega
    · refine ⟨_, less_text r1 r4 (hk.trans hk2) hn ht, fun hx hz => ?_⟩
      rw [e1] at h1; rw [e2] at h2
      injection h1 with h1 _; injection h2 with h2 _
      subst h1 h2
      exact bl_trans _ _ _ hx hz
    · rw [hk, ht2] at ht; cases ht
  · rcases less_sort b c with ⟨_, e2, _⟩ | ⟨_, e2, _⟩ | ⟨⟨r3, r4, hk2, hn2, ht2⟩, e2, _⟩ | ⟨⟨r3, r4, hk2, hn2, ht2⟩, e2, _⟩
    · rw [e2] at h2; injection h2 with _ h2; omega
    · rw [e2] at h2; injection h2 with _ h2; omega
    · rw [hk, ht2] at ht; cases ht
    · refine ⟨_, less_num r1 r4 (hk.trans hk2) hn ht, fun hx hz => ?_⟩
      rw [e1] at h1; rw [e2] at h2
      injection h1 with h1 _; injection h2 with h2 _
      subst h1 h2
      simp only [decide_eq_true_eq] at *
      omega
end Go.Proofs.Ytjpkemamfccfdaa
/- Policies, plainly: what they are of (chapter 8), and which are right. -/
namespace Go.Proofs.Ytjpkemamfccfdaa
set_option linter.unusedVariables false

/-- What an int can hold. -/
def InI (n : Int) : Prop := -9223372036854775808 ≤ n ∧ n ≤ 9223372036854775807

structure Atr where
  cat : Int
  name : ByteArray
  must : Bool
structure Mat where
  a : Atr
  op : Int
  v : Vl
structure Nod where
  op : Int
  v : Vl
  a : Atr
structure Dut where
  on : Int
  kind : Int
  arg : ByteArray
abbrev Tgt := List (List (List Mat))
structure Rul where
  id : ByteArray
  deny : Bool
  tg : Tgt
  cond : List Nod
  ob : List Dut
inductive Pol where
  | mk (id : ByteArray) (set : Bool) (alg : Int) (tg : Tgt) (rules : List Rul) (kids : List Pol) (ob : List Dut)
def Pol.id : Pol → ByteArray | .mk a _ _ _ _ _ _ => a
def Pol.set : Pol → Bool | .mk _ a _ _ _ _ _ => a
def Pol.alg : Pol → Int | .mk _ _ a _ _ _ _ => a
def Pol.tg : Pol → Tgt | .mk _ _ _ a _ _ _ => a
def Pol.rules : Pol → List Rul | .mk _ _ _ _ a _ _ => a
def Pol.kids : Pol → List Pol | .mk _ _ _ _ _ a _ => a
def Pol.ob : Pol → List Dut | .mk _ _ _ _ _ _ a => a

def Atr.ok (a : Atr) : Prop := InI a.cat ∧ a.name.size ≤ maxLen
def Mat.ok (m : Mat) : Prop := m.a.ok ∧ InI m.op ∧ m.v.ok
def Nod.ok (n : Nod) : Prop := InI n.op ∧ n.v.ok ∧ n.a.ok
def Dut.ok (o : Dut) : Prop := InI o.on ∧ InI o.kind ∧ o.arg.size ≤ maxLen

instance (n : Int) : Decidable (InI n) := by unfold InI; infer_instance
instance (v : Vl) : Decidable v.ok := by unfold Vl.ok; infer_instance
instance (a : Atr) : Decidable a.ok := by unfold Atr.ok; infer_instance
instance (m : Mat) : Decidable m.ok := by unfold Mat.ok; infer_instance
instance (n : Nod) : Decidable n.ok := by unfold Nod.ok; infer_instance
instance (o : Dut) : Decidable o.ok := by unfold Dut.ok; infer_instance

/-- The bytes of a text. -/
def bl (s : ByteArray) : List UInt8 := s.data.toList

/-- The first error, as one goes through a list. -/
def firstE {α : Type} (f : α → Int) : List α → Int
  | [] => 0
  | x :: l => if f x ≠ 0 then f x else firstE f l
/-- So far none. -/
def FineTo {α : Type} (f : α → Int) (l : List α) (k : Nat) : Prop := ∀ j x, l[j]? = some x → j < k → f x = 0
theorem FineTo.zero {α : Type} (f : α → Int) (l : List α) : FineTo f l 0 := fun j x _ h => by omega
theorem FineTo.step {α : Type} {f : α → Int} {l : List α} {k : Nat} {x : α} (h : FineTo f l k) (hx : l[k]? = some x) (h0 : f x = 0) : FineTo f l (k + 1) := fun j y hy hj => by
  by_cases e : j = k
  · subst e
    obtain rfl := Option.some.inj (hx.symm.trans hy)
    exact h0
  · exact h j y hy (by omega)
theorem FineTo.tail {α : Type} {f : α → Int} {x : α} {l : List α} {k : Nat} (h : FineTo f (x :: l) (k + 1)) : f x = 0 ∧ FineTo f l k :=
  ⟨h 0 x rfl (by omega), fun j y hy hj => h (j + 1) y (by simpa using hy) (by omega)⟩
theorem FineTo.all {α : Type} {f : α → Int} : ∀ {l : List α} {n : Nat}, FineTo f l n → l.length = n → firstE f l = 0
  | [], _, _, _ => rfl
  | x :: l, 0, h, hn => by simp at hn
  | x :: l, n + 1, h, hn => by
    obtain ⟨h0, h1⟩ := h.tail
    simp only [firstE, h0, ne_eq, not_true, if_false]
    exact h1.all (by simpa using hn)
theorem FineTo.err {α : Type} {f : α → Int} : ∀ {l : List α} {k : Nat} {x : α}, FineTo f l k → l[k]? = some x → f x ≠ 0 → firstE f l = f x
  | [], _, _, _, hx, _ => by simp at hx
  | y :: l, 0, x, _, hx, h0 => by
    simp at hx
    subst hx
    simp [firstE, h0]
  | y :: l, k + 1, x, h, hx, h0 => by
    obtain ⟨h1, h2⟩ := h.tail
    simp only [firstE, h1, ne_eq, not_true, if_false]
    exact h2.err (by simpa using hx) h0

/-- P8.1. -/
def attrB (a : Atr) : Bool := decide (1 ≤ a.cat) && decide (a.cat ≤ 4) && decide (Named (bl a.name))
/-- P8.2. -/
def matE (m : Mat) : Int := if attrB m.a = true ∧ 1 ≤ m.op ∧ m.op ≤ 3 ∧ m.v.right then 0 else 1
def partsE (n : Nat) : Int := if n = 0 then 1 else if 8 < n then 6 else 0
def allE (l : List Mat) : Int := if partsE l.length ≠ 0 then partsE l.length else firstE matE l
def anyE (l : List (List Mat)) : Int := if partsE l.length ≠ 0 then partsE l.length else firstE allE l
def tgE (t : Tgt) : Int := if 8 < t.length then 6 else firstE anyE t
/-- P8.4. -/
def dutE (o : Dut) : Int := if (o.on = 1 ∨ o.on = 2) ∧ 1 ≤ o.kind ∧ o.kind ≤ 4 ∧ Named (bl o.arg) then 0 else 1
def obE (l : List Dut) : Int := if 8 < l.length then 6 else firstE dutE l

def zeroV : Vl := ⟨0, 0, ByteArray.empty⟩
def zeroA : Atr := ⟨0, ByteArray.empty, false⟩
theorem text_eq {a b : ByteArray} (h : bl a = bl b) : a = b := by
  obtain ⟨⟨x⟩⟩ := a
  obtain ⟨⟨y⟩⟩ := b
  simp_all [bl]
instance textDec : DecidableEq ByteArray := fun a b => if h : bl a = bl b then .isTrue (text_eq h) else .isFalse (by rintro rfl; exact h rfl)
theorem Atr.ext' {a b : Atr} (h1 : a.cat = b.cat) (h2 : a.name = b.name) (h3 : a.must = b.must) : a = b := by
  cases a; cases b; simp_all
instance : DecidableEq Atr := fun a b => if h : a.cat = b.cat ∧ bl a.name = bl b.name ∧ a.must = b.must then .isTrue (Atr.ext' h.1 (text_eq h.2.1) h.2.2) else .isFalse (by rintro rfl; exact h ⟨rfl, rfl, rfl⟩)

theorem Mat.ext' {a b : Mat} (h1 : a.a = b.a) (h2 : a.op = b.op) (h3 : a.v = b.v) : a = b := by cases a; cases b; simp_all
instance : DecidableEq Mat := fun a b => if h : a.a = b.a ∧ a.op = b.op ∧ a.v = b.v then .isTrue (Mat.ext' h.1 h.2.1 h.2.2) else .isFalse (by rintro rfl; exact h ⟨rfl, rfl, rfl⟩)
theorem Nod.ext' {a b : Nod} (h1 : a.op = b.op) (h2 : a.v = b.v) (h3 : a.a = b.a) : a = b := by cases a; cases b; simp_all
instance : DecidableEq Nod := fun a b => if h : a.op = b.op ∧ a.v = b.v ∧ a.a = b.a then .isTrue (Nod.ext' h.1 h.2.1 h.2.2) else .isFalse (by rintro rfl; exact h ⟨rfl, rfl, rfl⟩)
theorem Dut.ext' {a b : Dut} (h1 : a.on = b.on) (h2 : a.kind = b.kind) (h3 : a.arg = b.arg) : a = b := by cases a; cases b; simp_all
instance : DecidableEq Dut := fun a b => if h : a.on = b.on ∧ a.kind = b.kind ∧ a.arg = b.arg then .isTrue (Dut.ext' h.1 h.2.1 h.2.2) else .isFalse (by rintro rfl; exact h ⟨rfl, rfl, rfl⟩)

/-- P8.3: what a node may have beside its Op. -/
def holdsB (n : Nod) : Bool :=
  if n.op = 1 then decide n.v.right && decide (n.a = zeroA)
  else if n.op = 2 then decide (n.v = zeroV) && attrB n.a
  else decide (n.v = zeroV) && decide (n.a = zeroA)
/-- P8.3: what a node leaves of what stands ahead (the last ahead; true: a bag). -/
def popX (op : Int) (st : List Bool) : Option (List Bool) :=
  if op = 1 then some (false :: st)
  else if op = 2 then some (true :: st)
  else if op = 3 ∨ op = 4 then (match st with | true :: r => some (false :: r) | _ => none)
  else if op = 5 then (match st with | false :: true :: r => some (false :: r) | _ => none)
  else if op = 11 then (match st with | false :: r => some (false :: r) | _ => none)
  else if op = 6 ∨ op = 7 ∨ op = 8 ∨ op = 9 ∨ op = 10 ∨ op = 12 ∨ op = 13 then (match st with | false :: false :: r => some (false :: r) | _ => none)
  else none
/-- Does this stand at the end? (the last first) -/
def hasP (p st : List Bool) : Bool := decide (st.take p.length = p)
def patX (op : Int) : Option (List Bool) :=
  if op = 1 ∨ op = 2 then some []
  else if op = 3 ∨ op = 4 then some [true]
  else if op = 5 then some [false, true]
  else if op = 11 then some [false]
  else if op = 6 ∨ op = 7 ∨ op = 8 ∨ op = 9 ∨ op = 10 ∨ op = 12 ∨ op = 13 then some [false, false]
  else none
def makesX (op : Int) : Bool := decide (op = 2)
theorem ops_cases (op : Int) : op = 1 ∨ op = 2 ∨ op = 3 ∨ op = 4 ∨ op = 5 ∨ op = 6 ∨ op = 7 ∨ op = 8 ∨ op = 9 ∨ op = 10 ∨ op = 11 ∨ op = 12 ∨ op = 13 ∨
    (op ≠ 1 ∧ op ≠ 2 ∧ op ≠ 3 ∧ op ≠ 4 ∧ op ≠ 5 ∧ op ≠ 6 ∧ op ≠ 7 ∧ op ≠ 8 ∧ op ≠ 9 ∧ op ≠ 10 ∧ op ≠ 11 ∧ op ≠ 12 ∧ op ≠ 13) := by omega
theorem popX_pat (op : Int) (st : List Bool) : popX op st = (match patX op with | none => none | some p => if hasP p st = true then some (makesX op :: st.drop p.length) else none) := by
  rcases ops_cases op with rfl | rfl | rfl | rfl | rfl | rfl | rfl | rfl | rfl | rfl | rfl | rfl | rfl | h
  case inr.inr.inr.inr.inr.inr.inr.inr.inr.inr.inr.inr.inr =>
    obtain ⟨h1, h2, h3, h4, h5, h6, h7, h8, h9, h10, h11, h12, h13⟩ := h
    simp [popX, patX, h1, h2, h3, h4, h5, h6, h7, h8, h9, h10, h11, h12, h13]
  all_goals
    rcases st with _ | ⟨_ | _, _ | ⟨_ | _, st⟩⟩ <;> simp [popX, patX, hasP, makesX]
theorem patX_len {op : Int} {p : List Bool} (h : patX op = some p) : p.length ≤ 2 := by
  unfold patX at h
  repeat' split at h
  all_goals (try cases h) <;> simp
def stepX (n : Nod) (st : List Bool) : Option (List Bool) := if holdsB n = true then popX n.op st else none
def runX : List Nod → List Bool → Option (List Bool)
  | [], st => some st
  | n :: l, st => (match stepX n st with | some st' => runX l st' | none => none)
def exprE (l : List Nod) : Int :=
  if 32 < l.length then 6 else (match runX l [] with | none => 1 | some st => if l = [] ∨ st = [false] then 0 else 1)

/-- What was met: the names, and how many rules. -/
structure Seen where
  ids : List ByteArray
  n : Nat
def metB (x : ByteArray) (l : List ByteArray) : Bool := l.any fun y => decide (y = x)
def idS (x : ByteArray) (s : Seen) : Option Seen := if Named (bl x) ∧ metB x s.ids = false then some ⟨s.ids ++ [x], s.n⟩ else none
def orE (a b : Int) : Int := if a ≠ 0 then a else b
def ruleS (r : Rul) (s : Seen) : Int × Seen :=
  match idS r.id s with
  | none => (1, s)
  | some s1 => if 64 < s1.n + 1 then (6, ⟨s1.ids, s1.n + 1⟩) else (orE (tgE r.tg) (orE (exprE r.cond) (obE r.ob)), ⟨s1.ids, s1.n + 1⟩)
def firstS {α : Type} (f : α → Seen → Int × Seen) : List α → Seen → Int × Seen
  | [], s => (0, s)
  | x :: l, s => if (f x s).1 ≠ 0 then f x s else firstS f l (f x s).2
def fitsB (p : Pol) : Bool := decide (1 ≤ p.alg) && decide (p.alg ≤ 6) && if p.set = true then decide (p.rules.length = 0) else decide (p.kids.length = 0) && decide (p.alg ≠ 4)
/-- P8.5, at a depth of which so many are left. -/
def polS : Nat → Pol → Seen → Int × Seen
  | 0, p, s => (6, s)
  | d + 1, p, s =>
    match idS p.id s with
    | none => (1, s)
    | some s1 =>
      if fitsB p = false then (1, s1)
      else if orE (tgE p.tg) (obE p.ob) ≠ 0 then (orE (tgE p.tg) (obE p.ob), s1)
      else if 16 < p.rules.length ∨ 16 < p.kids.length then (6, s1)
      else if (firstS ruleS p.rules s1).1 ≠ 0 then firstS ruleS p.rules s1
      else firstS (polS d) p.kids (firstS ruleS p.rules s1).2
def rightE (p : Pol) : Int := (polS 4 p ⟨[], 0⟩).1
def rulesN (p : Pol) : Nat := (polS 4 p ⟨[], 0⟩).2.n
end Go.Proofs.Ytjpkemamfccfdaa
/- Values held against each other by ==. -/
namespace Go.Proofs.Ytjpkemamfccfdaa
set_option linter.unusedVariables false
open Go.RowKit

/-- Are two values the same? -/
def veq (a b : Vl) : Bool := decide (a = b)
theorem veq_true {a b : Vl} (h : a = b) : veq a b = true := decide_eq_true h
theorem veq_false {a b : Vl} (h : a ≠ b) : veq a b = false := decide_eq_false h
theorem veq_iff {a b : Vl} : veq a b = true ↔ a = b := decide_eq_true_iff

theorem val_eq (k n k' n' : Int) (s s' : ByteArray) (w : World) :
    (Op.equalIn 10000 25 (.agg #[.int .i64 k, .int .i64 n, .string s]) (.agg #[.int .i64 k', .int .i64 n', .string s'])).run Try.prog w = .ok (veq ⟨k, n, s⟩ ⟨k', n', s'⟩) w := by
  have u3 := Try.underlying3
  have a3 := Try.isAgg3
  have z3 := Try.sizeOf3
  have u9 := Try.underlying9
  have a9 := Try.isAgg9
  have z9 := Try.sizeOf9
  have hS : Try.prog.underlying 25 = some (.struct (Try.prog.fieldsOf 25)) := by kernel_rfl
  have hp : Try.prog.stoodInHeld 25 = false := by kernel_rfl
  rw [show (10000 : Nat) = 9999 + 1 from rfl, run_equalIn_agg w 9999 25 _ _ hS hp]
  simp only [Program.fieldsOf, Try.underlying25]
  go_simp
  have hts : (s.toList = s'.toList) = (s = s') := propext ⟨fun c => by
    have h : s.data.toList = s'.data.toList := by rw [← ByteArray.toList_eq, ← ByteArray.toList_eq]; exact c
    obtain ⟨⟨x⟩⟩ := s
    obtain ⟨⟨y⟩⟩ := s'
    simp_all, fun h => by rw [h]⟩
  simp only [hts]
  unfold veq
  by_cases h1 : k = k' <;> by_cases h2 : n = n' <;> by_cases h3 : s = s' <;> simp [h1, h2, h3]
end Go.Proofs.Ytjpkemamfccfdaa
/- A region that draws its order, ends in a forced row of operations (stores), and ahead of them only reads and calls that lay new memory: walked once, in the order of the text; the tail is walked as any list, in every world of the class. -/
namespace Go.Proofs.Ytjpkemamfccfdaa
open Go Go.RowKit Go.Sort

section
variable {P : Program} {ops : Array Oper} {md : Region.Mode} {C : World → Prop}

/-- Whatever order is picked among the first n, till L. -/
def HeadQ (P : Program) (md : Region.Mode) (ops : Array Oper) (C : World → Prop) (n : Nat) (L : Array Bool → Act → Prop) : Nat → Array Bool → Act → Prop
  | 0, listed, a => L listed a
  | f + 1, listed, a => Region.ready md ops listed ≠ [] ∧ ∀ i ∈ Region.ready md ops listed, i < n ∧ qOp P ops C i (HeadQ P md ops C n L f (listed.setIfInBounds i true)) a

theorem HeadQ.any {n g : Nat} {L : Array Bool → Act → Prop} {Q : Exit → Act → World → Prop} (hL : ∀ listed a w, C w → L listed a → wpAny P md ops Q g listed a w) :
    ∀ (f : Nat) (listed : Array Bool) (a : Act) (w : World), C w → HeadQ P md ops C n L f listed a → wpAny P md ops Q (f + g) listed a w
  | 0, _, _, _, hw, h => by rw [Nat.zero_add]; exact hL _ _ _ hw h
  | f + 1, _, _, _, hw, h => by
    rw [show f + 1 + g = (f + g) + 1 by omega]
    exact ⟨fun h0 => absurd h0 h.1, fun i hi => wpOp_of_qOp hw (fun a' w' hw' h' => HeadQ.any hL f _ a' w' hw' h') (h.2 i hi).2⟩

theorem HeadQ.first {n i : Nat} {oi : Oper} {v : Value} {L : Array Bool → Act → Prop} (hi : ops[i]? = some oi) (hsel : ∀ (j : Nat) (o : Oper) cs b, ops[j]? = some o → o.op ≠ .select cs b)
    (hs : Region.sinkB md ops n = true) (hc : Region.chainB md ops n = true) (hn : n < ops.size) (hin : i < n) (hdone : ∀ listed a, L listed a → ∀ j ∈ Region.ready md ops listed, n ≤ j) :
    ∀ (f : Nat) (listed : Array Bool) (a : Act), HeadInv md ops n listed →
      (∀ j oj, ops[j]? = some oj → j ≠ i → listed.getD j true = false → (∀ e ∈ oj.after, Region.binds md e = true → e.on ≠ i) → oi.apart ops oj = true) →
      i ∈ Region.ready md ops listed → YieldsIn P ops C oi v a → HeadQ P md ops C n L f (listed.setIfInBounds i true) (a.put oi.dst v) → HeadQ P md ops C n L (f + 1) listed a := by
  intro f
  induction f with
  | zero =>
    intro listed a inv _ hr hy H
    refine ⟨fun h => (by rw [h] at hr; cases hr), fun j hj => ?_⟩
    have hjn : j < n := Nat.lt_of_not_le fun h => tail_waits hs hc hn inv _ i rfl hin (mem_ready.1 hr).1 j h hj
    refine ⟨hjn, ?_⟩
    by_cases hji : j = i
    · subst hji; exact hy.qOp hi H
    · have := hdone _ _ H j (ready_mono hj hji)
      omega
  | succ f ih =>
    intro listed a inv hfree hr hy H
    have hun := (mem_ready.1 hr).1
    refine ⟨fun h => (by rw [h] at hr; cases hr), fun j hj => ?_⟩
    have hjn : j < n := Nat.lt_of_not_le fun h => tail_waits hs hc hn inv _ i rfl hin hun j h hj
    refine ⟨hjn, ?_⟩
    by_cases hji : j = i
    · subst hji; exact hy.qOp hi H
    · have h1 := (H.2 j (ready_mono hj hji)).2
      obtain ⟨hjun, oj, hoj, hall⟩ := mem_ready.1 hj
      have hnot : ∀ e ∈ oj.after, Region.binds md e = true → e.on ≠ i := fun e he hb heq => by
        have h1 := hall e he hb
        rw [heq, getD_both hun] at h1
        cases h1
      have h2 := qOp_put hoj (hfree j oj hoj hji hjun hnot) (fun cs b => hsel i oi cs b hi) (fun cs b => hsel j oj cs b hoj) hy h1
      refine qOp_mono (fun a' h3 => ih (listed.setIfInBounds j true) a' (inv.set hj hjn) ?_ (ready_mono hr (Ne.symm hji)) h3.1 ?_) h2
      · intro k ok hk hki hun' hno
        refine hfree k ok hk hki ?_ hno
        by_cases hjk : j = k
        · subst hjk; exact hjun
        · rw [getD_set_ne true hjk] at hun'; exact hun'
      · rw [Array.setIfInBounds_comm _ _ hji]
        exact h3.2

theorem HeadQ.lex {n g : Nat} {Lq : Act → Prop} (hsel : Region.noSelect ops = true) (hs : Region.sinkB md ops n = true) (hc : Region.chainB md ops n = true) (hn : n < ops.size) :
    ∀ (l : List Oper) (k : Nat) (listed : Array Bool) (a : Act), (∀ j, j < l.length → l[j]? = ops[k + j]?) → k + l.length = n → HeadInv md ops n listed →
    Region.lexHead md ops g l.length k listed = true → wpQuiet P ops C Lq l a → HeadQ P md ops C n (fun listed' a' => Region.seqB md ops g n listed' = true ∧ Lq a') l.length listed a
  | [], k, listed, a, _, hk, _, hB, h => by
    have : k = n := by simpa using hk
    subst this
    exact ⟨by simpa [Region.lexHead] using hB, h⟩
  | o :: l, k, listed, a, hl, hk, inv, hB, h => by
    have h0 : ops[k]? = some o := by simpa using (hl 0 (by simp)).symm
    simp only [List.length_cons, Region.lexHead, Bool.and_eq_true] at hB
    obtain ⟨⟨hr, hf⟩, hB'⟩ := hB
    have hkn : k < n := by simp only [List.length_cons] at hk; omega
    have hr' : k ∈ Region.ready md ops listed := by simpa using hr
    have hst : qOp P ops C k (wpQuiet P ops C Lq l) a := by unfold qOp; simp only [h0]; exact h
    obtain ⟨v, hy, hK⟩ := yieldsIn_of_qOp h0 hst
    exact HeadQ.first h0 (Region.noSelect_spec hsel) hs hc hn hkn (fun listed' a' hL => seqB_ready hL.1) l.length listed a inv (Region.free_spec h0 hf) hr' hy
      (HeadQ.lex hsel hs hc hn l (k + 1) _ _ (fun j hj => by have := hl (j + 1) (by simp; omega); simpa [Nat.add_assoc, Nat.add_comm 1 j] using this) (by simp only [List.length_cons] at hk; omega) (inv.set hr' hkn) hB' hK)

theorem wp_region_quiet_tail {id : Nat} {Q : Exit → Act → World → Prop} {a : Act} {w : World} {l : List Oper} (n : Nat) (hm : P.follows .mixedOrders = true) (hB : Region.lexTailB .any l.toArray n = true) (hC : C { w with drawn := w.drawn + 1 })
    (h : wpQuiet P l.toArray C (fun a' => ∀ w', C w' → wpList P l.toArray Q (l.drop n) a' w') (l.take n) a) : (Code.region id l.toArray true).wp P Q a w := by
  simp only [Region.lexTailB, Bool.and_eq_true, decide_eq_true_eq] at hB
  obtain ⟨⟨⟨⟨hsel, hn⟩, hs⟩, hc⟩, hlex⟩ := hB
  have hn' : n < l.length := by simpa using hn
  have htl : (l.take n).length = n := by simp; omega
  have hdl : (l.drop n).length = l.toArray.size - n := by simp
  have inv0 : HeadInv .any l.toArray n (Array.replicate l.toArray.size false) :=
    ⟨by simp, fun j oj _ hl => (by rw [getD_replicate_false] at hl; cases hl), fun t _ ht => getD_in (by simpa using ht) (getD_replicate_false _ _)⟩
  have H := HeadQ.lex (md := .any) (g := l.toArray.size - n) hsel hs hc hn (l.take n) 0 _ a (fun j hj => by
    have hj' : j < n := by rw [htl] at hj; exact hj
    simp [hj']) (by simpa using htl) inv0 (by rw [htl]; exact hlex) h
  refine wp_region_any hm ?_
  have := HeadQ.any (Q := Q) (g := l.toArray.size - n) (fun listed a' w' hw' hL => by
    have := wpAny_of_seq (md := .any) (Q' := Q) (l.drop n) n listed a' w' (fun j => by simp [List.getElem?_drop]) (by rw [hdl]; exact hL.1) (hL.2 w' hw')
    rwa [hdl] at this) _ _ _ _ hC H
  rw [htl, show n + (l.toArray.size - n) = l.toArray.size by omega] at this
  exact this

/-- At the class of the worlds that have but grown. -/
theorem wp_region_below_tail {id : Nat} {Q : Exit → Act → World → Prop} {a : Act} {w : World} {l : List Oper} (n : Nat) (hm : P.follows .mixedOrders = true) (hB : Region.lexTailB .any l.toArray n = true)
    (h : wpQuiet P l.toArray (fun w' => ∃ p : Regrown, w' = grow (redrawn w p.d) p.os) (fun a' => ∀ w', (∃ p : Regrown, w' = grow (redrawn w p.d) p.os) → wpList P l.toArray Q (l.drop n) a' w') (l.take n) a) : (Code.region id l.toArray true).wp P Q a w :=
  wp_region_quiet_tail n hm hB ⟨⟨w.drawn + 1, #[]⟩, by rw [grow_empty]; rfl⟩ h
end
end Go.Proofs.Ytjpkemamfccfdaa
/- A value in its block, in worlds that have but grown. -/
namespace Go.Proofs.Ytjpkemamfccfdaa
open Go.RowKit Go.Sort

/-- A value in a block of its own, known in all worlds that have but grown. -/
theorem Bx.grown {w : World} {g : Nat} {k n : Int} {s : ByteArray} (h : Bx w g k n s) : (∀ d os, (grow (redrawn w d) os).cell? ⟨g, 0, none⟩ = some (.int .i64 k)) ∧ (∀ d os, (grow (redrawn w d) os).cell? ⟨g, 1, none⟩ = some (.int .i64 n)) ∧ ∀ d os, (grow (redrawn w d) os).cell? ⟨g, 2, none⟩ = some (.string s) :=
  ⟨fun d os => cell_regrown h.c3.1 d os, fun d os => cell_regrown h.c3.2.1 d os, fun d os => cell_regrown h.c3.2.2 d os⟩
end Go.Proofs.Ytjpkemamfccfdaa
/- Values that come in. -/
namespace Go.Proofs.Ytjpkemamfccfdaa
set_option linter.unusedVariables false
open Go.RowKit Go.ChangeShapes Go.WideShapes

set_option maxRecDepth 100000 in
theorem open_val {H : Type} {enc : TypeId × Value → H} {w : World} {base : Nat} {spare : Nat → Bool} {held : Bool} {r : Reach} {b0 : Nat} {v : Value} {d : DataW H} {p : List MemPlace}
    (hv : Value.okWide Try.prog w r b0 25 v) (h : DataW.Trod enc Try.prog w base spare held 25 v d p) : ∃ a : Vl, v = a.val ∧ a.ok := by
  obtain ⟨v0, v1, v2, y0, y1, y2, n, rfl, _, _, h0, h1, h2⟩ := Joins.open_agg3 Try.underlying25 (by kernel_rfl) (by kernel_rfl) hv h
  obtain ⟨x0, e0, _, w0⟩ := DataW.trod_int Try.underlying3 h0
  obtain ⟨x1, e1, _, w1⟩ := DataW.trod_int Try.underlying3 h1
  obtain ⟨x2, e2, _, w2⟩ := DataW.trod_string Try.underlying9 h2
  injection e0 with e0
  injection e1 with e1
  injection e2 with e2
  subst e0 e1 e2
  exact ⟨⟨x0, x1, x2⟩, rfl, wf_bounds w0, wf_bounds w1, w2⟩
end Go.Proofs.Ytjpkemamfccfdaa
/- Lists of values: bags. -/
namespace Go.Proofs.Ytjpkemamfccfdaa
set_option linter.unusedVariables false
open Go.RowKit Go.Sort

/-- The slice 'A n c' reads as the values l; they lie below block B. -/
def Vs (w : World) (B : Nat) (A : Option Addr) (n c : Nat) (l : List Vl) : Prop :=
  l.length = n ∧ n ≤ c ∧ c ≤ maxLen ∧ (n = 0 ∨ ∃ b o, A = some ⟨b, o, none⟩ ∧ b < B ∧ ∀ j v, l[j]? = some v → w.cell? ⟨b, o + j * 3, none⟩ = some (.int .i64 v.k) ∧ w.cell? ⟨b, o + j * 3 + 1, none⟩ = some (.int .i64 v.n) ∧ w.cell? ⟨b, o + j * 3 + 2, none⟩ = some (.string v.s)) ∧ ∀ v ∈ l, v.ok
section
variable {w w' : World} {B B' n c : Nat} {A : Option Addr} {l : List Vl}
theorem Vs.keep (h : Vs w B A n c l) (hk : ∀ k, k < B → w'.heap[k]? = w.heap[k]?) : Vs w' B A n c l := by
  obtain ⟨h1, h2, h3, h4, h5⟩ := h
  refine ⟨h1, h2, h3, ?_, h5⟩
  rcases h4 with h4 | ⟨b, o, e, hb, hc⟩
  · exact .inl h4
  · refine .inr ⟨b, o, e, hb, fun j v hv => ?_⟩
    obtain ⟨a1, a2, a3⟩ := hc j v hv
    exact ⟨(World.cell?_of_block (hk b hb)).trans a1, (World.cell?_of_block (hk b hb)).trans a2, (World.cell?_of_block (hk b hb)).trans a3⟩
theorem Vs.below (h : Vs w B A n c l) (hb : Below B w w') : Vs w' B A n c l := h.keep hb.block
theorem Vs.more (h : Vs w B A n c l) (hB : B ≤ B') : Vs w B' A n c l := by
  obtain ⟨h1, h2, h3, h4, h5⟩ := h
  refine ⟨h1, h2, h3, ?_, h5⟩
  rcases h4 with h4 | ⟨b, o, e, hb, hc⟩
  · exact .inl h4
  · exact .inr ⟨b, o, e, by omega, hc⟩
theorem Vs.then_ (h : Vs w w.heap.size A n c l) (hb : Below w.heap.size w w') : Vs w' w'.heap.size A n c l := (h.below hb).more hb.size
theorem Vs.at_ (h : Vs w B A n c l) {k : Nat} (hk : k < n) : ∃ b o v, A = some ⟨b, o, none⟩ ∧ b < B ∧ l[k]? = some v ∧ v.ok ∧ w.cell? ⟨b, o + k * 3, none⟩ = some (.int .i64 v.k) ∧ w.cell? ⟨b, o + k * 3 + 1, none⟩ = some (.int .i64 v.n) ∧ w.cell? ⟨b, o + k * 3 + 2, none⟩ = some (.string v.s) := by
  obtain ⟨h1, h2, h3, h4, h5⟩ := h
  rcases h4 with h4 | ⟨b, o, e, hb, hc⟩
  · omega
  · have hl : k < l.length := by omega
    exact ⟨b, o, l[k], e, hb, List.getElem?_eq_getElem hl, h5 _ (List.getElem_mem hl), hc k _ (List.getElem?_eq_getElem hl)⟩
theorem Vs.take (h : Vs w B A n c l) {k : Nat} (hk : k ≤ n) : Vs w B A k c (l.take k) := by
  obtain ⟨h1, h2, h3, h4, h5⟩ := h
  refine ⟨by rw [List.length_take]; omega, by omega, h3, ?_, fun v hv => h5 v (List.mem_of_mem_take hv)⟩
  rcases h4 with h4 | ⟨b, o, e, hb, hc⟩
  · left; omega
  · refine .inr ⟨b, o, e, hb, fun j u hu => hc j u ?_⟩
    rw [List.getElem?_take] at hu
    split at hu
    · exact hu
    · cases hu
theorem Vs.drop (h : Vs w B A n c l) {k : Nat} (hk : k ≤ n) : Vs w B (if c = k then A else A.map (·.add (k * 3))) (n - k) (c - k) (l.drop k) := by
  obtain ⟨h1, h2, h3, h4, h5⟩ := h
  refine ⟨by rw [List.length_drop]; omega, by omega, by omega, ?_, fun v hv => h5 v (List.mem_of_mem_drop hv)⟩
  rcases h4 with h4 | ⟨b, o, e, hb, hc⟩
  · left; omega
  · by_cases hn : n = k
    · left; omega
    · right
      subst e
      rw [if_neg (by omega)]
      refine ⟨b, o + k * 3, ?_, hb, fun j u hu => ?_⟩
      · have e3 : k * 3 = 0 ↔ k = 0 := by omega
        by_cases hk0 : k = 0
        · subst hk0; simp [Addr.add]
        · have hk3 : ¬ k * 3 = 0 := by omega
          simp [Addr.add, hk3]
      · have := hc (k + j) u (by rw [← hu, List.getElem?_drop])
        have e : o + k * 3 + j * 3 = o + (k + j) * 3 := by rw [Nat.add_mul]; omega
        rw [e]
        exact this
end

/-- P3.2. -/
def hasB (l : List Vl) (v : Vl) : Bool := l.any fun x => veq x v
def bagB (l : List Vl) : Bool := decide (l.length ≤ 16) && l.all fun v => decide v.right && decide (v.k = ((l.head?).map Vl.k).getD 0)

theorem has_true {l : List Vl} {v x : Vl} {k : Nat} (h : l[k]? = some x) (he : veq x v = true) : hasB l v = true := by
  unfold hasB
  rw [List.any_eq_true]
  exact ⟨x, List.mem_of_getElem? h, he⟩
def HasTo (l : List Vl) (v : Vl) (k : Nat) : Prop := ∀ j x, l[j]? = some x → j < k → veq x v = false
theorem HasTo.step {l : List Vl} {v x : Vl} {k : Nat} (h : HasTo l v k) (hx : l[k]? = some x) (he : veq x v = false) : HasTo l v (k + 1) := fun j y hy hj => by
  by_cases e : j = k
  · subst e
    obtain rfl := Option.some.inj (hx.symm.trans hy)
    exact he
  · exact h j y hy (by omega)
theorem HasTo.all {l : List Vl} {v : Vl} {n : Nat} (h : HasTo l v n) (hn : l.length = n) : hasB l v = false := by
  unfold hasB
  rw [List.any_eq_false]
  intro x hx
  obtain ⟨j, hj, e⟩ := List.getElem_of_mem hx
  rw [h j x (by rw [List.getElem?_eq_getElem hj, e]) (by omega)]
  simp
def BagTo (l : List Vl) (k : Nat) : Prop := ∀ j x, l[j]? = some x → j < k → x.right ∧ ∀ y, l[0]? = some y → x.k = y.k
theorem BagTo.step {l : List Vl} {x y : Vl} {k : Nat} (h : BagTo l k) (hx : l[k]? = some x) (hr : x.right) (hy : l[0]? = some y) (hk : x.k = y.k) : BagTo l (k + 1) := fun j z hz hj => by
  by_cases e : j = k
  · subst e
    obtain rfl := Option.some.inj (hx.symm.trans hz)
    exact ⟨hr, fun u hu => by obtain rfl := Option.some.inj (hy.symm.trans hu); exact hk⟩
  · exact h j z hz (by omega)
theorem BagTo.all {l : List Vl} {n : Nat} (h : BagTo l n) (hn : l.length = n) : bagB l = decide (n ≤ 16) := by
  unfold bagB
  rw [hn]
  have : (l.all fun v => decide v.right && decide (v.k = ((l.head?).map Vl.k).getD 0)) = true := by
    rw [List.all_eq_true]
    intro x hx
    obtain ⟨j, hj, e⟩ := List.getElem_of_mem hx
    obtain ⟨h1, h2⟩ := h j x (by rw [List.getElem?_eq_getElem hj, e]) (by omega)
    cases l with
    | nil => cases hx
    | cons y l =>
      have := h2 y rfl
      simp [h1, this]
  rw [this, Bool.and_true]
theorem bag_bad {l : List Vl} {x y : Vl} {k : Nat} (hx : l[k]? = some x) (hy : l[0]? = some y) (h : ¬ x.right ∨ x.k ≠ y.k) : bagB l = false := by
  rw [← Bool.not_eq_true]
  intro hb
  unfold bagB at hb
  rw [Bool.and_eq_true, List.all_eq_true] at hb
  have := hb.2 x (List.mem_of_getElem? hx)
  cases l with
  | nil => simp at hy
  | cons z l =>
    simp at hy
    subst hy
    simp at this
    rcases h with h | h
    · exact h this.1
    · exact h (of_decide_eq_true this.2)
theorem bag_same {v : Vl} (h : v.right) : bagB [v, v] = true := by unfold bagB; simp [h]
theorem has_one {a b : Vl} (h : a ≠ b) : hasB [a] b = false := by unfold hasB; simp [veq_false h]
theorem has_nil {b : Vl} : hasB [] b = false := rfl
theorem bag_nil : bagB [] = true := rfl
theorem Vs.lit1 (w : World) (a : Vl) (ha : a.ok) : Vs (w.alloc (.cells #[.int .i64 a.k, .int .i64 a.n, .string a.s] 25)) (w.heap.size + 1) (some ⟨w.heap.size, 0, none⟩) 1 1 [a] := by
  refine ⟨rfl, Nat.le_refl _, by simp [maxLen], .inr ⟨w.heap.size, 0, rfl, by omega, fun j v hv => ?_⟩, by simpa using ha⟩
  match j, hv with
  | 0, hv => simp at hv; subst hv; exact ⟨(Ob.made w _ _).cell 0, (Ob.made w _ _).cell 1, (Ob.made w _ _).cell 2⟩
  | j + 1, hv => simp at hv
theorem Vs.lit2 (w : World) (a b : Vl) (ha : a.ok) (hb : b.ok) : Vs (w.alloc (.cells #[.int .i64 a.k, .int .i64 a.n, .string a.s, .int .i64 b.k, .int .i64 b.n, .string b.s] 25)) (w.heap.size + 1) (some ⟨w.heap.size, 0, none⟩) 2 2 [a, b] := by
  refine ⟨rfl, Nat.le_refl _, by simp [maxLen], .inr ⟨w.heap.size, 0, rfl, by omega, fun j v hv => ?_⟩, by simpa using ⟨ha, hb⟩⟩
  match j, hv with
  | 0, hv => simp at hv; subst hv; exact ⟨(Ob.made w _ _).cell 0, (Ob.made w _ _).cell 1, (Ob.made w _ _).cell 2⟩
  | 1, hv => simp at hv; subst hv; exact ⟨(Ob.made w _ _).cell 3, (Ob.made w _ _).cell 4, (Ob.made w _ _).cell 5⟩
  | j + 2, hv => simp at hv
theorem Vs.nil_ (w : World) (B : Nat) : Vs w B none 0 0 [] := ⟨rfl, Nat.le_refl _, by simp [maxLen], .inl rfl, by simp⟩
theorem bag_long {l : List Vl} (h : ¬ l.length ≤ 16) : bagB l = false := by unfold bagB; rw [decide_eq_false h]; rfl
end Go.Proofs.Ytjpkemamfccfdaa
