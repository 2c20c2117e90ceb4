/- Several texts in one: Math, Mem, Arith, Made, VMath, PolMath, VNameV, VRightV, VInT, VRefName, VRefRight, VName, VRight, VBox, VEq. -/
import Derived.WalkKit
import Derived.Test.YtmoglaknmlhpgaaGreatDoorRows
import Derived.Deep.Draws
import Derived.BigQuiet
import Derived.Deep.QuietTactic
import Derived.Lib.Hide
import Derived.Laws.CopyOwn
import Derived.Lib.AppendStr
import Derived.Deep.RegionWith
import Derived.Lib.ItoaNum
import Derived.Laws.StructEq
import Derived.Laws.Tables
import Derived.Laws.Cover2
/- The bytes of chapter 1's numbers as plain lists: enc (what is written), dec (what is read), zig and zag (the sign in the lowest bit). No Go, no program: plain mathematics. -/
namespace Go.Proofs.YtmoglaknmlhpgaaGreatDoor

def enc (u : Nat) : List UInt8 := if u < 128 then [UInt8.ofNat u] else UInt8.ofNat (u % 128 + 128) :: enc (u / 128)
termination_by u
decreasing_by omega

theorem ofNat_toNat {u : Nat} (h : u < 256) : (UInt8.ofNat u).toNat = u := by simp; omega

end Go.Proofs.YtmoglaknmlhpgaaGreatDoor
/- Words for memory: a slice that reads as a row of cells (Sl), an object of known cells (Ob), and how both are kept. -/
namespace Go.Proofs.YtmoglaknmlhpgaaGreatDoor
open Go.RowKit

def bv (l : List UInt8) : List Value := l.map fun c => Value.int .u8 (c.toNat : Int)
theorem bv_len (l : List UInt8) : (bv l).length = l.length := by simp [bv]
theorem bv_app (l m : List UInt8) : bv (l ++ m) = bv l ++ bv m := by simp [bv]
def Sl (w : World) (B : Nat) (A : Option Addr) (n c : Nat) (xs : List Value) : Prop :=
 xs.length = n ∧ n ≤ c ∧ c ≤ maxLen ∧ (n = 0 ∨ ∃ b o, A = some ⟨b, o, none⟩ ∧ b < B ∧ ∀ j u, xs[j]? = some u → w.cell? ⟨b, o + j, none⟩ = some u)

section
variable {w w' : World} {B B' n c : Nat} {A : Option Addr} {xs : List Value}
theorem Sl.len (h : Sl w B A n c xs) : xs.length = n := h.1
theorem Sl.le (h : Sl w B A n c xs) : n ≤ c := h.2.1
theorem Sl.cap (h : Sl w B A n c xs) : c ≤ maxLen := h.2.2.1
theorem Sl.nil_ (w : World) (B : Nat) : Sl w B none 0 0 [] := ⟨rfl, Nat.le_refl _, by simp [maxLen], .inl rfl⟩
theorem Sl.keep (h : Sl w B A n c xs) (hk : ∀ k, k < B → w'.heap[k]? = w.heap[k]?) : Sl w' B A n c xs := by
 obtain ⟨h1, h2, h3, h4⟩ := h
 refine ⟨h1, h2, h3, ?_⟩
 rcases h4 with h4 | ⟨b, o, e, hb, hc⟩
 ·exact .inl h4
 ·exact .inr ⟨b, o, e, hb, fun j u hu => (World.cell?_of_block (hk b hb)).trans (hc j u hu)⟩
theorem Sl.more (h : Sl w B A n c xs) (hB : B ≤ B') : Sl w B' A n c xs := by
 obtain ⟨h1, h2, h3, h4⟩ := h
 refine ⟨h1, h2, h3, ?_⟩
 rcases h4 with h4 | ⟨b, o, e, hb, hc⟩
 ·exact .inl h4
 ·exact .inr ⟨b, o, e, by omega, hc⟩
theorem Sl.below (h : Sl w B A n c xs) (hb : Below B w w') : Sl w' B A n c xs := h.keep hb.block
theorem Sl.drewN (h : Sl w B A n c xs) (k : Nat) : Sl (w.drewN k) B A n c xs := h.keep fun _ _ => rfl
theorem Sl.at_ (h : Sl w B A n c xs) {k : Nat} (hk : k < n) : ∃ b o u, A = some ⟨b, o, none⟩ ∧ b < B ∧ xs[k]? = some u ∧ w.cell? ⟨b, o + k, none⟩ = some u := by
 obtain ⟨h1, h2, h3, h4⟩ := h
 rcases h4 with h4 | ⟨b, o, e, hb, hc⟩
 ·omega
 ·have hl : k < xs.length := by omega
  exact ⟨b, o, xs[k], e, hb, List.getElem?_eq_getElem hl, hc k _ (List.getElem?_eq_getElem hl)⟩
theorem Sl.take (h : Sl w B A n c xs) {k : Nat} (hk : k ≤ n) : Sl w B A k c (xs.take k) := by
 obtain ⟨h1, h2, h3, h4⟩ := h
 refine ⟨by rw [List.length_take]; omega, by omega, h3, ?_⟩
 rcases h4 with h4 | ⟨b, o, e, hb, hc⟩
 ·left; omega
 ·refine .inr ⟨b, o, e, hb, fun j u hu => hc j u ?_⟩
  rw [List.getElem?_take] at hu
  split at hu
  ·exact hu
  ·cases hu
theorem Sl.drop (h : Sl w B A n c xs) {k : Nat} (hk : k ≤ n) : Sl w B (if c = k then A else A.map (·.add k)) (n - k) (c - k) (xs.drop k) := by
 obtain ⟨h1, h2, h3, h4⟩ := h
 refine ⟨by rw [List.length_drop]; omega, by omega, by omega, ?_⟩
 rcases h4 with h4 | ⟨b, o, e, hb, hc⟩
 ·left; omega
 ·by_cases hn : n = k
  ·left; omega
  ·right
   subst e
   rw [if_neg (by omega)]
   refine ⟨b, o + k, ?_, hb, fun j u hu => ?_⟩
   ·by_cases hk0 : k = 0 <;> simp [Addr.add, hk0]
   ·rw [Nat.add_assoc]
    exact hc (k + j) u (by rw [← hu, List.getElem?_drop])
theorem Sl.of_own {base e : Nat} (h : w.ownsRow base e 1 (.slice A n c) n xs) : Sl w w.heap.size A n c xs := by
 have hl := h.1
 rcases h.2 with ⟨hv, hn⟩ | ⟨g, cap, cur, hv, hb, hg, hnc, hcm, hcs, ht⟩
 ·injection hv with h1 h2 h3
  subst h1 h2 h3
  exact ⟨by simpa using hl, Nat.le_refl _, by simp [maxLen], .inl rfl⟩
 ·injection hv with h1 h2 h3
  subst h1 h3
  refine ⟨by simpa using hl, hnc, hcm, .inr ⟨g, 0, rfl, ?_, fun j u hu => ?_⟩⟩
  ·rcases Nat.lt_or_ge g w.heap.size with hlt | hge
   ·exact hlt
   ·rw [Array.getElem?_eq_none hge] at hg; cases hg
  ·have := h.cells (g := g) rfl j u hu
   by_cases hj : j = 0
   ·subst hj; simpa [Addr.add] using this
   ·simpa [Addr.add, hj] using this
end

def Ob (w : World) (g : Nat) (t : TypeId) (cs : Array Value) : Prop := w.heap[g]? = some (.cells cs t (0, 0))
section
variable {w w' : World} {g : Nat} {t : TypeId} {cs : Array Value}
theorem Ob.lt (h : Ob w g t cs) : g < w.heap.size := by
 rcases Nat.lt_or_ge g w.heap.size with hlt | hge
 ·exact hlt
 ·unfold Ob at h; rw [Array.getElem?_eq_none hge] at h; cases h
theorem Ob.cell (h : Ob w g t cs) (i : Nat) : w.cell? ⟨g, i, none⟩ = cs[i]? := cell_of_row w g i cs t (0, 0) h
theorem Ob.frozen (h : Ob w g t cs) (i : Nat) : w.frozen? ⟨g, i, none⟩ = false := by unfold Ob at h; simp [World.frozen?, h]
theorem Ob.made (w : World) (t : TypeId) (cs : Array Value) : Ob (w.alloc (.cells cs t)) w.heap.size t cs := heap_alloc_new w _
theorem Ob.keep (h : Ob w g t cs) (hk : w'.heap[g]? = w.heap[g]?) : Ob w' g t cs := hk.trans h
theorem Ob.below {B : Nat} (h : Ob w g t cs) (hb : Below B w w') (hg : g < B) : Ob w' g t cs := h.keep (hb.block g hg)
theorem Ob.put (h : Ob w g t cs) (i : Nat) (u : Value) : Ob (w.setCell ⟨g, i, none⟩ u) g t (cs.setIfInBounds i u) := by
 unfold Ob at h ⊢
 simp [World.setCell, Array.getElem?_modify, h]
end

def Only (r : Nat) (w w' : World) : Prop := w.grownBy w' (some r)
section
variable {r : Nat} {w w' w'' : World}
theorem Only.refl : Only r w w := ⟨rfl, rfl, rfl, Nat.le_refl _, fun _ _ _ => rfl⟩
theorem Only.heap (h : Only r w w') {k : Nat} (hk : k < w.heap.size) (hr : k ≠ r) : w'.heap[k]? = w.heap[k]? := h.block k hk (fun e => hr (by injection e))
theorem Only.le (h : Only r w w') : w.heap.size ≤ w'.heap.size := h.size
theorem Only.trans (h : Only r w w') (k : Only r w' w'') : Only r w w'' :=
 ⟨k.os.trans h.os, k.tape.trans h.tape, k.output.trans h.output, Nat.le_trans h.size k.size, fun i hi hn => (k.block i (Nat.lt_of_lt_of_le hi h.size) hn).trans (h.block i hi hn)⟩
theorem Only.drewN (h : Only r w w') (n : Nat) : Only r w (w'.drewN n) := ⟨h.os, h.tape, h.output, h.size, h.block⟩
theorem Only.of_below (h : Below w.heap.size w w') : Only r w w' := ⟨h.os, h.tape, h.output, h.size, fun k hk _ => h.block k hk⟩
theorem Only.setCell (h : Only r w w') {p : Addr} (hp : p.block = r) (u : Value) : Only r w (w'.setCell p u) :=
 ⟨h.os, h.tape, h.output, by simpa [World.setCell] using h.size, fun i hi hne => (Below.heap_setCell w' p u i (by rw [hp]; rintro rfl; exact hne rfl)).trans (h.block i hi hne)⟩
theorem Only.below {B : Nat} (h : Only r w w') (hB : B ≤ w.heap.size) (hr : B ≤ r) : Below B w w' :=
 ⟨h.os, h.tape, h.output, h.size, fun k hk => h.heap (by omega) (by omega)⟩
end

theorem below_drewN {B : Nat} {a w : World} (h : Below B a w) (n : Nat) : Below B a (w.drewN n) := ⟨h.os, h.tape, h.output, h.size, h.block⟩
theorem ret_bool {a b : Bool} (h : a = b) : Ending.returned (.bool a) = .returned (.bool b) := by rw [h]
theorem ret_int {k : IntKind} {a b : Int} (h : a = b) : Ending.returned (.int k a) = .returned (.int k b) := by rw [h]

end Go.Proofs.YtmoglaknmlhpgaaGreatDoor
/- Go's operations on numbers as plain arithmetic, and append and copy as equations on one run, over the words of XMem. -/
namespace Go.Proofs.YtmoglaknmlhpgaaGreatDoor
open Go.RowKit

theorem one_byte (x : Int) : (Value.int .u8 x).oneCell' = true := rfl
theorem one_bv {l : List UInt8} : ∀ v ∈ bv l, v.oneCell' = true := by
 intro v hv
 obtain ⟨c, _, rfl⟩ := List.mem_map.1 hv
 rfl

section
variable {P : Program} {T E : TypeId} {i : TypeInfo}

theorem append_one (ht : P.underlying T = some (.slice E)) (hi : P.info? E = some i) (hz : i.zero = some (.int .u8 0)) (hs : i.size = 1) (hb : i.bytes = 1)
  {w : World} {base n c ty : Nat} {A : Option Addr} {xs : List Value} (h : w.ownsRow base E 1 (.slice A n c) n xs) (hn : n ≤ 140737488355327) (hbase : base ≤ w.heap.size) (x : Int) :
  ∃ A' c' w', (Builtin.append_ #[T, T] ty #[.slice A n c, .slice (some ⟨w.heap.size, 0, none⟩) 1 1]).run P (w.alloc (.cells #[.int .u8 x] E)) = .ok (.slice A' (n + 1) c') w' ∧
   w'.ownsRow base E 1 (.slice A' (n + 1) c') (n + 1) (xs ++ [.int .u8 x]) ∧ Below base w w' := by
 obtain ⟨v', w', hrun, h2, h3, h4⟩ := run_append_own (P := P) (w.alloc (.cells #[.int .u8 x] E)) base T ty E i (.int .u8 0) 1 1 ht hi hz hs hb rfl (by omega) (.slice A n c) n xs (h.alloc _)
  ⟨w.heap.size, 0, none⟩ 1 1 [.int .u8 x] rfl (by
   intro j u hu
   match j, hu with
   | 0, hu => simp at hu; subst hu; simp [Addr.add, World.cell?_alloc_at]
   | j + 1, hu => simp at hu) (by simp [one_byte]) (by unfold maxLen; omega) (by omega) (by simp; omega)
 have hform : ∃ A' c', v' = .slice A' (n + 1) c' := by
  rcases h2.2 with ⟨_, hz⟩ | ⟨g, cap, cur, hv, _⟩
  ·omega
  ·exact ⟨_, _, hv⟩
 obtain ⟨A', c', rfl⟩ := hform
 refine ⟨A', c', w', hrun, h2, ?_⟩
 refine ((Below.refl base w).alloc hbase _).grown h3 (by simp; omega) (fun k hk => ?_)
 exact (h.lt k hk).1

theorem append_nil_src (ht : P.underlying T = some (.slice E)) (hi : P.info? E = some i) {w : World} {base n c ty : Nat} {size : Nat} {v : Value} {xs : List Value} (h : w.ownsRow base E size v n xs) :
  (Builtin.append_ #[T, T] ty #[v, .slice none 0 c]).run P w = .ok v w := by
 rcases h.2 with ⟨rfl, rfl⟩ | ⟨g, cap, cur, rfl, _, _, hnc, _⟩
 ·simp [Builtin.append_, run_underlying ht, sizeOf, typeInfo, hi, Builtin.lenOf, Builtin.firstCells]
 ·simp [Builtin.append_, run_underlying ht, sizeOf, typeInfo, hi, Builtin.lenOf, Builtin.firstCells, hnc, storeCells]

theorem append_row (ht : P.underlying T = some (.slice E)) (hi : P.info? E = some i) (hz : i.zero = some (.int .u8 0)) (hs : i.size = 1) (hb : i.bytes = 1)
  {w : World} {base B n c m c2 ty : Nat} {A A2 : Option Addr} {xs ys : List Value} (h : w.ownsRow base E 1 (.slice A n c) n xs) (hy : Sl w B A2 m c2 ys) (h1 : ∀ v ∈ ys, v.oneCell' = true)
  (hn : n + m ≤ 140737488355328) (hbase : base ≤ w.heap.size) :
  ∃ A' c' w', (Builtin.append_ #[T, T] ty #[.slice A n c, .slice A2 m c2]).run P w = .ok (.slice A' (n + m) c') w' ∧
   w'.ownsRow base E 1 (.slice A' (n + m) c') (n + m) (xs ++ ys) ∧ Below base w w' := by
 have hlen := hy.len
 have fin : ∀ (ad : Addr), A2 = some ad → (∀ j u, ys[j]? = some u → w.cell? (ad.add j) = some u) → ∃ A' c' w', (Builtin.append_ #[T, T] ty #[.slice A n c, .slice A2 m c2]).run P w = .ok (.slice A' (n + m) c') w' ∧
   w'.ownsRow base E 1 (.slice A' (n + m) c') (n + m) (xs ++ ys) ∧ Below base w w' := by
  rintro ad rfl hc
  obtain ⟨v', w', hrun, h2, h3, h4⟩ := run_append_own (P := P) w base T ty E i (.int .u8 0) 1 1 ht hi hz hs hb rfl (by omega) (.slice A n c) n xs h
   ad m c2 ys (by omega) hc h1 (by unfold maxLen; omega) (by omega) hbase
  have hform : ∃ A' c', v' = .slice A' (n + m) c' := by
   rcases h2.2 with ⟨hv, hz⟩ | ⟨g, cap, cur, hv, _⟩
   ·exact ⟨_, _, by rw [hv, hz]⟩
   ·exact ⟨_, _, hv⟩
  obtain ⟨A', c', rfl⟩ := hform
  exact ⟨A', c', w', hrun, h2, (Below.refl base w).grown h3 hbase (fun k hk => (h.lt k hk).1)⟩
 rcases hy.2.2.2 with h0 | ⟨b, o, e, hb', hc⟩
 ·subst h0
  obtain rfl : ys = [] := List.eq_nil_of_length_eq_zero hlen
  rcases A2 with _ | ad
  ·exact ⟨A, c, w, append_nil_src ht hi h, by simpa using h, Below.refl _ _⟩
  ·exact fin ad rfl (fun j u hu => by simp at hu)
 ·refine fin _ e fun j u hu => ?_
  have := hc j u hu
  by_cases hj : j = 0
  ·subst hj; simpa [Addr.add] using this
  ·simpa [Addr.add, hj] using this

end

theorem wpList_append_run {P : Program} {w w' : World} {ops : Array Oper} {rest : List Oper} {o : Oper} {a : Act} {Q : Exit → Act → World → Prop} (hgd : o.guard = none) (s x : Operand) (t u : TypeId)
  (ho : o.op = .call { callee := .builtin .append, args := #[s, x], argTypes := #[t, u] }) {sv xv v' : Value} (hs : a.eval s = sv) (hx : a.eval x = xv)
  (hrun : (Builtin.append_ #[t, u] o.type #[sv, xv]).run P w = .ok v' w') (h : wpList P ops Q rest (a.put o.dst v') w') : wpList P ops Q (o :: rest) a w := by
 refine wpList_plain hgd fun K hK => ?_
 unfold Oper.wp execOp
 simp only [ho, resolve, invoke, builtin, Sem.run_bind, Sem.run_pure, Result.andThen_ok, List.map_toArray, List.map_cons, List.map_nil, hs, hx, hrun]
 exact hK _ _ h
end Go.Proofs.YtmoglaknmlhpgaaGreatDoor
/- Small facts of new memory and of numbers that come in (any types). -/
namespace Go.Proofs.YtmoglaknmlhpgaaGreatDoor
open Go.RowKit

theorem wf_bounds {a : Int} (h : (Lit.int .i64 a).wf = true) : -9223372036854775808 ≤ a ∧ a ≤ 9223372036854775807 := by
 simp only [Lit.wf, Bool.and_eq_true, decide_eq_true_eq] at h
 exact h
theorem Sl.then_ {w w' : World} {n c : Nat} {A : Option Addr} {xs : List Value} (h : Sl w w.heap.size A n c xs) (hb : Below w.heap.size w w') : Sl w' w'.heap.size A n c xs := (h.below hb).more hb.size
theorem below_step {w a b : World} (h1 : Below w.heap.size w a) (h2 : Below a.heap.size a b) : Below w.heap.size w b := h1.trans (h2.mono h1.size)
theorem Sl.lit (w : World) (t : TypeId) (cs : List Value) (n : Nat) (hn : cs.length = n) (h63 : n ≤ maxLen) : Sl (w.alloc (.cells cs.toArray t)) (w.heap.size + 1) (some ⟨w.heap.size, 0, none⟩) n n cs := by
 refine ⟨hn, Nat.le_refl _, h63, .inr ⟨w.heap.size, 0, rfl, by omega, fun j u hu => ?_⟩⟩
 have := (Ob.made w t cs.toArray).cell j
 rw [Nat.zero_add, this]
 simpa using hu
theorem Below.lit {w w' : World} {o : Obj} (h : Below (w.alloc o).heap.size (w.alloc o) w') : Below w.heap.size w w' := ((Below.refl _ w).alloc (Nat.le_refl _) o).trans (h.mono (by simp))
theorem Sl.lit_keep {w : World} {B n c : Nat} {A : Option Addr} {xs : List Value} (h : Sl w B A n c xs) (hB : B ≤ w.heap.size) (o : Obj) : Sl (w.alloc o) B A n c xs := h.keep fun k hk => Below.heap_alloc w o k (by omega)
theorem Ob.sl {w : World} {g : Nat} {t : TypeId} {n : Nat} {xs : List Value} (h : Ob w g t xs.toArray) (hn : xs.length = n) (h63 : n ≤ maxLen) : Sl w (g + 1) (some ⟨g, 0, none⟩) n n xs := by
 refine ⟨hn, Nat.le_refl _, h63, .inr ⟨g, 0, rfl, by omega, fun j u hu => ?_⟩⟩
 have := h.cell j
 rw [Nat.zero_add, this]
 simpa using hu
theorem size_al (w : World) (o : Obj) : (w.alloc o).heap.size = w.heap.size + 1 := by simp
theorem step_append_run {P : Program} {ops : Array Oper} {o : Oper} {a : Act} {w w' : World} {K : Act → World → Prop} {Q : Exit → Act → World → Prop} {E : Prop}
  (hg : o.guard = none) (s x : Operand) (t u : TypeId) (hop : o.op = Op.call { callee := Callee.builtin Builtin.append, args := #[s, x], argTypes := #[t, u] })
  {sv xv v' : Value} (hs : a.eval s = sv) (hx : a.eval x = xv) (hrun : (Builtin.append_ #[t, u] o.type #[sv, xv]).run P w = .ok v' w') (hK : K (a.put o.dst v') w') :
  if Region.wanted o (yielded ops a.tmps) = true then Oper.wp P o a w K Q else E := by
 have hw : Region.wanted o (yielded ops a.tmps) = true := by simp [Region.wanted, hg]
 rw [if_pos hw]
 unfold Oper.wp
 simp [execOp, hop, resolve, invoke, builtin, hs, hx, hrun, Result.andThen]
 exact hK
end Go.Proofs.YtmoglaknmlhpgaaGreatDoor
/- Values, plainly: which are right, how they stand, their bytes and their texts. -/
namespace Go.Proofs.YtmoglaknmlhpgaaGreatDoor
set_option linter.unusedVariables false

def lett (c : UInt8) : Bool := decide (97 ≤ c.toNat) && decide (c.toNat ≤ 122)
def later (c : UInt8) : Bool := decide (48 ≤ c.toNat) && decide (c.toNat ≤ 57) || decide (c.toNat = 95)
def okAt (j : Nat) (c : UInt8) : Bool := lett c || decide (0 < j) && later c

def Named (l : List UInt8) : Prop := (1 ≤ l.length ∧ l.length ≤ 16) ∧ ∀ j (h : j < l.length), okAt j l[j] = true
instance (l : List UInt8) : Decidable (Named l) := by unfold Named; infer_instance

def RightV (k n : Int) (l : List UInt8) : Prop :=
 k = 1 ∧ l = [] ∧ (n = 0 ∨ n = 1) ∨ k = 2 ∧ l = [] ∨ k = 3 ∧ n = 0 ∧ l.length ≤ 64 ∨ k = 4 ∧ l = [] ∧ 0 ≤ n ∧ n ≤ 1099511627776 ∨ k = 5 ∧ n = 0 ∧ Named l
instance (k n : Int) (l : List UInt8) : Decidable (RightV k n l) := by unfold RightV; infer_instance

def inT (k : Int) : Bool := decide (k = 3) || decide (k = 5)

structure Vl where
 k : Int
 n : Int
 s : ByteArray
def Vl.l (v : Vl) : List UInt8 := v.s.data.toList
def Vl.right (v : Vl) : Prop := RightV v.k v.n v.l
instance (v : Vl) : Decidable v.right := by unfold Vl.right; infer_instance
theorem Vl.ext' {a b : Vl} (h1 : a.k = b.k) (h2 : a.n = b.n) (h3 : a.l = b.l) : a = b := by
 obtain ⟨k, n, s⟩ := a
 obtain ⟨k', n', s'⟩ := b
 obtain ⟨⟨x⟩⟩ := s
 obtain ⟨⟨y⟩⟩ := s'
 simp_all [Vl.l]
instance : DecidableEq Vl := fun a b => if h : a.k = b.k ∧ a.n = b.n ∧ a.l = b.l then .isTrue (Vl.ext' h.1 h.2.1 h.2.2) else .isFalse (by rintro rfl; exact h ⟨rfl, rfl, rfl⟩)
def Vl.ok (v : Vl) : Prop := (-9223372036854775808 ≤ v.k ∧ v.k ≤ 9223372036854775807) ∧ (-9223372036854775808 ≤ v.n ∧ v.n ≤ 9223372036854775807) ∧ v.s.size ≤ maxLen

def hexd (n : Nat) : UInt8 := UInt8.ofNat (if n < 10 then 48 + n else 87 + n)
def odd8 (c : UInt8) : Bool := decide (c.toNat < 32) || decide (126 < c.toNat) || decide (c.toNat = 34) || decide (c.toNat = 92)
def quoteC (c : UInt8) : List UInt8 := if odd8 c = true then [92, hexd (c.toNat / 16), hexd (c.toNat % 16)] else [c]
def quoteL : List UInt8 → List UInt8
 | [] => []
 | c :: r => quoteC c ++ quoteL r
theorem quoteL_app (l m : List UInt8) : quoteL (l ++ m) = quoteL l ++ quoteL m := by
 induction l with
 | nil => rfl
 | cons c r ih => simp [quoteL, ih]
def quoteB (l : List UInt8) : List UInt8 := [34] ++ quoteL l ++ [34]
theorem quoteC_len (c : UInt8) : (quoteC c).length ≤ 3 := by unfold quoteC; split <;> simp
theorem quoteL_len (l : List UInt8) : (quoteL l).length ≤ 3 * l.length := by
 induction l with
 | nil => simp [quoteL]
 | cons c r ih => have := quoteC_len c; simp [quoteL]; omega

def showB (v : Vl) : List UInt8 :=
 if v.right then
  if v.k = 1 then (if v.n = 1 then [116, 114, 117, 101] else [102, 97, 108, 115, 101])
  else if v.k = 3 then quoteB v.l
  else if v.k = 4 then 64 :: Lib.itoa v.n
  else if v.k = 5 then 35 :: v.l
  else Lib.itoa v.n
 else []

end Go.Proofs.YtmoglaknmlhpgaaGreatDoor
/- Policies, plainly: what they are of (chapter 8), and which are right. -/
namespace Go.Proofs.YtmoglaknmlhpgaaGreatDoor
set_option linter.unusedVariables false

def InI (n : Int) : Prop := -9223372036854775808 ≤ n ∧ n ≤ 9223372036854775807

structure Atr where
 cat : Int
 name : ByteArray
 must : Bool
structure Mat where
 a : Atr
 op : Int
 v : Vl
structure Nod where
 op : Int
 v : Vl
 a : Atr
structure Dut where
 on : Int
 kind : Int
 arg : ByteArray
abbrev Tgt := List (List (List Mat))
structure Rul where
 id : ByteArray
 deny : Bool
 tg : Tgt
 cond : List Nod
 ob : List Dut
inductive Pol where
 | mk (id : ByteArray) (set : Bool) (alg : Int) (tg : Tgt) (rules : List Rul) (kids : List Pol) (ob : List Dut)
def Pol.id : Pol → ByteArray | .mk a _ _ _ _ _ _ => a
def Pol.set : Pol → Bool | .mk _ a _ _ _ _ _ => a
def Pol.alg : Pol → Int | .mk _ _ a _ _ _ _ => a
def Pol.tg : Pol → Tgt | .mk _ _ _ a _ _ _ => a
def Pol.rules : Pol → List Rul | .mk _ _ _ _ a _ _ => a
def Pol.kids : Pol → List Pol | .mk _ _ _ _ _ a _ => a
def Pol.ob : Pol → List Dut | .mk _ _ _ _ _ _ a => a

def Atr.ok (a : Atr) : Prop := InI a.cat ∧ a.name.size ≤ maxLen
def Mat.ok (m : Mat) : Prop := m.a.ok ∧ InI m.op ∧ m.v.ok
def Nod.ok (n : Nod) : Prop := InI n.op ∧ n.v.ok ∧ n.a.ok
def Dut.ok (o : Dut) : Prop := InI o.on ∧ InI o.kind ∧ o.arg.size ≤ maxLen

instance (n : Int) : Decidable (InI n) := by unfold InI; infer_instance
instance (v : Vl) : Decidable v.ok := by unfold Vl.ok; infer_instance
instance (a : Atr) : Decidable a.ok := by unfold Atr.ok; infer_instance
instance (m : Mat) : Decidable m.ok := by unfold Mat.ok; infer_instance
instance (n : Nod) : Decidable n.ok := by unfold Nod.ok; infer_instance
instance (o : Dut) : Decidable o.ok := by unfold Dut.ok; infer_instance

def bl (s : ByteArray) : List UInt8 := s.data.toList

def firstE {α : Type} (f : α → Int) : List α → Int
 | [] => 0
 | x :: l => if f x ≠ 0 then f x else firstE f l
def FineTo {α : Type} (f : α → Int) (l : List α) (k : Nat) : Prop := ∀ j x, l[j]? = some x → j < k → f x = 0
theorem FineTo.zero {α : Type} (f : α → Int) (l : List α) : FineTo f l 0 := fun j x _ h => by omega
theorem FineTo.step {α : Type} {f : α → Int} {l : List α} {k : Nat} {x : α} (h : FineTo f l k) (hx : l[k]? = some x) (h0 : f x = 0) : FineTo f l (k + 1) := fun j y hy hj => by
 by_cases e : j = k
 ·subst e
  obtain rfl := Option.some.inj (hx.symm.trans hy)
  exact h0
 ·exact h j y hy (by omega)
theorem FineTo.tail {α : Type} {f : α → Int} {x : α} {l : List α} {k : Nat} (h : FineTo f (x :: l) (k + 1)) : f x = 0 ∧ FineTo f l k :=
 ⟨h 0 x rfl (by omega), fun j y hy hj => h (j + 1) y (by simpa using hy) (by omega)⟩
theorem FineTo.all {α : Type} {f : α → Int} : ∀ {l : List α} {n : Nat}, FineTo f l n → l.length = n → firstE f l = 0
 | [], _, _, _ => rfl
 | x :: l, 0, h, hn => by simp at hn
 | x :: l, n + 1, h, hn => by
  obtain ⟨h0, h1⟩ := h.tail
  simp only [firstE, h0, ne_eq, not_true, if_false]
  exact h1.all (by simpa using hn)
theorem FineTo.err {α : Type} {f : α → Int} : ∀ {l : List α} {k : Nat} {x : α}, FineTo f l k → l[k]? = some x → f x ≠ 0 → firstE f l = f x
 | [], _, _, _, hx, _ => by simp at hx
 | y :: l, 0, x, _, hx, h0 => by
  simp at hx
  subst hx
  simp [firstE, h0]
 | y :: l, k + 1, x, h, hx, h0 => by
  obtain ⟨h1, h2⟩ := h.tail
  simp only [firstE, h1, ne_eq, not_true, if_false]
  exact h2.err (by simpa using hx) h0

def attrB (a : Atr) : Bool := decide (1 ≤ a.cat) && decide (a.cat ≤ 4) && decide (Named (bl a.name))
def matE (m : Mat) : Int := if attrB m.a = true ∧ 1 ≤ m.op ∧ m.op ≤ 3 ∧ m.v.right then 0 else 1
def partsE (n : Nat) : Int := if n = 0 then 1 else if 8 < n then 6 else 0
def allE (l : List Mat) : Int := if partsE l.length ≠ 0 then partsE l.length else firstE matE l
def anyE (l : List (List Mat)) : Int := if partsE l.length ≠ 0 then partsE l.length else firstE allE l
def tgE (t : Tgt) : Int := if 8 < t.length then 6 else firstE anyE t
def dutE (o : Dut) : Int := if (o.on = 1 ∨ o.on = 2) ∧ 1 ≤ o.kind ∧ o.kind ≤ 4 ∧ Named (bl o.arg) then 0 else 1
def obE (l : List Dut) : Int := if 8 < l.length then 6 else firstE dutE l

def zeroV : Vl := ⟨0, 0, ByteArray.empty⟩
def zeroA : Atr := ⟨0, ByteArray.empty, false⟩
theorem text_eq {a b : ByteArray} (h : bl a = bl b) : a = b := by
 obtain ⟨⟨x⟩⟩ := a
 obtain ⟨⟨y⟩⟩ := b
 simp_all [bl]
instance textDec : DecidableEq ByteArray := fun a b => if h : bl a = bl b then .isTrue (text_eq h) else .isFalse (by rintro rfl; exact h rfl)
theorem Atr.ext' {a b : Atr} (h1 : a.cat = b.cat) (h2 : a.name = b.name) (h3 : a.must = b.must) : a = b := by
 cases a; cases b; simp_all
instance : DecidableEq Atr := fun a b => if h : a.cat = b.cat ∧ bl a.name = bl b.name ∧ a.must = b.must then .isTrue (Atr.ext' h.1 (text_eq h.2.1) h.2.2) else .isFalse (by rintro rfl; exact h ⟨rfl, rfl, rfl⟩)

theorem Mat.ext' {a b : Mat} (h1 : a.a = b.a) (h2 : a.op = b.op) (h3 : a.v = b.v) : a = b := by cases a; cases b; simp_all
instance : DecidableEq Mat := fun a b => if h : a.a = b.a ∧ a.op = b.op ∧ a.v = b.v then .isTrue (Mat.ext' h.1 h.2.1 h.2.2) else .isFalse (by rintro rfl; exact h ⟨rfl, rfl, rfl⟩)
theorem Nod.ext' {a b : Nod} (h1 : a.op = b.op) (h2 : a.v = b.v) (h3 : a.a = b.a) : a = b := by cases a; cases b; simp_all
instance : DecidableEq Nod := fun a b => if h : a.op = b.op ∧ a.v = b.v ∧ a.a = b.a then .isTrue (Nod.ext' h.1 h.2.1 h.2.2) else .isFalse (by rintro rfl; exact h ⟨rfl, rfl, rfl⟩)
theorem Dut.ext' {a b : Dut} (h1 : a.on = b.on) (h2 : a.kind = b.kind) (h3 : a.arg = b.arg) : a = b := by cases a; cases b; simp_all
instance : DecidableEq Dut := fun a b => if h : a.on = b.on ∧ a.kind = b.kind ∧ a.arg = b.arg then .isTrue (Dut.ext' h.1 h.2.1 h.2.2) else .isFalse (by rintro rfl; exact h ⟨rfl, rfl, rfl⟩)

def holdsB (n : Nod) : Bool :=
 if n.op = 1 then decide n.v.right && decide (n.a = zeroA)
 else if n.op = 2 then decide (n.v = zeroV) && attrB n.a
 else decide (n.v = zeroV) && decide (n.a = zeroA)
def popX (op : Int) (st : List Bool) : Option (List Bool) :=
 if op = 1 then some (false :: st)
 else if op = 2 then some (true :: st)
 else if op = 3 ∨ op = 4 then (match st with | true :: r => some (false :: r) | _ => none)
 else if op = 5 then (match st with | false :: true :: r => some (false :: r) | _ => none)
 else if op = 11 then (match st with | false :: r => some (false :: r) | _ => none)
 else if op = 6 ∨ op = 7 ∨ op = 8 ∨ op = 9 ∨ op = 10 ∨ op = 12 ∨ op = 13 then (match st with | false :: false :: r => some (false :: r) | _ => none)
 else none
def hasP (p st : List Bool) : Bool := decide (st.take p.length = p)
def patX (op : Int) : Option (List Bool) :=
 if op = 1 ∨ op = 2 then some []
 else if op = 3 ∨ op = 4 then some [true]
 else if op = 5 then some [false, true]
 else if op = 11 then some [false]
 else if op = 6 ∨ op = 7 ∨ op = 8 ∨ op = 9 ∨ op = 10 ∨ op = 12 ∨ op = 13 then some [false, false]
 else none
def makesX (op : Int) : Bool := decide (op = 2)
theorem ops_cases (op : Int) : op = 1 ∨ op = 2 ∨ op = 3 ∨ op = 4 ∨ op = 5 ∨ op = 6 ∨ op = 7 ∨ op = 8 ∨ op = 9 ∨ op = 10 ∨ op = 11 ∨ op = 12 ∨ op = 13 ∨
  (op ≠ 1 ∧ op ≠ 2 ∧ op ≠ 3 ∧ op ≠ 4 ∧ op ≠ 5 ∧ op ≠ 6 ∧ op ≠ 7 ∧ op ≠ 8 ∧ op ≠ 9 ∧ op ≠ 10 ∧ op ≠ 11 ∧ op ≠ 12 ∧ op ≠ 13) := by omega
theorem popX_pat (op : Int) (st : List Bool) : popX op st = (match patX op with | none => none | some p => if hasP p st = true then some (makesX op :: st.drop p.length) else none) := by
 rcases ops_cases op with rfl | rfl | rfl | rfl | rfl | rfl | rfl | rfl | rfl | rfl | rfl | rfl | rfl | h
 case inr.inr.inr.inr.inr.inr.inr.inr.inr.inr.inr.inr.inr =>
  obtain ⟨h1, h2, h3, h4, h5, h6, h7, h8, h9, h10, h11, h12, h13⟩ := h
  simp [popX, patX, h1, h2, h3, h4, h5, h6, h7, h8, h9, h10, h11, h12, h13]
 all_goals
  rcases st with _ | ⟨_ | _, _ | ⟨_ | _, st⟩⟩ <;> simp [popX, patX, hasP, makesX]
theorem patX_len {op : Int} {p : List Bool} (h : patX op = some p) : p.length ≤ 2 := by
 unfold patX at h
 repeat' split at h
 all_goals (try cases h) <;> simp
def stepX (n : Nod) (st : List Bool) : Option (List Bool) := if holdsB n = true then popX n.op st else none
def runX : List Nod → List Bool → Option (List Bool)
 | [], st => some st
 | n :: l, st => (match stepX n st with | some st' => runX l st' | none => none)
def exprE (l : List Nod) : Int :=
 if 32 < l.length then 6 else (match runX l [] with | none => 1 | some st => if l = [] ∨ st = [false] then 0 else 1)

structure Seen where
 ids : List ByteArray
 n : Nat
def metB (x : ByteArray) (l : List ByteArray) : Bool := l.any fun y => decide (y = x)
def idS (x : ByteArray) (s : Seen) : Option Seen := if Named (bl x) ∧ metB x s.ids = false then some ⟨s.ids ++ [x], s.n⟩ else none
def orE (a b : Int) : Int := if a ≠ 0 then a else b
def ruleS (r : Rul) (s : Seen) : Int × Seen :=
 match idS r.id s with
 | none => (1, s)
 | some s1 => if 64 < s1.n + 1 then (6, ⟨s1.ids, s1.n + 1⟩) else (orE (tgE r.tg) (orE (exprE r.cond) (obE r.ob)), ⟨s1.ids, s1.n + 1⟩)
def firstS {α : Type} (f : α → Seen → Int × Seen) : List α → Seen → Int × Seen
 | [], s => (0, s)
 | x :: l, s => if (f x s).1 ≠ 0 then f x s else firstS f l (f x s).2
def fitsB (p : Pol) : Bool := decide (1 ≤ p.alg) && decide (p.alg ≤ 6) && if p.set = true then decide (p.rules.length = 0) else decide (p.kids.length = 0) && decide (p.alg ≠ 4)
def polS : Nat → Pol → Seen → Int × Seen
 | 0, p, s => (6, s)
 | d + 1, p, s =>
  match idS p.id s with
  | none => (1, s)
  | some s1 =>
   if fitsB p = false then (1, s1)
   else if orE (tgE p.tg) (obE p.ob) ≠ 0 then (orE (tgE p.tg) (obE p.ob), s1)
   else if 16 < p.rules.length ∨ 16 < p.kids.length then (6, s1)
   else if (firstS ruleS p.rules s1).1 ≠ 0 then firstS ruleS p.rules s1
   else firstS (polS d) p.kids (firstS ruleS p.rules s1).2
def rightE (p : Pol) : Int := (polS 4 p ⟨[], 0⟩).1
def rulesN (p : Pol) : Nat := (polS 4 p ⟨[], 0⟩).2.n
end Go.Proofs.YtmoglaknmlhpgaaGreatDoor
/- Names: the project's test. -/
namespace Go.Proofs.YtmoglaknmlhpgaaGreatDoor
set_option linter.unusedVariables false
open Go.RowKit

theorem data_at {s : ByteArray} {k : Nat} (h : k < s.size) : s.data.toList[k]? = some s[k] := by
 have hs : k < s.data.size := h
 rw [Array.getElem?_toList, Array.getElem?_eq_getElem hs]
 rfl
theorem data_len (s : ByteArray) : s.data.toList.length = s.size := by rw [Array.length_toList]; rfl

theorem okAt_of {k : Nat} {c : UInt8} (h : 97 ≤ c.toNat ∧ c.toNat ≤ 122 ∨ 0 < k ∧ (48 ≤ c.toNat ∧ c.toNat ≤ 57 ∨ c.toNat = 95)) : okAt k c = true := by
 simpa [okAt, lett, later] using h
theorem okAt_not {k : Nat} {c : UInt8} (h : ¬ (97 ≤ c.toNat ∧ c.toNat ≤ 122 ∨ 0 < k ∧ (48 ≤ c.toNat ∧ c.toNat ≤ 57 ∨ c.toNat = 95))) : okAt k c = false := by
 rw [← Bool.not_eq_true]
 intro h'
 exact h (by simpa [okAt, lett, later] using h')

def NameTo (l : List UInt8) (k : Nat) : Prop := ∀ j c, l[j]? = some c → j < k → okAt j c = true
theorem NameTo.step {l : List UInt8} {k : Nat} {c : UInt8} (h : NameTo l k) (hk : l[k]? = some c) (hb : okAt k c = true) : NameTo l (k + 1) := fun j d hj hjk => by
 by_cases e : j = k
 ·subst e
  obtain rfl := Option.some.inj (hk.symm.trans hj)
  exact hb
 ·exact h j d hj (by omega)
theorem NameTo.all {l : List UInt8} {n : Nat} (h : NameTo l n) (hn : l.length = n) : decide (Named l) = decide (1 ≤ n ∧ n ≤ 16) := by
 rw [decide_eq_decide]
 subst hn
 exact ⟨fun h => h.1, fun h1 => ⟨h1, fun j hj => h j _ (List.getElem?_eq_getElem hj) hj⟩⟩
theorem name_bad {l : List UInt8} {j : Nat} {c : UInt8} (h : l[j]? = some c) (hb : okAt j c = false) : decide (Named l) = false := by
 rw [decide_eq_false_iff_not]
 rintro ⟨_, ha⟩
 obtain ⟨hj, e⟩ := List.getElem?_eq_some_iff.1 h
 have := ha j hj
 rw [e, hb] at this
 cases this
theorem name_len {l : List UInt8} (h : l.length < 1 ∨ 16 < l.length) : decide (Named l) = false := by
 rw [decide_eq_false_iff_not]
 rintro ⟨h, _⟩
 omega

set_option maxHeartbeats 1600000 in
theorem name_any (s : ByteArray) (hs : s.size ≤ maxLen) (w : World) :
    Calls Tryz.prog 49 #[.string s] w fun e w' => e = .returned (.bool (decide (Named s.data.toList))) ∧ w' = w := by
  have hl := data_len s
  generalize hL : s.data.toList = l at *
  have HD : Hid (∀ k (h : k < s.size), l[k]? = some s[k]) := by
    show ∀ k (h : k < s.size), l[k]? = some s[k]
    subst hL; exact fun k h => data_at h
  have HL := Lib.hid hl
  unfold maxLen at hs
  clear hl hL
  by_cases h1 : s.size < 1
  · go_enter Tryz.func49, Tryz.ntmps49
    go_wp2_with fail
    go_ret
    exact ⟨ret_bool (name_len (by have := HL.out; omega)).symm, rfl⟩
  by_cases h2 : 16 < s.size
  · go_enter Tryz.func49, Tryz.ntmps49
    go_wp2_with fail
    go_ret
    exact ⟨ret_bool (name_len (by have := HL.out; omega)).symm, rfl⟩
  go_enter Tryz.func49, Tryz.ntmps49
  go_wp2_with fail
  go_loop [17] (fun i => ∃ k : Nat, k ≤ s.size ∧ i = .int .i64 k ∧ NameTo l k) (fun i => s.size - (intOf i).toNat)
  case atStart => exact ⟨0, Nat.zero_le _, rfl, fun j c h hj => by omega⟩
  case round =>
    obtain ⟨k, hk, rfl, ht⟩ := hrel
    have HT := Lib.hid ht
    clear ht
    by_cases hlt : k < s.size
    · have two : ∀ c : UInt8, ((c.toNat : Int) < 97 ∧ (c.toNat : Int) < 48 ∧ ((c.toNat : Int) == 95) = false) ∨ ((c.toNat : Int) < 97 ∧ (48 ≤ (c.toNat : Int) ∧ (c.toNat : Int) ≤ 57) ∧ ((c.toNat : Int) == 95) = false) ∨ ((c.toNat : Int) < 97 ∧ (48 ≤ (c.toNat : Int) ∧ 57 < (c.toNat : Int)) ∧ ((c.toNat : Int) == 95) = false) ∨
          ((c.toNat : Int) < 97 ∧ (48 ≤ (c.toNat : Int) ∧ 57 < (c.toNat : Int)) ∧ ((c.toNat : Int) == 95) = true) ∨ (122 < (c.toNat : Int) ∧ (48 ≤ (c.toNat : Int) ∧ 57 < (c.toNat : Int) ∧ 97 ≤ (c.toNat : Int)) ∧ ((c.toNat : Int) == 95) = false) ∨ ((97 ≤ (c.toNat : Int) ∧ (c.toNat : Int) ≤ 122) ∧ (48 ≤ (c.toNat : Int) ∧ 57 < (c.toNat : Int)) ∧ ((c.toNat : Int) == 95) = false) := fun c => by
        simp only [beq_iff_eq, beq_eq_false_iff_ne]; omega
      have hi : 0 ≤ (k : Int) ∧ (k : Int) < s.size := by omega
      have hc := HD.out k hlt
      rcases Nat.eq_zero_or_pos k with rfl | hpos
      · have two := two s[0]
        generalize hcc : s[0] = c at *
        have HC := Lib.hid hc
        clear hc
        rcases two with ⟨a, b, e⟩ | ⟨a, b, e⟩ | ⟨a, b, e⟩ | ⟨a, b, e⟩ | ⟨a, b, e⟩ | ⟨a, b, e⟩
        all_goals
          go_wp2_with fail
          all_goals simp only [beq_iff_eq, beq_eq_false_iff_ne] at e
          all_goals first
            | (exfalso; rename_i hh; revert hh; simp; omega)
            | (go_ret; exact ⟨ret_bool (name_bad HC.out (okAt_not (by omega))).symm, rfl⟩)
            | (go_round
               case rel => exact ⟨0 + 1, by omega, by go_num, HT.out.step HC.out (okAt_of (by omega))⟩
               case measure => simp [intOf]; omega)
      · have two := two s[k]
        generalize hcc : s[k] = c at *
        have HC := Lib.hid hc
        clear hc
        have hkn : ¬ k = 0 := by omega
        have hkz : ((k : Int) == 0) = false := by rw [beq_eq_false_iff_ne]; omega
        rcases two with ⟨a, b, e⟩ | ⟨a, b, e⟩ | ⟨a, b, e⟩ | ⟨a, b, e⟩ | ⟨a, b, e⟩ | ⟨a, b, e⟩
        all_goals
          go_wp2_with fail
          all_goals simp only [beq_iff_eq, beq_eq_false_iff_ne] at e
          all_goals first
            | (exfalso; rename_i hh; revert hh; simp; omega)
            | (go_ret; exact ⟨ret_bool (name_bad HC.out (okAt_not (by omega))).symm, rfl⟩)
            | (go_round
               case rel => exact ⟨k + 1, by omega, by go_num, HT.out.step HC.out (okAt_of (by omega))⟩
               case measure => simp [intOf]; omega)
    · obtain rfl : k = s.size := by omega
      go_wp2_with fail
      go_ret
      exact ⟨ret_bool ((HT.out.all HL.out).trans (decide_eq_true (by omega))).symm, rfl⟩

end Go.Proofs.YtmoglaknmlhpgaaGreatDoor
/- Which values are right, the project's test and the reference's; the laws' helpers. -/
namespace Go.Proofs.YtmoglaknmlhpgaaGreatDoor
set_option linter.unusedVariables false
open Go.RowKit

theorem rv1 {n : Int} {l : List UInt8} : RightV 1 n l ↔ l = [] ∧ (n = 0 ∨ n = 1) := by unfold RightV; simp
theorem rv2 {n : Int} {l : List UInt8} : RightV 2 n l ↔ l = [] := by unfold RightV; simp
theorem rv3 {n : Int} {l : List UInt8} : RightV 3 n l ↔ n = 0 ∧ l.length ≤ 64 := by unfold RightV; simp
theorem rv4 {n : Int} {l : List UInt8} : RightV 4 n l ↔ l = [] ∧ 0 ≤ n ∧ n ≤ 1099511627776 := by unfold RightV; simp
theorem rv5 {n : Int} {l : List UInt8} : RightV 5 n l ↔ n = 0 ∧ Named l := by unfold RightV; simp
theorem rv_none {k n : Int} {l : List UInt8} (h : k ≠ 1 ∧ k ≠ 2 ∧ k ≠ 3 ∧ k ≠ 4 ∧ k ≠ 5) : ¬ RightV k n l := by
 obtain ⟨h1, h2, h3, h4, h5⟩ := h
 unfold RightV; simp [h1, h2, h3, h4, h5]
theorem kind_cases (k : Int) : k = 1 ∨ k = 2 ∨ k = 3 ∨ k = 4 ∨ k = 5 ∨ (k ≠ 1 ∧ k ≠ 2 ∧ k ≠ 3 ∧ k ≠ 4 ∧ k ≠ 5) := by omega

set_option maxHeartbeats 3200000 in
theorem right_any (k n : Int) (s : ByteArray) (hs : s.size ≤ maxLen) (w : World) :
  Calls Tryz.prog 50 #[.agg #[.int .i64 k, .int .i64 n, .string s]] w fun e w' => e = .returned (.bool (decide (RightV k n s.data.toList))) ∧ Below w.heap.size w w' := by
 have hln := data_len s
 have hlt : s.toList = s.data.toList := ByteArray.toList_eq s
 have hname := name_any s hs
 generalize hL : s.data.toList = l at *
 have HN := Lib.hid hname
 have HL := Lib.hid hln
 clear hL hname hln
 unfold maxLen at hs
 rcases kind_cases k with rfl | rfl | rfl | rfl | rfl | hk
 ·go_enter Tryz.func50, Tryz.ntmps50
  go_wp2_with fail
  all_goals
   go_ret
   refine ⟨ret_bool ?_, (Below.refl _ _).alloc (Nat.le_refl _) _⟩
   rw [Bool.eq_iff_iff]
   simp [rv1, *]
 ·go_enter Tryz.func50, Tryz.ntmps50
  go_wp2_with fail
  all_goals
   go_ret
   refine ⟨ret_bool ?_, (Below.refl _ _).alloc (Nat.le_refl _) _⟩
   rw [Bool.eq_iff_iff]
   simp [rv2, *]
 ·go_enter Tryz.func50, Tryz.ntmps50
  go_wp2_with fail
  all_goals
   go_ret
   refine ⟨ret_bool ?_, (Below.refl _ _).alloc (Nat.le_refl _) _⟩
   rw [Bool.eq_iff_iff]
   simp [rv3, HL.out, *] <;> omega
 ·go_enter Tryz.func50, Tryz.ntmps50
  go_wp2_with fail
  all_goals
   go_ret
   refine ⟨ret_bool ?_, (Below.refl _ _).alloc (Nat.le_refl _) _⟩
   rw [Bool.eq_iff_iff]
   simp [rv4, *] <;> omega
 ·go_enter Tryz.func50, Tryz.ntmps50
  go_wp2_with (go_at_call 49; refine (HN.out _).mono ?_; rintro e w1 ⟨rfl, rfl⟩)
  all_goals
   go_ret
   refine ⟨ret_bool ?_, (Below.refl _ _).alloc (Nat.le_refl _) _⟩
   rw [Bool.eq_iff_iff]
   simp [rv5, *]
 ·have HK := Lib.hid hk
  go_enter Tryz.func50, Tryz.ntmps50
  go_wp2_with fail
  all_goals
   go_ret
   refine ⟨ret_bool ?_, (Below.refl _ _).alloc (Nat.le_refl _) _⟩
   exact (decide_eq_false (rv_none HK.out)).symm

end Go.Proofs.YtmoglaknmlhpgaaGreatDoor
/- Texts and names: the project's test. -/
namespace Go.Proofs.YtmoglaknmlhpgaaGreatDoor
set_option linter.unusedVariables false
open Go.RowKit

theorem inT_any (k : Int) (w : World) : Calls Tryz.prog 180 #[.int .i64 k] w fun e w' => e = .returned (.bool (inT k)) ∧ w = w' := by
 by_cases h3 : k = 3
 ·subst h3
  go_enter Tryz.func180, Tryz.ntmps180
  go_wp2_with fail
  go_ret
  exact ⟨rfl, rfl⟩
 ·have H3 := Lib.hid h3
  have h3' : (k == 3) = false := by rw [beq_eq_false_iff_ne]; exact h3
  by_cases h5 : k = 5
  ·subst h5
   go_enter Tryz.func180, Tryz.ntmps180
   go_wp2_with fail
   go_ret
   exact ⟨rfl, rfl⟩
  ·have H5 := Lib.hid h5
   have h5' : (k == 5) = false := by rw [beq_eq_false_iff_ne]; exact h5
   clear h3 h5
   go_enter Tryz.func180, Tryz.ntmps180
   go_wp2_with fail
   go_ret
   exact ⟨ret_bool (by unfold inT; rw [decide_eq_false H3.out, decide_eq_false H5.out]; rfl), rfl⟩

end Go.Proofs.YtmoglaknmlhpgaaGreatDoor
/- Names: the reference's test. -/
namespace Go.Proofs.YtmoglaknmlhpgaaGreatDoor
set_option linter.unusedVariables false
open Go.RowKit

end Go.Proofs.YtmoglaknmlhpgaaGreatDoor
/- Which values are right: the reference's test. -/
namespace Go.Proofs.YtmoglaknmlhpgaaGreatDoor
set_option linter.unusedVariables false
open Go.RowKit

end Go.Proofs.YtmoglaknmlhpgaaGreatDoor
/- Names: the project's test and the reference's. -/
/- Which values are right: the project's test and the reference's. -/
/- A value as Go has it, and in a block of its own. -/
namespace Go.Proofs.YtmoglaknmlhpgaaGreatDoor
set_option linter.unusedVariables false
open Go.RowKit

def Vl.val (v : Vl) : Value := .agg #[.int .i64 v.k, .int .i64 v.n, .string v.s]
def Vl.cells (v : Vl) : List Value := [.int .i64 v.k, .int .i64 v.n, .string v.s]

def Bx (w : World) (g : Nat) (k n : Int) (s : ByteArray) : Prop := Ob w g 31 #[.int .i64 k, .int .i64 n, .string s]
section
variable {w w' : World} {g : Nat} {k n : Int} {s : ByteArray}
theorem Bx.made (w : World) (k n : Int) (s : ByteArray) : Bx (w.alloc (.cells #[.int .i64 k, .int .i64 n, .string s] 31)) w.heap.size k n s := Ob.made _ _ _
theorem Bx.lt (h : Bx w g k n s) : g < w.heap.size := Ob.lt h
theorem Bx.alloc (h : Bx w g k n s) (o : Obj) : Bx (w.alloc o) g k n s := Ob.keep h (Below.heap_alloc w o g h.lt)
theorem Bx.then_ (h : Bx w g k n s) (hb : Below w.heap.size w w') : Bx w' g k n s := Ob.below h hb h.lt
theorem Bx.below {B : Nat} (h : Bx w g k n s) (hb : Below B w w') (hg : g < B) : Bx w' g k n s := Ob.below h hb hg
theorem Bx.only {r : Nat} (h : Bx w g k n s) (ho : Only r w w') (hg : g ≠ r) : Bx w' g k n s := Ob.keep h (ho.heap h.lt hg)
theorem Bx.drewN (h : Bx w g k n s) (j : Nat) : Bx (w.drewN j) g k n s := h
theorem Bx.c3 (h : Bx w g k n s) : w.cell? ⟨g, 0, none⟩ = some (.int .i64 k) ∧ w.cell? ⟨g, 1, none⟩ = some (.int .i64 n) ∧ w.cell? ⟨g, 2, none⟩ = some (.string s) := ⟨Ob.cell h 0, Ob.cell h 1, Ob.cell h 2⟩
theorem Bx.fz (h : Bx w g k n s) (i : Nat) : w.frozen? ⟨g, i, none⟩ = false := Ob.frozen h i
theorem Bx.setS (h : Bx w g k n s) (s' : ByteArray) : Bx (w.setCell ⟨g, 2, none⟩ (.string s')) g k n s' := by unfold Bx; simpa using Ob.put h 2 (.string s')
theorem Bx.setN (h : Bx w g k n s) (n' : Int) : Bx (w.setCell ⟨g, 1, none⟩ (.int .i64 n')) g k n' s := by unfold Bx; simpa using Ob.put h 1 (.int .i64 n')
end
end Go.Proofs.YtmoglaknmlhpgaaGreatDoor
/- Values held against each other by ==. -/
namespace Go.Proofs.YtmoglaknmlhpgaaGreatDoor
set_option linter.unusedVariables false
open Go.RowKit

def veq (a b : Vl) : Bool := decide (a = b)
theorem veq_true {a b : Vl} (h : a = b) : veq a b = true := decide_eq_true h
theorem veq_false {a b : Vl} (h : a ≠ b) : veq a b = false := decide_eq_false h
theorem val_eq (k n k' n' : Int) (s s' : ByteArray) (w : World) :
  (Op.equalIn 10000 31 (.agg #[.int .i64 k, .int .i64 n, .string s]) (.agg #[.int .i64 k', .int .i64 n', .string s'])).run Tryz.prog w = .ok (veq ⟨k, n, s⟩ ⟨k', n', s'⟩) w := by
 have u3 := Tryz.underlying3
 have a3 := Tryz.isAgg3
 have z3 := Tryz.sizeOf3
 have u9 := Tryz.underlying9
 have a9 := Tryz.isAgg9
 have z9 := Tryz.sizeOf9
 have hS : Tryz.prog.underlying 31 = some (.struct (Tryz.prog.fieldsOf 31)) := by kernel_rfl
 have hp : Tryz.prog.stoodInHeld 31 = false := by kernel_rfl
 rw [show (10000 : Nat) = 9999 + 1 from rfl, run_equalIn_agg w 9999 31 _ _ hS hp]
 simp only [Program.fieldsOf, Tryz.underlying31]
 go_simp
 have hts : (s.toList = s'.toList) = (s = s') := propext ⟨fun c => by
  have h : s.data.toList = s'.data.toList := by rw [← ByteArray.toList_eq, ← ByteArray.toList_eq]; exact c
  obtain ⟨⟨x⟩⟩ := s
  obtain ⟨⟨y⟩⟩ := s'
  simp_all, fun h => by rw [h]⟩
 simp only [hts]
 unfold veq
 by_cases h1 : k = k' <;> by_cases h2 : n = n' <;> by_cases h3 : s = s' <;> simp [h1, h2, h3]
end Go.Proofs.YtmoglaknmlhpgaaGreatDoor
