/- Several texts in one: Math, Mem, Arith, Made, VMath, PolMath, VNameV, VRightV, VInT, VRefName, VRefRight, VName, VRight, VBox, VEq, QTail, VGrown, OpenVal, Vals, VBag, AskMath, FunMath, VLess, FunSpec, PolMem, PolLeaf, PolCut, PolEq, PolHolds, PolExpr, PolEach, PolWalk, PolOr, PolRule, PolPol, PolSucc, PolRight, PolLit. -/
import Derived.WalkKit
import Derived.Test.YtadjfkgnoklmiaaRows
import Derived.Deep.Draws
import Derived.BigQuiet
import Derived.Deep.QuietTactic
import Derived.Lib.Hide
import Derived.Laws.CopyOwn
import Derived.Lib.AppendStr
import Derived.Deep.RegionWith
import Derived.Lib.ItoaNum
import Derived.Laws.StructEq
import Derived.Laws.Tables
import Derived.Laws.Cover2
import Derived.StillTail
import Derived.Lib.QuietBelow
import Derived.Lib.SmallJoins
import Derived.ProofKit
import Derived.OpenShut
import Derived.Deep.Slices
import Derived.Maps.OwnOps
import Derived.Maps.Views
/- The bytes of chapter 1's numbers as plain lists: enc (what is written), dec (what is read), zig and zag (the sign in the lowest bit). No Go, no program: plain mathematics. -/
namespace Go.Proofs.Ytadjfkgnoklmiaa

def enc (u : Nat) : List UInt8 := if u < 128 then [UInt8.ofNat u] else UInt8.ofNat (u % 128 + 128) :: enc (u / 128)
termination_by u
decreasing_by omega

theorem ofNat_toNat {u : Nat} (h : u < 256) : (UInt8.ofNat u).toNat = u := by simp; omega

end Go.Proofs.Ytadjfkgnoklmiaa
/- Words for memory: a slice that reads as a row of cells (Sl), an object of known cells (Ob), and how both are kept. -/
namespace Go.Proofs.Ytadjfkgnoklmiaa
open Go.RowKit

def bv (l : List UInt8) : List Value := l.map fun c => Value.int .u8 (c.toNat : Int)
theorem bv_len (l : List UInt8) : (bv l).length = l.length := by simp [bv]
theorem bv_app (l m : List UInt8) : bv (l ++ m) = bv l ++ bv m := by simp [bv]
def Sl (w : World) (B : Nat) (A : Option Addr) (n c : Nat) (xs : List Value) : Prop :=
  xs.length = n ∧ n ≤ c ∧ c ≤ maxLen ∧ (n = 0 ∨ ∃ b o, A = some ⟨b, o, none⟩ ∧ b < B ∧ ∀ j u, xs[j]? = some u → w.cell? ⟨b, o + j, none⟩ = some u)

section
variable {w w' : World} {B B' n c : Nat} {A : Option Addr} {xs : List Value}
theorem Sl.len (h : Sl w B A n c xs) : xs.length = n := h.1
theorem Sl.le (h : Sl w B A n c xs) : n ≤ c := h.2.1
theorem Sl.cap (h : Sl w B A n c xs) : c ≤ maxLen := h.2.2.1
theorem Sl.nil_ (w : World) (B : Nat) : Sl w B none 0 0 [] := ⟨rfl, Nat.le_refl _, by simp [maxLen], .inl rfl⟩
theorem Sl.keep (h : Sl w B A n c xs) (hk : ∀ k, k < B → w'.heap[k]? = w.heap[k]?) : Sl w' B A n c xs := by
  obtain ⟨h1, h2, h3, h4⟩ := h
  refine ⟨h1, h2, h3, ?_⟩
  rcases h4 with h4 | ⟨b, o, e, hb, hc⟩
  · exact .inl h4
  · exact .inr ⟨b, o, e, hb, fun j u hu => (World.cell?_of_block (hk b hb)).trans (hc j u hu)⟩
theorem Sl.more (h : Sl w B A n c xs) (hB : B ≤ B') : Sl w B' A n c xs := by
  obtain ⟨h1, h2, h3, h4⟩ := h
  refine ⟨h1, h2, h3, ?_⟩
  rcases h4 with h4 | ⟨b, o, e, hb, hc⟩
  · exact .inl h4
  · exact .inr ⟨b, o, e, by omega, hc⟩
theorem Sl.below (h : Sl w B A n c xs) (hb : Below B w w') : Sl w' B A n c xs := h.keep hb.block
theorem Sl.drewN (h : Sl w B A n c xs) (k : Nat) : Sl (w.drewN k) B A n c xs := h.keep fun _ _ => rfl
theorem Sl.at_ (h : Sl w B A n c xs) {k : Nat} (hk : k < n) : ∃ b o u, A = some ⟨b, o, none⟩ ∧ b < B ∧ xs[k]? = some u ∧ w.cell? ⟨b, o + k, none⟩ = some u := by
  obtain ⟨h1, h2, h3, h4⟩ := h
  rcases h4 with h4 | ⟨b, o, e, hb, hc⟩
  · omega
  · have hl : k < xs.length := by omega
    exact ⟨b, o, xs[k], e, hb, List.getElem?_eq_getElem hl, hc k _ (List.getElem?_eq_getElem hl)⟩
theorem Sl.take (h : Sl w B A n c xs) {k : Nat} (hk : k ≤ n) : Sl w B A k c (xs.take k) := by
  obtain ⟨h1, h2, h3, h4⟩ := h
  refine ⟨by rw [List.length_take]; omega, by omega, h3, ?_⟩
  rcases h4 with h4 | ⟨b, o, e, hb, hc⟩
  · left; omega
  · refine .inr ⟨b, o, e, hb, fun j u hu => hc j u ?_⟩
    rw [List.getElem?_take] at hu
    split at hu
    · exact hu
    · cases hu
theorem Sl.drop (h : Sl w B A n c xs) {k : Nat} (hk : k ≤ n) : Sl w B (if c = k then A else A.map (·.add k)) (n - k) (c - k) (xs.drop k) := by
  obtain ⟨h1, h2, h3, h4⟩ := h
  refine ⟨by rw [List.length_drop]; omega, by omega, by omega, ?_⟩
  rcases h4 with h4 | ⟨b, o, e, hb, hc⟩
  · left; omega
  · by_cases hn : n = k
    · left; omega
    · right
      subst e
      rw [if_neg (by omega)]
      refine ⟨b, o + k, ?_, hb, fun j u hu => ?_⟩
      · by_cases hk0 : k = 0 <;> simp [Addr.add, hk0]
      · rw [Nat.add_assoc]
        exact hc (k + j) u (by rw [← hu, List.getElem?_drop])
theorem Sl.of_own {base e : Nat} (h : w.ownsRow base e 1 (.slice A n c) n xs) : Sl w w.heap.size A n c xs := by
  have hl := h.1
  rcases h.2 with ⟨hv, hn⟩ | ⟨g, cap, cur, hv, hb, hg, hnc, hcm, hcs, ht⟩
  · injection hv with h1 h2 h3
    subst h1 h2 h3
    exact ⟨by simpa using hl, Nat.le_refl _, by simp [maxLen], .inl rfl⟩
  · injection hv with h1 h2 h3
    subst h1 h3
    refine ⟨by simpa using hl, hnc, hcm, .inr ⟨g, 0, rfl, ?_, fun j u hu => ?_⟩⟩
    · rcases Nat.lt_or_ge g w.heap.size with hlt | hge
      · exact hlt
      · rw [Array.getElem?_eq_none hge] at hg; cases hg
    · have := h.cells (g := g) rfl j u hu
      by_cases hj : j = 0
      · subst hj; simpa [Addr.add] using this
      · simpa [Addr.add, hj] using this
end

def Ob (w : World) (g : Nat) (t : TypeId) (cs : Array Value) : Prop := w.heap[g]? = some (.cells cs t (0, 0))
section
variable {w w' : World} {g : Nat} {t : TypeId} {cs : Array Value}
theorem Ob.lt (h : Ob w g t cs) : g < w.heap.size := by
  rcases Nat.lt_or_ge g w.heap.size with hlt | hge
  · exact hlt
  · unfold Ob at h; rw [Array.getElem?_eq_none hge] at h; cases h
theorem Ob.cell (h : Ob w g t cs) (i : Nat) : w.cell? ⟨g, i, none⟩ = cs[i]? := cell_of_row w g i cs t (0, 0) h
theorem Ob.frozen (h : Ob w g t cs) (i : Nat) : w.frozen? ⟨g, i, none⟩ = false := by unfold Ob at h; simp [World.frozen?, h]
theorem Ob.made (w : World) (t : TypeId) (cs : Array Value) : Ob (w.alloc (.cells cs t)) w.heap.size t cs := heap_alloc_new w _
theorem Ob.keep (h : Ob w g t cs) (hk : w'.heap[g]? = w.heap[g]?) : Ob w' g t cs := hk.trans h
theorem Ob.below {B : Nat} (h : Ob w g t cs) (hb : Below B w w') (hg : g < B) : Ob w' g t cs := h.keep (hb.block g hg)
theorem Ob.put (h : Ob w g t cs) (i : Nat) (u : Value) : Ob (w.setCell ⟨g, i, none⟩ u) g t (cs.setIfInBounds i u) := by
  unfold Ob at h ⊢
  simp [World.setCell, Array.getElem?_modify, h]
end

def Only (r : Nat) (w w' : World) : Prop := w.grownBy w' (some r)
section
variable {r : Nat} {w w' w'' : World}
theorem Only.refl : Only r w w := ⟨rfl, rfl, rfl, Nat.le_refl _, fun _ _ _ => rfl⟩
theorem Only.heap (h : Only r w w') {k : Nat} (hk : k < w.heap.size) (hr : k ≠ r) : w'.heap[k]? = w.heap[k]? := h.block k hk (fun e => hr (by injection e))
theorem Only.le (h : Only r w w') : w.heap.size ≤ w'.heap.size := h.size
theorem Only.trans (h : Only r w w') (k : Only r w' w'') : Only r w w'' :=
  ⟨k.os.trans h.os, k.tape.trans h.tape, k.output.trans h.output, Nat.le_trans h.size k.size, fun i hi hn => (k.block i (Nat.lt_of_lt_of_le hi h.size) hn).trans (h.block i hi hn)⟩
theorem Only.drewN (h : Only r w w') (n : Nat) : Only r w (w'.drewN n) := ⟨h.os, h.tape, h.output, h.size, h.block⟩
theorem Only.of_below (h : Below w.heap.size w w') : Only r w w' := ⟨h.os, h.tape, h.output, h.size, fun k hk _ => h.block k hk⟩
theorem Only.setCell (h : Only r w w') {p : Addr} (hp : p.block = r) (u : Value) : Only r w (w'.setCell p u) :=
  ⟨h.os, h.tape, h.output, by simpa [World.setCell] using h.size, fun i hi hne => (Below.heap_setCell w' p u i (by rw [hp]; rintro rfl; exact hne rfl)).trans (h.block i hi hne)⟩
theorem Only.below {B : Nat} (h : Only r w w') (hB : B ≤ w.heap.size) (hr : B ≤ r) : Below B w w' :=
  ⟨h.os, h.tape, h.output, h.size, fun k hk => h.heap (by omega) (by omega)⟩
end

theorem below_drewN {B : Nat} {a w : World} (h : Below B a w) (n : Nat) : Below B a (w.drewN n) := ⟨h.os, h.tape, h.output, h.size, h.block⟩
theorem ret_bool {a b : Bool} (h : a = b) : Ending.returned (.bool a) = .returned (.bool b) := by rw [h]
theorem ret_int {k : IntKind} {a b : Int} (h : a = b) : Ending.returned (.int k a) = .returned (.int k b) := by rw [h]

end Go.Proofs.Ytadjfkgnoklmiaa
/- Go's operations on numbers as plain arithmetic, and append and copy as equations on one run, over the words of XMem. -/
namespace Go.Proofs.Ytadjfkgnoklmiaa
open Go.RowKit

theorem one_byte (x : Int) : (Value.int .u8 x).oneCell' = true := rfl
section
variable {P : Program} {T E : TypeId} {i : TypeInfo}

theorem append_one (ht : P.underlying T = some (.slice E)) (hi : P.info? E = some i) (hz : i.zero = some (.int .u8 0)) (hs : i.size = 1) (hb : i.bytes = 1)
    {w : World} {base n c ty : Nat} {A : Option Addr} {xs : List Value} (h : w.ownsRow base E 1 (.slice A n c) n xs) (hn : n ≤ 140737488355327) (hbase : base ≤ w.heap.size) (x : Int) :
    ∃ A' c' w', (Builtin.append_ #[T, T] ty #[.slice A n c, .slice (some ⟨w.heap.size, 0, none⟩) 1 1]).run P (w.alloc (.cells #[.int .u8 x] E)) = .ok (.slice A' (n + 1) c') w' ∧
      w'.ownsRow base E 1 (.slice A' (n + 1) c') (n + 1) (xs ++ [.int .u8 x]) ∧ Below base w w' := by
  obtain ⟨v', w', hrun, h2, h3, h4⟩ := run_append_own (P := P) (w.alloc (.cells #[.int .u8 x] E)) base T ty E i (.int .u8 0) 1 1 ht hi hz hs hb rfl (by omega) (.slice A n c) n xs (h.alloc _)
    ⟨w.heap.size, 0, none⟩ 1 1 [.int .u8 x] rfl (by
      intro j u hu
      match j, hu with
      | 0, hu => simp at hu; subst hu; simp [Addr.add, World.cell?_alloc_at]
      | j + 1, hu => simp at hu) (by simp [one_byte]) (by unfold maxLen; omega) (by omega) (by simp; omega)
  have hform : ∃ A' c', v' = .slice A' (n + 1) c' := by
    rcases h2.2 with ⟨_, hz⟩ | ⟨g, cap, cur, hv, _⟩
    · omega
    · exact ⟨_, _, hv⟩
  obtain ⟨A', c', rfl⟩ := hform
  refine ⟨A', c', w', hrun, h2, ?_⟩
  refine ((Below.refl base w).alloc hbase _).grown h3 (by simp; omega) (fun k hk => ?_)
  exact (h.lt k hk).1

theorem append_nil_src (ht : P.underlying T = some (.slice E)) (hi : P.info? E = some i) {w : World} {base n c ty : Nat} {size : Nat} {v : Value} {xs : List Value} (h : w.ownsRow base E size v n xs) :
    (Builtin.append_ #[T, T] ty #[v, .slice none 0 c]).run P w = .ok v w := by
  rcases h.2 with ⟨rfl, rfl⟩ | ⟨g, cap, cur, rfl, _, _, hnc, _⟩
  · simp [Builtin.append_, run_underlying ht, sizeOf, typeInfo, hi, Builtin.lenOf, Builtin.firstCells]
  · simp [Builtin.append_, run_underlying ht, sizeOf, typeInfo, hi, Builtin.lenOf, Builtin.firstCells, hnc, storeCells]

end

theorem wpList_append_run {P : Program} {w w' : World} {ops : Array Oper} {rest : List Oper} {o : Oper} {a : Act} {Q : Exit → Act → World → Prop} (hgd : o.guard = none) (s x : Operand) (t u : TypeId)
    (ho : o.op = .call { callee := .builtin .append, args := #[s, x], argTypes := #[t, u] }) {sv xv v' : Value} (hs : a.eval s = sv) (hx : a.eval x = xv)
    (hrun : (Builtin.append_ #[t, u] o.type #[sv, xv]).run P w = .ok v' w') (h : wpList P ops Q rest (a.put o.dst v') w') : wpList P ops Q (o :: rest) a w := by
  refine wpList_plain hgd fun K hK => ?_
  unfold Oper.wp execOp
  simp only [ho, resolve, invoke, builtin, Sem.run_bind, Sem.run_pure, Result.andThen_ok, List.map_toArray, List.map_cons, List.map_nil, hs, hx, hrun]
  exact hK _ _ h
end Go.Proofs.Ytadjfkgnoklmiaa
/- Small facts of new memory and of numbers that come in (any types). -/
namespace Go.Proofs.Ytadjfkgnoklmiaa
open Go.RowKit

theorem wf_bounds {a : Int} (h : (Lit.int .i64 a).wf = true) : -9223372036854775808 ≤ a ∧ a ≤ 9223372036854775807 := by
  simp only [Lit.wf, Bool.and_eq_true, decide_eq_true_eq] at h
  exact h
theorem Sl.then_ {w w' : World} {n c : Nat} {A : Option Addr} {xs : List Value} (h : Sl w w.heap.size A n c xs) (hb : Below w.heap.size w w') : Sl w' w'.heap.size A n c xs := (h.below hb).more hb.size
theorem below_step {w a b : World} (h1 : Below w.heap.size w a) (h2 : Below a.heap.size a b) : Below w.heap.size w b := h1.trans (h2.mono h1.size)
theorem Sl.lit (w : World) (t : TypeId) (cs : List Value) (n : Nat) (hn : cs.length = n) (h63 : n ≤ maxLen) : Sl (w.alloc (.cells cs.toArray t)) (w.heap.size + 1) (some ⟨w.heap.size, 0, none⟩) n n cs := by
  refine ⟨hn, Nat.le_refl _, h63, .inr ⟨w.heap.size, 0, rfl, by omega, fun j u hu => ?_⟩⟩
  have := (Ob.made w t cs.toArray).cell j
  rw [Nat.zero_add, this]
  simpa using hu
theorem Below.lit {w w' : World} {o : Obj} (h : Below (w.alloc o).heap.size (w.alloc o) w') : Below w.heap.size w w' := ((Below.refl _ w).alloc (Nat.le_refl _) o).trans (h.mono (by simp))
theorem Sl.lit_keep {w : World} {B n c : Nat} {A : Option Addr} {xs : List Value} (h : Sl w B A n c xs) (hB : B ≤ w.heap.size) (o : Obj) : Sl (w.alloc o) B A n c xs := h.keep fun k hk => Below.heap_alloc w o k (by omega)
theorem size_al (w : World) (o : Obj) : (w.alloc o).heap.size = w.heap.size + 1 := by simp
theorem step_append_run {P : Program} {ops : Array Oper} {o : Oper} {a : Act} {w w' : World} {K : Act → World → Prop} {Q : Exit → Act → World → Prop} {E : Prop}
    (hg : o.guard = none) (s x : Operand) (t u : TypeId) (hop : o.op = Op.call { callee := Callee.builtin Builtin.append, args := #[s, x], argTypes := #[t, u] })
    {sv xv v' : Value} (hs : a.eval s = sv) (hx : a.eval x = xv) (hrun : (Builtin.append_ #[t, u] o.type #[sv, xv]).run P w = .ok v' w') (hK : K (a.put o.dst v') w') :
    if Region.wanted o (yielded ops a.tmps) = true then Oper.wp P o a w K Q else E := by
  have hw : Region.wanted o (yielded ops a.tmps) = true := by simp [Region.wanted, hg]
  rw [if_pos hw]
  unfold Oper.wp
  simp [execOp, hop, resolve, invoke, builtin, hs, hx, hrun, Result.andThen]
  exact hK
end Go.Proofs.Ytadjfkgnoklmiaa
/- Values, plainly: which are right, how they stand, their bytes and their texts. -/
namespace Go.Proofs.Ytadjfkgnoklmiaa
set_option linter.unusedVariables false

def lett (c : UInt8) : Bool := decide (97 ≤ c.toNat) && decide (c.toNat ≤ 122)
def later (c : UInt8) : Bool := decide (48 ≤ c.toNat) && decide (c.toNat ≤ 57) || decide (c.toNat = 95)
def okAt (j : Nat) (c : UInt8) : Bool := lett c || decide (0 < j) && later c

def Named (l : List UInt8) : Prop := (1 ≤ l.length ∧ l.length ≤ 16) ∧ ∀ j (h : j < l.length), okAt j l[j] = true
instance (l : List UInt8) : Decidable (Named l) := by unfold Named; infer_instance

def RightV (k n : Int) (l : List UInt8) : Prop :=
  k = 1 ∧ l = [] ∧ (n = 0 ∨ n = 1) ∨ k = 2 ∧ l = [] ∨ k = 3 ∧ n = 0 ∧ l.length ≤ 64 ∨ k = 4 ∧ l = [] ∧ 0 ≤ n ∧ n ≤ 1099511627776 ∨ k = 5 ∧ n = 0 ∧ Named l
instance (k n : Int) (l : List UInt8) : Decidable (RightV k n l) := by unfold RightV; infer_instance

structure Vl where
  k : Int
  n : Int
  s : ByteArray
def Vl.l (v : Vl) : List UInt8 := v.s.data.toList
def Vl.right (v : Vl) : Prop := RightV v.k v.n v.l
instance (v : Vl) : Decidable v.right := by unfold Vl.right; infer_instance
theorem Vl.ext' {a b : Vl} (h1 : a.k = b.k) (h2 : a.n = b.n) (h3 : a.l = b.l) : a = b := by
  obtain ⟨k, n, s⟩ := a
  obtain ⟨k', n', s'⟩ := b
  obtain ⟨⟨x⟩⟩ := s
  obtain ⟨⟨y⟩⟩ := s'
  simp_all [Vl.l]
instance : DecidableEq Vl := fun a b => if h : a.k = b.k ∧ a.n = b.n ∧ a.l = b.l then .isTrue (Vl.ext' h.1 h.2.1 h.2.2) else .isFalse (by rintro rfl; exact h ⟨rfl, rfl, rfl⟩)
def Vl.ok (v : Vl) : Prop := (-9223372036854775808 ≤ v.k ∧ v.k ≤ 9223372036854775807) ∧ (-9223372036854775808 ≤ v.n ∧ v.n ≤ 9223372036854775807) ∧ v.s.size ≤ maxLen

def odd8 (c : UInt8) : Bool := decide (c.toNat < 32) || decide (126 < c.toNat) || decide (c.toNat = 34) || decide (c.toNat = 92)
end Go.Proofs.Ytadjfkgnoklmiaa
/- Policies, plainly: what they are of (chapter 8), and which are right. -/
namespace Go.Proofs.Ytadjfkgnoklmiaa
set_option linter.unusedVariables false

def InI (n : Int) : Prop := -9223372036854775808 ≤ n ∧ n ≤ 9223372036854775807

structure Atr where
  cat : Int
  name : ByteArray
  must : Bool
structure Mat where
  a : Atr
  op : Int
  v : Vl
structure Nod where
  op : Int
  v : Vl
  a : Atr
structure Dut where
  on : Int
  kind : Int
  arg : ByteArray
abbrev Tgt := List (List (List Mat))
structure Rul where
  id : ByteArray
  deny : Bool
  tg : Tgt
  cond : List Nod
  ob : List Dut
inductive Pol where
  | mk (id : ByteArray) (set : Bool) (alg : Int) (tg : Tgt) (rules : List Rul) (kids : List Pol) (ob : List Dut)
def Pol.id : Pol → ByteArray | .mk a _ _ _ _ _ _ => a
def Pol.set : Pol → Bool | .mk _ a _ _ _ _ _ => a
def Pol.alg : Pol → Int | .mk _ _ a _ _ _ _ => a
def Pol.tg : Pol → Tgt | .mk _ _ _ a _ _ _ => a
def Pol.rules : Pol → List Rul | .mk _ _ _ _ a _ _ => a
def Pol.kids : Pol → List Pol | .mk _ _ _ _ _ a _ => a
def Pol.ob : Pol → List Dut | .mk _ _ _ _ _ _ a => a

def Atr.ok (a : Atr) : Prop := InI a.cat ∧ a.name.size ≤ maxLen
def Mat.ok (m : Mat) : Prop := m.a.ok ∧ InI m.op ∧ m.v.ok
def Nod.ok (n : Nod) : Prop := InI n.op ∧ n.v.ok ∧ n.a.ok
def Dut.ok (o : Dut) : Prop := InI o.on ∧ InI o.kind ∧ o.arg.size ≤ maxLen

instance (n : Int) : Decidable (InI n) := by unfold InI; infer_instance
instance (v : Vl) : Decidable v.ok := by unfold Vl.ok; infer_instance
instance (a : Atr) : Decidable a.ok := by unfold Atr.ok; infer_instance
instance (m : Mat) : Decidable m.ok := by unfold Mat.ok; infer_instance
instance (n : Nod) : Decidable n.ok := by unfold Nod.ok; infer_instance
instance (o : Dut) : Decidable o.ok := by unfold Dut.ok; infer_instance

def bl (s : ByteArray) : List UInt8 := s.data.toList

def firstE {α : Type} (f : α → Int) : List α → Int
  | [] => 0
  | x :: l => if f x ≠ 0 then f x else firstE f l
def FineTo {α : Type} (f : α → Int) (l : List α) (k : Nat) : Prop := ∀ j x, l[j]? = some x → j < k → f x = 0
theorem FineTo.zero {α : Type} (f : α → Int) (l : List α) : FineTo f l 0 := fun j x _ h => by omega
theorem FineTo.step {α : Type} {f : α → Int} {l : List α} {k : Nat} {x : α} (h : FineTo f l k) (hx : l[k]? = some x) (h0 : f x = 0) : FineTo f l (k + 1) := fun j y hy hj => by
  by_cases e : j = k
  · subst e
    obtain rfl := Option.some.inj (hx.symm.trans hy)
    exact h0
  · exact h j y hy (by omega)
theorem FineTo.tail {α : Type} {f : α → Int} {x : α} {l : List α} {k : Nat} (h : FineTo f (x :: l) (k + 1)) : f x = 0 ∧ FineTo f l k :=
  ⟨h 0 x rfl (by omega), fun j y hy hj => h (j + 1) y (by simpa using hy) (by omega)⟩
theorem FineTo.all {α : Type} {f : α → Int} : ∀ {l : List α} {n : Nat}, FineTo f l n → l.length = n → firstE f l = 0
  | [], _, _, _ => rfl
  | x :: l, 0, h, hn => by simp at hn
  | x :: l, n + 1, h, hn => by
    obtain ⟨h0, h1⟩ := h.tail
    simp only [firstE, h0, ne_eq, not_true, if_false]
    exact h1.all (by simpa using hn)
theorem FineTo.err {α : Type} {f : α → Int} : ∀ {l : List α} {k : Nat} {x : α}, FineTo f l k → l[k]? = some x → f x ≠ 0 → firstE f l = f x
  | [], _, _, _, hx, _ => by simp at hx
  | y :: l, 0, x, _, hx, h0 => by
    simp at hx
    subst hx
    simp [firstE, h0]
  | y :: l, k + 1, x, h, hx, h0 => by
    obtain ⟨h1, h2⟩ := h.tail
    simp only [firstE, h1, ne_eq, not_true, if_false]
    exact h2.err (by simpa using hx) h0

def attrB (a : Atr) : Bool := decide (1 ≤ a.cat) && decide (a.cat ≤ 4) && decide (Named (bl a.name))
def matE (m : Mat) : Int := if attrB m.a = true ∧ 1 ≤ m.op ∧ m.op ≤ 3 ∧ m.v.right then 0 else 1
def partsE (n : Nat) : Int := if n = 0 then 1 else if 8 < n then 6 else 0
def allE (l : List Mat) : Int := if partsE l.length ≠ 0 then partsE l.length else firstE matE l
def anyE (l : List (List Mat)) : Int := if partsE l.length ≠ 0 then partsE l.length else firstE allE l
def tgE (t : Tgt) : Int := if 8 < t.length then 6 else firstE anyE t
def dutE (o : Dut) : Int := if (o.on = 1 ∨ o.on = 2) ∧ 1 ≤ o.kind ∧ o.kind ≤ 4 ∧ Named (bl o.arg) then 0 else 1
def obE (l : List Dut) : Int := if 8 < l.length then 6 else firstE dutE l

def zeroV : Vl := ⟨0, 0, ByteArray.empty⟩
def zeroA : Atr := ⟨0, ByteArray.empty, false⟩
theorem text_eq {a b : ByteArray} (h : bl a = bl b) : a = b := by
  obtain ⟨⟨x⟩⟩ := a
  obtain ⟨⟨y⟩⟩ := b
  simp_all [bl]
instance textDec : DecidableEq ByteArray := fun a b => if h : bl a = bl b then .isTrue (text_eq h) else .isFalse (by rintro rfl; exact h rfl)
theorem Atr.ext' {a b : Atr} (h1 : a.cat = b.cat) (h2 : a.name = b.name) (h3 : a.must = b.must) : a = b := by
  cases a; cases b; simp_all
instance : DecidableEq Atr := fun a b => if h : a.cat = b.cat ∧ bl a.name = bl b.name ∧ a.must = b.must then .isTrue (Atr.ext' h.1 (text_eq h.2.1) h.2.2) else .isFalse (by rintro rfl; exact h ⟨rfl, rfl, rfl⟩)

theorem Mat.ext' {a b : Mat} (h1 : a.a = b.a) (h2 : a.op = b.op) (h3 : a.v = b.v) : a = b := by cases a; cases b; simp_all
instance : DecidableEq Mat := fun a b => if h : a.a = b.a ∧ a.op = b.op ∧ a.v = b.v then .isTrue (Mat.ext' h.1 h.2.1 h.2.2) else .isFalse (by rintro rfl; exact h ⟨rfl, rfl, rfl⟩)
theorem Nod.ext' {a b : Nod} (h1 : a.op = b.op) (h2 : a.v = b.v) (h3 : a.a = b.a) : a = b := by cases a; cases b; simp_all
instance : DecidableEq Nod := fun a b => if h : a.op = b.op ∧ a.v = b.v ∧ a.a = b.a then .isTrue (Nod.ext' h.1 h.2.1 h.2.2) else .isFalse (by rintro rfl; exact h ⟨rfl, rfl, rfl⟩)
theorem Dut.ext' {a b : Dut} (h1 : a.on = b.on) (h2 : a.kind = b.kind) (h3 : a.arg = b.arg) : a = b := by cases a; cases b; simp_all
instance : DecidableEq Dut := fun a b => if h : a.on = b.on ∧ a.kind = b.kind ∧ a.arg = b.arg then .isTrue (Dut.ext' h.1 h.2.1 h.2.2) else .isFalse (by rintro rfl; exact h ⟨rfl, rfl, rfl⟩)

def holdsB (n : Nod) : Bool :=
  if n.op = 1 then decide n.v.right && decide (n.a = zeroA)
  else if n.op = 2 then decide (n.v = zeroV) && attrB n.a
  else decide (n.v = zeroV) && decide (n.a = zeroA)
def popX (op : Int) (st : List Bool) : Option (List Bool) :=
  if op = 1 then some (false :: st)
  else if op = 2 then some (true :: st)
  else if op = 3 ∨ op = 4 then (match st with | true :: r => some (false :: r) | _ => none)
  else if op = 5 then (match st with | false :: true :: r => some (false :: r) | _ => none)
  else if op = 11 then (match st with | false :: r => some (false :: r) | _ => none)
  else if op = 6 ∨ op = 7 ∨ op = 8 ∨ op = 9 ∨ op = 10 ∨ op = 12 ∨ op = 13 then (match st with | false :: false :: r => some (false :: r) | _ => none)
  else none
def hasP (p st : List Bool) : Bool := decide (st.take p.length = p)
def patX (op : Int) : Option (List Bool) :=
  if op = 1 ∨ op = 2 then some []
  else if op = 3 ∨ op = 4 then some [true]
  else if op = 5 then some [false, true]
  else if op = 11 then some [false]
  else if op = 6 ∨ op = 7 ∨ op = 8 ∨ op = 9 ∨ op = 10 ∨ op = 12 ∨ op = 13 then some [false, false]
  else none
def makesX (op : Int) : Bool := decide (op = 2)
theorem ops_cases (op : Int) : op = 1 ∨ op = 2 ∨ op = 3 ∨ op = 4 ∨ op = 5 ∨ op = 6 ∨ op = 7 ∨ op = 8 ∨ op = 9 ∨ op = 10 ∨ op = 11 ∨ op = 12 ∨ op = 13 ∨
    (op ≠ 1 ∧ op ≠ 2 ∧ op ≠ 3 ∧ op ≠ 4 ∧ op ≠ 5 ∧ op ≠ 6 ∧ op ≠ 7 ∧ op ≠ 8 ∧ op ≠ 9 ∧ op ≠ 10 ∧ op ≠ 11 ∧ op ≠ 12 ∧ op ≠ 13) := by omega
theorem popX_pat (op : Int) (st : List Bool) : popX op st = (match patX op with | none => none | some p => if hasP p st = true then some (makesX op :: st.drop p.length) else none) := by
  rcases ops_cases op with rfl | rfl | rfl | rfl | rfl | rfl | rfl | rfl | rfl | rfl | rfl | rfl | rfl | h
  case inr.inr.inr.inr.inr.inr.inr.inr.inr.inr.inr.inr.inr =>
    obtain ⟨h1, h2, h3, h4, h5, h6, h7, h8, h9, h10, h11, h12, h13⟩ := h
    simp [popX, patX, h1, h2, h3, h4, h5, h6, h7, h8, h9, h10, h11, h12, h13]
  all_goals
    rcases st with _ | ⟨_ | _, _ | ⟨_ | _, st⟩⟩ <;> simp [popX, patX, hasP, makesX]
theorem patX_len {op : Int} {p : List Bool} (h : patX op = some p) : p.length ≤ 2 := by
  unfold patX at h
  repeat' split at h
  all_goals (try cases h) <;> simp
def stepX (n : Nod) (st : List Bool) : Option (List Bool) := if holdsB n = true then popX n.op st else none
def runX : List Nod → List Bool → Option (List Bool)
  | [], st => some st
  | n :: l, st => (match stepX n st with | some st' => runX l st' | none => none)
def exprE (l : List Nod) : Int :=
  if 32 < l.length then 6 else (match runX l [] with | none => 1 | some st => if l = [] ∨ st = [false] then 0 else 1)

structure Seen where
  ids : List ByteArray
  n : Nat
def metB (x : ByteArray) (l : List ByteArray) : Bool := l.any fun y => decide (y = x)
def idS (x : ByteArray) (s : Seen) : Option Seen := if Named (bl x) ∧ metB x s.ids = false then some ⟨s.ids ++ [x], s.n⟩ else none
def orE (a b : Int) : Int := if a ≠ 0 then a else b
def ruleS (r : Rul) (s : Seen) : Int × Seen :=
  match idS r.id s with
  | none => (1, s)
  | some s1 => if 64 < s1.n + 1 then (6, ⟨s1.ids, s1.n + 1⟩) else (orE (tgE r.tg) (orE (exprE r.cond) (obE r.ob)), ⟨s1.ids, s1.n + 1⟩)
def firstS {α : Type} (f : α → Seen → Int × Seen) : List α → Seen → Int × Seen
  | [], s => (0, s)
  | x :: l, s => if (f x s).1 ≠ 0 then f x s else firstS f l (f x s).2
def fitsB (p : Pol) : Bool := decide (1 ≤ p.alg) && decide (p.alg ≤ 6) && if p.set = true then decide (p.rules.length = 0) else decide (p.kids.length = 0) && decide (p.alg ≠ 4)
def polS : Nat → Pol → Seen → Int × Seen
  | 0, p, s => (6, s)
  | d + 1, p, s =>
    match idS p.id s with
    | none => (1, s)
    | some s1 =>
      if fitsB p = false then (1, s1)
      else if orE (tgE p.tg) (obE p.ob) ≠ 0 then (orE (tgE p.tg) (obE p.ob), s1)
      else if 16 < p.rules.length ∨ 16 < p.kids.length then (6, s1)
      else if (firstS ruleS p.rules s1).1 ≠ 0 then firstS ruleS p.rules s1
      else firstS (polS d) p.kids (firstS ruleS p.rules s1).2
def rightE (p : Pol) : Int := (polS 4 p ⟨[], 0⟩).1
def rulesN (p : Pol) : Nat := (polS 4 p ⟨[], 0⟩).2.n
end Go.Proofs.Ytadjfkgnoklmiaa
/- Names: the project's test. -/
namespace Go.Proofs.Ytadjfkgnoklmiaa
set_option linter.unusedVariables false
open Go.RowKit

theorem data_at {s : ByteArray} {k : Nat} (h : k < s.size) : s.data.toList[k]? = some s[k] := by
  have hs : k < s.data.size := h
  rw [Array.getElem?_toList, Array.getElem?_eq_getElem hs]
  rfl
theorem data_len (s : ByteArray) : s.data.toList.length = s.size := by rw [Array.length_toList]; rfl

theorem okAt_of {k : Nat} {c : UInt8} (h : 97 ≤ c.toNat ∧ c.toNat ≤ 122 ∨ 0 < k ∧ (48 ≤ c.toNat ∧ c.toNat ≤ 57 ∨ c.toNat = 95)) : okAt k c = true := by
  simpa [okAt, lett, later] using h
theorem okAt_not {k : Nat} {c : UInt8} (h : ¬ (97 ≤ c.toNat ∧ c.toNat ≤ 122 ∨ 0 < k ∧ (48 ≤ c.toNat ∧ c.toNat ≤ 57 ∨ c.toNat = 95))) : okAt k c = false := by
  rw [← Bool.not_eq_true]
  intro h'
  exact h (by simpa [okAt, lett, later] using h')

def NameTo (l : List UInt8) (k : Nat) : Prop := ∀ j c, l[j]? = some c → j < k → okAt j c = true
theorem NameTo.step {l : List UInt8} {k : Nat} {c : UInt8} (h : NameTo l k) (hk : l[k]? = some c) (hb : okAt k c = true) : NameTo l (k + 1) := fun j d hj hjk => by
  by_cases e : j = k
  · subst e
    obtain rfl := Option.some.inj (hk.symm.trans hj)
    exact hb
  · exact h j d hj (by omega)
theorem NameTo.all {l : List UInt8} {n : Nat} (h : NameTo l n) (hn : l.length = n) : decide (Named l) = decide (1 ≤ n ∧ n ≤ 16) := by
  rw [decide_eq_decide]
  subst hn
  exact ⟨fun h => h.1, fun h1 => ⟨h1, fun j hj => h j _ (List.getElem?_eq_getElem hj) hj⟩⟩
theorem name_bad {l : List UInt8} {j : Nat} {c : UInt8} (h : l[j]? = some c) (hb : okAt j c = false) : decide (Named l) = false := by
  rw [decide_eq_false_iff_not]
  rintro ⟨_, ha⟩
  obtain ⟨hj, e⟩ := List.getElem?_eq_some_iff.1 h
  have := ha j hj
  rw [e, hb] at this
  cases this
theorem name_len {l : List UInt8} (h : l.length < 1 ∨ 16 < l.length) : decide (Named l) = false := by
  rw [decide_eq_false_iff_not]
  rintro ⟨h, _⟩
  omega

set_option maxHeartbeats 1600000 in
theorem name_any (s : ByteArray) (hs : s.size ≤ maxLen) (w : World) :
    Calls Try.prog 60 #[.string s] w fun e w' => e = .returned (.bool (decide (Named s.data.toList))) ∧ w' = w := by
  have hl := data_len s
  generalize hL : s.data.toList = l at *
  have HD : Hid (∀ k (h : k < s.size), l[k]? = some s[k]) := by
    show ∀ k (h : k < s.size), l[k]? = some s[k]
    subst hL; exact fun k h => data_at h
  have HL := Lib.hid hl
  unfold maxLen at hs
  clear hl hL
  by_cases h1 : s.size < 1
  · go_enter Try.func60, Try.ntmps60
    go_wp2_with fail
    go_ret
    exact ⟨ret_bool (name_len (by have := HL.out; omega)).symm, rfl⟩
  by_cases h2 : 16 < s.size
  · go_enter Try.func60, Try.ntmps60
    go_wp2_with fail
    go_ret
    exact ⟨ret_bool (name_len (by have := HL.out; omega)).symm, rfl⟩
  go_enter Try.func60, Try.ntmps60
  go_wp2_with fail
  go_loop [17] (fun i => ∃ k : Nat, k ≤ s.size ∧ i = .int .i64 k ∧ NameTo l k) (fun i => s.size - (intOf i).toNat)
  case atStart => exact ⟨0, Nat.zero_le _, rfl, fun j c h hj => by omega⟩
  case round =>
    obtain ⟨k, hk, rfl, ht⟩ := hrel
    have HT := Lib.hid ht
    clear ht
    by_cases hlt : k < s.size
    · have two : ∀ c : UInt8, ((c.toNat : Int) < 97 ∧ (c.toNat : Int) < 48 ∧ ((c.toNat : Int) == 95) = false) ∨ ((c.toNat : Int) < 97 ∧ (48 ≤ (c.toNat : Int) ∧ (c.toNat : Int) ≤ 57) ∧ ((c.toNat : Int) == 95) = false) ∨ ((c.toNat : Int) < 97 ∧ (48 ≤ (c.toNat : Int) ∧ 57 < (c.toNat : Int)) ∧ ((c.toNat : Int) == 95) = false) ∨
          ((c.toNat : Int) < 97 ∧ (48 ≤ (c.toNat : Int) ∧ 57 < (c.toNat : Int)) ∧ ((c.toNat : Int) == 95) = true) ∨ (122 < (c.toNat : Int) ∧ (48 ≤ (c.toNat : Int) ∧ 57 < (c.toNat : Int) ∧ 97 ≤ (c.toNat : Int)) ∧ ((c.toNat : Int) == 95) = false) ∨ ((97 ≤ (c.toNat : Int) ∧ (c.toNat : Int) ≤ 122) ∧ (48 ≤ (c.toNat : Int) ∧ 57 < (c.toNat : Int)) ∧ ((c.toNat : Int) == 95) = false) := fun c => by
        simp only [beq_iff_eq, beq_eq_false_iff_ne]; omega
      have hi : 0 ≤ (k : Int) ∧ (k : Int) < s.size := by omega
      have hc := HD.out k hlt
      rcases Nat.eq_zero_or_pos k with rfl | hpos
      · have two := two s[0]
        generalize hcc : s[0] = c at *
        have HC := Lib.hid hc
        clear hc
        rcases two with ⟨a, b, e⟩ | ⟨a, b, e⟩ | ⟨a, b, e⟩ | ⟨a, b, e⟩ | ⟨a, b, e⟩ | ⟨a, b, e⟩
        all_goals
          go_wp2_with fail
          all_goals simp only [beq_iff_eq, beq_eq_false_iff_ne] at e
          all_goals first
            | (exfalso; rename_i hh; revert hh; simp; omega)
            | (go_ret; exact ⟨ret_bool (name_bad HC.out (okAt_not (by omega))).symm, rfl⟩)
            | (go_round
               case rel => exact ⟨0 + 1, by omega, by go_num, HT.out.step HC.out (okAt_of (by omega))⟩
               case measure => simp [intOf]; omega)
      · have two := two s[k]
        generalize hcc : s[k] = c at *
        have HC := Lib.hid hc
        clear hc
        have hkn : ¬ k = 0 := by omega
        have hkz : ((k : Int) == 0) = false := by rw [beq_eq_false_iff_ne]; omega
        rcases two with ⟨a, b, e⟩ | ⟨a, b, e⟩ | ⟨a, b, e⟩ | ⟨a, b, e⟩ | ⟨a, b, e⟩ | ⟨a, b, e⟩
        all_goals
          go_wp2_with fail
          all_goals simp only [beq_iff_eq, beq_eq_false_iff_ne] at e
          all_goals first
            | (exfalso; rename_i hh; revert hh; simp; omega)
            | (go_ret; exact ⟨ret_bool (name_bad HC.out (okAt_not (by omega))).symm, rfl⟩)
            | (go_round
               case rel => exact ⟨k + 1, by omega, by go_num, HT.out.step HC.out (okAt_of (by omega))⟩
               case measure => simp [intOf]; omega)
    · obtain rfl : k = s.size := by omega
      go_wp2_with fail
      go_ret
      exact ⟨ret_bool ((HT.out.all HL.out).trans (decide_eq_true (by omega))).symm, rfl⟩

end Go.Proofs.Ytadjfkgnoklmiaa
/- Which values are right, the project's test and the reference's; the laws' helpers. -/
namespace Go.Proofs.Ytadjfkgnoklmiaa
set_option linter.unusedVariables false
open Go.RowKit

theorem rv1 {n : Int} {l : List UInt8} : RightV 1 n l ↔ l = [] ∧ (n = 0 ∨ n = 1) := by unfold RightV; simp
theorem rv2 {n : Int} {l : List UInt8} : RightV 2 n l ↔ l = [] := by unfold RightV; simp
theorem rv3 {n : Int} {l : List UInt8} : RightV 3 n l ↔ n = 0 ∧ l.length ≤ 64 := by unfold RightV; simp
theorem rv4 {n : Int} {l : List UInt8} : RightV 4 n l ↔ l = [] ∧ 0 ≤ n ∧ n ≤ 1099511627776 := by unfold RightV; simp
theorem rv5 {n : Int} {l : List UInt8} : RightV 5 n l ↔ n = 0 ∧ Named l := by unfold RightV; simp
theorem rv_none {k n : Int} {l : List UInt8} (h : k ≠ 1 ∧ k ≠ 2 ∧ k ≠ 3 ∧ k ≠ 4 ∧ k ≠ 5) : ¬ RightV k n l := by
  obtain ⟨h1, h2, h3, h4, h5⟩ := h
  unfold RightV; simp [h1, h2, h3, h4, h5]
theorem kind_cases (k : Int) : k = 1 ∨ k = 2 ∨ k = 3 ∨ k = 4 ∨ k = 5 ∨ (k ≠ 1 ∧ k ≠ 2 ∧ k ≠ 3 ∧ k ≠ 4 ∧ k ≠ 5) := by omega

set_option maxHeartbeats 3200000 in
theorem right_any (k n : Int) (s : ByteArray) (hs : s.size ≤ maxLen) (w : World) :
    Calls Try.prog 95 #[.agg #[.int .i64 k, .int .i64 n, .string s]] w fun e w' => e = .returned (.bool (decide (RightV k n s.data.toList))) ∧ Below w.heap.size w w' := by
  have hln := data_len s
  have hlt : s.toList = s.data.toList := ByteArray.toList_eq s
  have hname := name_any s hs
  generalize hL : s.data.toList = l at *
  have HN := Lib.hid hname
  have HL := Lib.hid hln
  clear hL hname hln
  unfold maxLen at hs
  rcases kind_cases k with rfl | rfl | rfl | rfl | rfl | hk
  · go_enter Try.func95, Try.ntmps95
    go_wp2_with fail
    all_goals
      go_ret
      refine ⟨ret_bool ?_, (Below.refl _ _).alloc (Nat.le_refl _) _⟩
      rw [Bool.eq_iff_iff]
      simp [rv1, *]
  · go_enter Try.func95, Try.ntmps95
    go_wp2_with fail
    all_goals
      go_ret
      refine ⟨ret_bool ?_, (Below.refl _ _).alloc (Nat.le_refl _) _⟩
      rw [Bool.eq_iff_iff]
      simp [rv2, *]
  · go_enter Try.func95, Try.ntmps95
    go_wp2_with fail
    all_goals
      go_ret
      refine ⟨ret_bool ?_, (Below.refl _ _).alloc (Nat.le_refl _) _⟩
      rw [Bool.eq_iff_iff]
      simp [rv3, HL.out, *] <;> omega
  · go_enter Try.func95, Try.ntmps95
    go_wp2_with fail
    all_goals
      go_ret
      refine ⟨ret_bool ?_, (Below.refl _ _).alloc (Nat.le_refl _) _⟩
      rw [Bool.eq_iff_iff]
      simp [rv4, *] <;> omega
  · go_enter Try.func95, Try.ntmps95
    go_wp2_with (go_at_call 60; refine (HN.out _).mono ?_; rintro e w1 ⟨rfl, rfl⟩)
    all_goals
      go_ret
      refine ⟨ret_bool ?_, (Below.refl _ _).alloc (Nat.le_refl _) _⟩
      rw [Bool.eq_iff_iff]
      simp [rv5, *]
  · have HK := Lib.hid hk
    go_enter Try.func95, Try.ntmps95
    go_wp2_with fail
    all_goals
      go_ret
      refine ⟨ret_bool ?_, (Below.refl _ _).alloc (Nat.le_refl _) _⟩
      exact (decide_eq_false (rv_none HK.out)).symm

end Go.Proofs.Ytadjfkgnoklmiaa
/- Texts and names: the project's test. -/
namespace Go.Proofs.Ytadjfkgnoklmiaa
set_option linter.unusedVariables false
open Go.RowKit

end Go.Proofs.Ytadjfkgnoklmiaa
/- Names: the reference's test. -/
namespace Go.Proofs.Ytadjfkgnoklmiaa
set_option linter.unusedVariables false
open Go.RowKit

end Go.Proofs.Ytadjfkgnoklmiaa
/- Which values are right: the reference's test. -/
namespace Go.Proofs.Ytadjfkgnoklmiaa
set_option linter.unusedVariables false
open Go.RowKit

end Go.Proofs.Ytadjfkgnoklmiaa
/- Names: the project's test and the reference's. -/
/- Which values are right: the project's test and the reference's. -/
/- A value as Go has it, and in a block of its own. -/
namespace Go.Proofs.Ytadjfkgnoklmiaa
set_option linter.unusedVariables false
open Go.RowKit

def Vl.val (v : Vl) : Value := .agg #[.int .i64 v.k, .int .i64 v.n, .string v.s]
def Vl.cells (v : Vl) : List Value := [.int .i64 v.k, .int .i64 v.n, .string v.s]

def Bx (w : World) (g : Nat) (k n : Int) (s : ByteArray) : Prop := Ob w g 37 #[.int .i64 k, .int .i64 n, .string s]
section
variable {w w' : World} {g : Nat} {k n : Int} {s : ByteArray}
theorem Bx.made (w : World) (k n : Int) (s : ByteArray) : Bx (w.alloc (.cells #[.int .i64 k, .int .i64 n, .string s] 37)) w.heap.size k n s := Ob.made _ _ _
theorem Bx.lt (h : Bx w g k n s) : g < w.heap.size := Ob.lt h
theorem Bx.alloc (h : Bx w g k n s) (o : Obj) : Bx (w.alloc o) g k n s := Ob.keep h (Below.heap_alloc w o g h.lt)
theorem Bx.then_ (h : Bx w g k n s) (hb : Below w.heap.size w w') : Bx w' g k n s := Ob.below h hb h.lt
theorem Bx.below {B : Nat} (h : Bx w g k n s) (hb : Below B w w') (hg : g < B) : Bx w' g k n s := Ob.below h hb hg
theorem Bx.only {r : Nat} (h : Bx w g k n s) (ho : Only r w w') (hg : g ≠ r) : Bx w' g k n s := Ob.keep h (ho.heap h.lt hg)
theorem Bx.drewN (h : Bx w g k n s) (j : Nat) : Bx (w.drewN j) g k n s := h
theorem Bx.c3 (h : Bx w g k n s) : w.cell? ⟨g, 0, none⟩ = some (.int .i64 k) ∧ w.cell? ⟨g, 1, none⟩ = some (.int .i64 n) ∧ w.cell? ⟨g, 2, none⟩ = some (.string s) := ⟨Ob.cell h 0, Ob.cell h 1, Ob.cell h 2⟩
theorem Bx.fz (h : Bx w g k n s) (i : Nat) : w.frozen? ⟨g, i, none⟩ = false := Ob.frozen h i
theorem Bx.setS (h : Bx w g k n s) (s' : ByteArray) : Bx (w.setCell ⟨g, 2, none⟩ (.string s')) g k n s' := by unfold Bx; simpa using Ob.put h 2 (.string s')
theorem Bx.setN (h : Bx w g k n s) (n' : Int) : Bx (w.setCell ⟨g, 1, none⟩ (.int .i64 n')) g k n' s := by unfold Bx; simpa using Ob.put h 1 (.int .i64 n')
end
end Go.Proofs.Ytadjfkgnoklmiaa
/- Values held against each other by ==. -/
namespace Go.Proofs.Ytadjfkgnoklmiaa
set_option linter.unusedVariables false
open Go.RowKit

def veq (a b : Vl) : Bool := decide (a = b)
end Go.Proofs.Ytadjfkgnoklmiaa
/- A region that draws its order, ends in a forced row of operations (stores), and ahead of them only reads and calls that lay new memory: walked once, in the order of the text; the tail is walked as any list, in every world of the class. -/
namespace Go.Proofs.Ytadjfkgnoklmiaa
open Go Go.RowKit Go.Sort

section
variable {P : Program} {ops : Array Oper} {md : Region.Mode} {C : World → Prop}

def HeadQ (P : Program) (md : Region.Mode) (ops : Array Oper) (C : World → Prop) (n : Nat) (L : Array Bool → Act → Prop) : Nat → Array Bool → Act → Prop
  | 0, listed, a => L listed a
  | f + 1, listed, a => Region.ready md ops listed ≠ [] ∧ ∀ i ∈ Region.ready md ops listed, i < n ∧ qOp P ops C i (HeadQ P md ops C n L f (listed.setIfInBounds i true)) a

theorem HeadQ.any {n g : Nat} {L : Array Bool → Act → Prop} {Q : Exit → Act → World → Prop} (hL : ∀ listed a w, C w → L listed a → wpAny P md ops Q g listed a w) :
    ∀ (f : Nat) (listed : Array Bool) (a : Act) (w : World), C w → HeadQ P md ops C n L f listed a → wpAny P md ops Q (f + g) listed a w
  | 0, _, _, _, hw, h => by rw [Nat.zero_add]; exact hL _ _ _ hw h
  | f + 1, _, _, _, hw, h => by
    rw [show f + 1 + g = (f + g) + 1 by omega]
    exact ⟨fun h0 => absurd h0 h.1, fun i hi => wpOp_of_qOp hw (fun a' w' hw' h' => HeadQ.any hL f _ a' w' hw' h') (h.2 i hi).2⟩

theorem HeadQ.first {n i : Nat} {oi : Oper} {v : Value} {L : Array Bool → Act → Prop} (hi : ops[i]? = some oi) (hsel : ∀ (j : Nat) (o : Oper) cs b, ops[j]? = some o → o.op ≠ .select cs b)
    (hs : Region.sinkB md ops n = true) (hc : Region.chainB md ops n = true) (hn : n < ops.size) (hin : i < n) (hdone : ∀ listed a, L listed a → ∀ j ∈ Region.ready md ops listed, n ≤ j) :
    ∀ (f : Nat) (listed : Array Bool) (a : Act), HeadInv md ops n listed →
      (∀ j oj, ops[j]? = some oj → j ≠ i → listed.getD j true = false → (∀ e ∈ oj.after, Region.binds md e = true → e.on ≠ i) → oi.apart ops oj = true) →
      i ∈ Region.ready md ops listed → YieldsIn P ops C oi v a → HeadQ P md ops C n L f (listed.setIfInBounds i true) (a.put oi.dst v) → HeadQ P md ops C n L (f + 1) listed a := by
  intro f
  induction f with
  | zero =>
    intro listed a inv _ hr hy H
    refine ⟨fun h => (by rw [h] at hr; cases hr), fun j hj => ?_⟩
    have hjn : j < n := Nat.lt_of_not_le fun h => tail_waits hs hc hn inv _ i rfl hin (mem_ready.1 hr).1 j h hj
    refine ⟨hjn, ?_⟩
    by_cases hji : j = i
    · subst hji; exact hy.qOp hi H
    · have := hdone _ _ H j (ready_mono hj hji)
      omega
  | succ f ih =>
    intro listed a inv hfree hr hy H
    have hun := (mem_ready.1 hr).1
    refine ⟨fun h => (by rw [h] at hr; cases hr), fun j hj => ?_⟩
    have hjn : j < n := Nat.lt_of_not_le fun h => tail_waits hs hc hn inv _ i rfl hin hun j h hj
    refine ⟨hjn, ?_⟩
    by_cases hji : j = i
    · subst hji; exact hy.qOp hi H
    · have h1 := (H.2 j (ready_mono hj hji)).2
      obtain ⟨hjun, oj, hoj, hall⟩ := mem_ready.1 hj
      have hnot : ∀ e ∈ oj.after, Region.binds md e = true → e.on ≠ i := fun e he hb heq => by
        have h1 := hall e he hb
        rw [heq, getD_both hun] at h1
        cases h1
      have h2 := qOp_put hoj (hfree j oj hoj hji hjun hnot) (fun cs b => hsel i oi cs b hi) (fun cs b => hsel j oj cs b hoj) hy h1
      refine qOp_mono (fun a' h3 => ih (listed.setIfInBounds j true) a' (inv.set hj hjn) ?_ (ready_mono hr (Ne.symm hji)) h3.1 ?_) h2
      · intro k ok hk hki hun' hno
        refine hfree k ok hk hki ?_ hno
        by_cases hjk : j = k
        · subst hjk; exact hjun
        · rw [getD_set_ne true hjk] at hun'; exact hun'
      · rw [Array.setIfInBounds_comm _ _ hji]
        exact h3.2

theorem HeadQ.lex {n g : Nat} {Lq : Act → Prop} (hsel : Region.noSelect ops = true) (hs : Region.sinkB md ops n = true) (hc : Region.chainB md ops n = true) (hn : n < ops.size) :
    ∀ (l : List Oper) (k : Nat) (listed : Array Bool) (a : Act), (∀ j, j < l.length → l[j]? = ops[k + j]?) → k + l.length = n → HeadInv md ops n listed →
    Region.lexHead md ops g l.length k listed = true → wpQuiet P ops C Lq l a → HeadQ P md ops C n (fun listed' a' => Region.seqB md ops g n listed' = true ∧ Lq a') l.length listed a
  | [], k, listed, a, _, hk, _, hB, h => by
    have : k = n := by simpa using hk
    subst this
    exact ⟨by simpa [Region.lexHead] using hB, h⟩
  | o :: l, k, listed, a, hl, hk, inv, hB, h => by
    have h0 : ops[k]? = some o := by simpa using (hl 0 (by simp)).symm
    simp only [List.length_cons, Region.lexHead, Bool.and_eq_true] at hB
    obtain ⟨⟨hr, hf⟩, hB'⟩ := hB
    have hkn : k < n := by simp only [List.length_cons] at hk; omega
    have hr' : k ∈ Region.ready md ops listed := by simpa using hr
    have hst : qOp P ops C k (wpQuiet P ops C Lq l) a := by unfold qOp; simp only [h0]; exact h
    obtain ⟨v, hy, hK⟩ := yieldsIn_of_qOp h0 hst
    exact HeadQ.first h0 (Region.noSelect_spec hsel) hs hc hn hkn (fun listed' a' hL => seqB_ready hL.1) l.length listed a inv (Region.free_spec h0 hf) hr' hy
      (HeadQ.lex hsel hs hc hn l (k + 1) _ _ (fun j hj => by have := hl (j + 1) (by simp; omega); simpa [Nat.add_assoc, Nat.add_comm 1 j] using this) (by simp only [List.length_cons] at hk; omega) (inv.set hr' hkn) hB' hK)

theorem wp_region_quiet_tail {id : Nat} {Q : Exit → Act → World → Prop} {a : Act} {w : World} {l : List Oper} (n : Nat) (hm : P.follows .mixedOrders = true) (hB : Region.lexTailB .any l.toArray n = true) (hC : C { w with drawn := w.drawn + 1 })
    (h : wpQuiet P l.toArray C (fun a' => ∀ w', C w' → wpList P l.toArray Q (l.drop n) a' w') (l.take n) a) : (Code.region id l.toArray true).wp P Q a w := by
  simp only [Region.lexTailB, Bool.and_eq_true, decide_eq_true_eq] at hB
  obtain ⟨⟨⟨⟨hsel, hn⟩, hs⟩, hc⟩, hlex⟩ := hB
  have hn' : n < l.length := by simpa using hn
  have htl : (l.take n).length = n := by simp; omega
  have hdl : (l.drop n).length = l.toArray.size - n := by simp
  have inv0 : HeadInv .any l.toArray n (Array.replicate l.toArray.size false) :=
    ⟨by simp, fun j oj _ hl => (by rw [getD_replicate_false] at hl; cases hl), fun t _ ht => getD_in (by simpa using ht) (getD_replicate_false _ _)⟩
  have H := HeadQ.lex (md := .any) (g := l.toArray.size - n) hsel hs hc hn (l.take n) 0 _ a (fun j hj => by
    have hj' : j < n := by rw [htl] at hj; exact hj
    simp [hj']) (by simpa using htl) inv0 (by rw [htl]; exact hlex) h
  refine wp_region_any hm ?_
  have := HeadQ.any (Q := Q) (g := l.toArray.size - n) (fun listed a' w' hw' hL => by
    have := wpAny_of_seq (md := .any) (Q' := Q) (l.drop n) n listed a' w' (fun j => by simp [List.getElem?_drop]) (by rw [hdl]; exact hL.1) (hL.2 w' hw')
    rwa [hdl] at this) _ _ _ _ hC H
  rw [htl, show n + (l.toArray.size - n) = l.toArray.size by omega] at this
  exact this

theorem wp_region_below_tail {id : Nat} {Q : Exit → Act → World → Prop} {a : Act} {w : World} {l : List Oper} (n : Nat) (hm : P.follows .mixedOrders = true) (hB : Region.lexTailB .any l.toArray n = true)
    (h : wpQuiet P l.toArray (fun w' => ∃ p : Regrown, w' = grow (redrawn w p.d) p.os) (fun a' => ∀ w', (∃ p : Regrown, w' = grow (redrawn w p.d) p.os) → wpList P l.toArray Q (l.drop n) a' w') (l.take n) a) : (Code.region id l.toArray true).wp P Q a w :=
  wp_region_quiet_tail n hm hB ⟨⟨w.drawn + 1, #[]⟩, by rw [grow_empty]; rfl⟩ h
end
end Go.Proofs.Ytadjfkgnoklmiaa
/- A value in its block, in worlds that have but grown. -/
namespace Go.Proofs.Ytadjfkgnoklmiaa
open Go.RowKit Go.Sort

theorem Bx.grown {w : World} {g : Nat} {k n : Int} {s : ByteArray} (h : Bx w g k n s) : (∀ d os, (grow (redrawn w d) os).cell? ⟨g, 0, none⟩ = some (.int .i64 k)) ∧ (∀ d os, (grow (redrawn w d) os).cell? ⟨g, 1, none⟩ = some (.int .i64 n)) ∧ ∀ d os, (grow (redrawn w d) os).cell? ⟨g, 2, none⟩ = some (.string s) :=
  ⟨fun d os => cell_regrown h.c3.1 d os, fun d os => cell_regrown h.c3.2.1 d os, fun d os => cell_regrown h.c3.2.2 d os⟩
end Go.Proofs.Ytadjfkgnoklmiaa
/- Values that come in. -/
namespace Go.Proofs.Ytadjfkgnoklmiaa
set_option linter.unusedVariables false
open Go.RowKit Go.ChangeShapes Go.WideShapes

end Go.Proofs.Ytadjfkgnoklmiaa
/- Lists of values: bags. -/
namespace Go.Proofs.Ytadjfkgnoklmiaa
set_option linter.unusedVariables false
open Go.RowKit Go.Sort

def Vs (w : World) (B : Nat) (A : Option Addr) (n c : Nat) (l : List Vl) : Prop :=
  l.length = n ∧ n ≤ c ∧ c ≤ maxLen ∧ (n = 0 ∨ ∃ b o, A = some ⟨b, o, none⟩ ∧ b < B ∧ ∀ j v, l[j]? = some v → w.cell? ⟨b, o + j * 3, none⟩ = some (.int .i64 v.k) ∧ w.cell? ⟨b, o + j * 3 + 1, none⟩ = some (.int .i64 v.n) ∧ w.cell? ⟨b, o + j * 3 + 2, none⟩ = some (.string v.s)) ∧ ∀ v ∈ l, v.ok
section
variable {w w' : World} {B B' n c : Nat} {A : Option Addr} {l : List Vl}
theorem Vs.keep (h : Vs w B A n c l) (hk : ∀ k, k < B → w'.heap[k]? = w.heap[k]?) : Vs w' B A n c l := by
  obtain ⟨h1, h2, h3, h4, h5⟩ := h
  refine ⟨h1, h2, h3, ?_, h5⟩
  rcases h4 with h4 | ⟨b, o, e, hb, hc⟩
  · exact .inl h4
  · refine .inr ⟨b, o, e, hb, fun j v hv => ?_⟩
    obtain ⟨a1, a2, a3⟩ := hc j v hv
    exact ⟨(World.cell?_of_block (hk b hb)).trans a1, (World.cell?_of_block (hk b hb)).trans a2, (World.cell?_of_block (hk b hb)).trans a3⟩
theorem Vs.below (h : Vs w B A n c l) (hb : Below B w w') : Vs w' B A n c l := h.keep hb.block
theorem Vs.more (h : Vs w B A n c l) (hB : B ≤ B') : Vs w B' A n c l := by
  obtain ⟨h1, h2, h3, h4, h5⟩ := h
  refine ⟨h1, h2, h3, ?_, h5⟩
  rcases h4 with h4 | ⟨b, o, e, hb, hc⟩
  · exact .inl h4
  · exact .inr ⟨b, o, e, by omega, hc⟩
theorem Vs.then_ (h : Vs w w.heap.size A n c l) (hb : Below w.heap.size w w') : Vs w' w'.heap.size A n c l := (h.below hb).more hb.size
theorem Vs.at_ (h : Vs w B A n c l) {k : Nat} (hk : k < n) : ∃ b o v, A = some ⟨b, o, none⟩ ∧ b < B ∧ l[k]? = some v ∧ v.ok ∧ w.cell? ⟨b, o + k * 3, none⟩ = some (.int .i64 v.k) ∧ w.cell? ⟨b, o + k * 3 + 1, none⟩ = some (.int .i64 v.n) ∧ w.cell? ⟨b, o + k * 3 + 2, none⟩ = some (.string v.s) := by
  obtain ⟨h1, h2, h3, h4, h5⟩ := h
  rcases h4 with h4 | ⟨b, o, e, hb, hc⟩
  · omega
  · have hl : k < l.length := by omega
    exact ⟨b, o, l[k], e, hb, List.getElem?_eq_getElem hl, h5 _ (List.getElem_mem hl), hc k _ (List.getElem?_eq_getElem hl)⟩
theorem Vs.take (h : Vs w B A n c l) {k : Nat} (hk : k ≤ n) : Vs w B A k c (l.take k) := by
  obtain ⟨h1, h2, h3, h4, h5⟩ := h
  refine ⟨by rw [List.length_take]; omega, by omega, h3, ?_, fun v hv => h5 v (List.mem_of_mem_take hv)⟩
  rcases h4 with h4 | ⟨b, o, e, hb, hc⟩
  · left; omega
  · refine .inr ⟨b, o, e, hb, fun j u hu => hc j u ?_⟩
    rw [List.getElem?_take] at hu
    split at hu
    · exact hu
    · cases hu
theorem Vs.drop (h : Vs w B A n c l) {k : Nat} (hk : k ≤ n) : Vs w B (if c = k then A else A.map (·.add (k * 3))) (n - k) (c - k) (l.drop k) := by
  obtain ⟨h1, h2, h3, h4, h5⟩ := h
  refine ⟨by rw [List.length_drop]; omega, by omega, by omega, ?_, fun v hv => h5 v (List.mem_of_mem_drop hv)⟩
  rcases h4 with h4 | ⟨b, o, e, hb, hc⟩
  · left; omega
  · by_cases hn : n = k
    · left; omega
    · right
      subst e
      rw [if_neg (by omega)]
      refine ⟨b, o + k * 3, ?_, hb, fun j u hu => ?_⟩
      · have e3 : k * 3 = 0 ↔ k = 0 := by omega
        by_cases hk0 : k = 0
        · subst hk0; simp [Addr.add]
        · have hk3 : ¬ k * 3 = 0 := by omega
          simp [Addr.add, hk3]
      · have := hc (k + j) u (by rw [← hu, List.getElem?_drop])
        have e : o + k * 3 + j * 3 = o + (k + j) * 3 := by rw [Nat.add_mul]; omega
        rw [e]
        exact this
end

def hasB (l : List Vl) (v : Vl) : Bool := l.any fun x => veq x v
def bagB (l : List Vl) : Bool := decide (l.length ≤ 16) && l.all fun v => decide v.right && decide (v.k = ((l.head?).map Vl.k).getD 0)

def HasTo (l : List Vl) (v : Vl) (k : Nat) : Prop := ∀ j x, l[j]? = some x → j < k → veq x v = false
theorem HasTo.step {l : List Vl} {v x : Vl} {k : Nat} (h : HasTo l v k) (hx : l[k]? = some x) (he : veq x v = false) : HasTo l v (k + 1) := fun j y hy hj => by
  by_cases e : j = k
  · subst e
    obtain rfl := Option.some.inj (hx.symm.trans hy)
    exact he
  · exact h j y hy (by omega)
theorem HasTo.all {l : List Vl} {v : Vl} {n : Nat} (h : HasTo l v n) (hn : l.length = n) : hasB l v = false := by
  unfold hasB
  rw [List.any_eq_false]
  intro x hx
  obtain ⟨j, hj, e⟩ := List.getElem_of_mem hx
  rw [h j x (by rw [List.getElem?_eq_getElem hj, e]) (by omega)]
  simp
def BagTo (l : List Vl) (k : Nat) : Prop := ∀ j x, l[j]? = some x → j < k → x.right ∧ ∀ y, l[0]? = some y → x.k = y.k
theorem BagTo.step {l : List Vl} {x y : Vl} {k : Nat} (h : BagTo l k) (hx : l[k]? = some x) (hr : x.right) (hy : l[0]? = some y) (hk : x.k = y.k) : BagTo l (k + 1) := fun j z hz hj => by
  by_cases e : j = k
  · subst e
    obtain rfl := Option.some.inj (hx.symm.trans hz)
    exact ⟨hr, fun u hu => by obtain rfl := Option.some.inj (hy.symm.trans hu); exact hk⟩
  · exact h j z hz (by omega)
theorem BagTo.all {l : List Vl} {n : Nat} (h : BagTo l n) (hn : l.length = n) : bagB l = decide (n ≤ 16) := by
  unfold bagB
  rw [hn]
  have : (l.all fun v => decide v.right && decide (v.k = ((l.head?).map Vl.k).getD 0)) = true := by
    rw [List.all_eq_true]
    intro x hx
    obtain ⟨j, hj, e⟩ := List.getElem_of_mem hx
    obtain ⟨h1, h2⟩ := h j x (by rw [List.getElem?_eq_getElem hj, e]) (by omega)
    cases l with
    | nil => cases hx
    | cons y l =>
      have := h2 y rfl
      simp [h1, this]
  rw [this, Bool.and_true]
theorem Vs.nil_ (w : World) (B : Nat) : Vs w B none 0 0 [] := ⟨rfl, Nat.le_refl _, by simp [maxLen], .inl rfl, by simp⟩
end Go.Proofs.Ytadjfkgnoklmiaa
/- Bag: the project's and the reference's. -/
namespace Go.Proofs.Ytadjfkgnoklmiaa
set_option linter.unusedVariables false
open Go.RowKit Go.Sort

end Go.Proofs.Ytadjfkgnoklmiaa
/- Requests, plainly (chapter 11): what is given, where it stands, which are right, and with one more. -/
namespace Go.Proofs.Ytadjfkgnoklmiaa
set_option linter.unusedVariables false

structure Giv where
  cat : Int
  name : ByteArray
  bag : List Vl
instance : Inhabited Giv := ⟨⟨0, ByteArray.empty, []⟩⟩
def Giv.ok (g : Giv) : Prop := InI g.cat ∧ g.name.size ≤ maxLen
end Go.Proofs.Ytadjfkgnoklmiaa
/- Sums, differences and products of two numbers of 64 bits: which go, and how those that wrap round are told. Plain. -/
namespace Go.Proofs.Ytadjfkgnoklmiaa
set_option linter.unusedVariables false
open Go.RowKit

def In64 (n : Int) : Prop := -9223372036854775808 ≤ n ∧ n ≤ 9223372036854775807
instance (n : Int) : Decidable (In64 n) := by unfold In64; infer_instance
end Go.Proofs.Ytadjfkgnoklmiaa
/- How values stand: the project's Less and the reference's; the laws' two helpers. -/
namespace Go.Proofs.Ytadjfkgnoklmiaa
set_option linter.unusedVariables false
open Go.RowKit

end Go.Proofs.Ytadjfkgnoklmiaa
/- Functions of values, plainly. -/
namespace Go.Proofs.Ytadjfkgnoklmiaa
set_option linter.unusedVariables false
open Go.RowKit

def allR (l : List Vl) : Bool := l.all fun v => decide v.right
theorem allR_iff {l : List Vl} : allR l = true ↔ ∀ v ∈ l, v.right := by simp [allR]
theorem truth_n {v : Vl} (h : v.right) (hk : v.k = 1) : v.n = 0 ∨ v.n = 1 := by
  have := rv1 (n := v.n) (l := v.l)
  unfold Vl.right at h
  rw [hk] at h
  exact (this.1 h).2

def sumL : List Vl → Int
  | [] => 0
  | v :: r => v.n + sumL r
theorem sumL_app (l m : List Vl) : sumL (l ++ m) = sumL l + sumL m := by
  induction l with
  | nil => simp [sumL]
  | cons v r ih => simp [sumL, ih]; omega
def kindsB (l : List Vl) : Bool := l.all fun v => decide (v.k = 1)
def RightTo (l : List Vl) (k : Nat) : Prop := ∀ j x, l[j]? = some x → j < k → x.right
theorem RightTo.step {l : List Vl} {x : Vl} {k : Nat} (h : RightTo l k) (hx : l[k]? = some x) (hr : x.right) : RightTo l (k + 1) := fun j y hy hj => by
  by_cases e : j = k
  · subst e
    obtain rfl := Option.some.inj (hx.symm.trans hy)
    exact hr
  · exact h j y hy (by omega)
theorem RightTo.all {l : List Vl} {n : Nat} (h : RightTo l n) (hn : l.length = n) : allR l = true := allR_iff.2 fun x hx => by
  obtain ⟨j, hj, e⟩ := List.getElem_of_mem hx
  exact h j x (by rw [List.getElem?_eq_getElem hj, e]) (by omega)
def KindTo (l : List Vl) (k : Nat) (m : Int) : Prop := kindsB (l.take k) = true ∧ sumL (l.take k) = m ∧ 0 ≤ m ∧ m ≤ (k : Int)
theorem take_more {l : List Vl} {x : Vl} {k : Nat} (hx : l[k]? = some x) : l.take (k + 1) = l.take k ++ [x] := by
  obtain ⟨hk, e⟩ := List.getElem?_eq_some_iff.1 hx
  rw [List.take_succ_eq_append_getElem hk, e]
theorem KindTo.step {l : List Vl} {x : Vl} {k : Nat} {m : Int} (h : KindTo l k m) (hx : l[k]? = some x) (hr : x.right) (hk : x.k = 1) : KindTo l (k + 1) (m + x.n) := by
  obtain ⟨h1, h2, h3, h4⟩ := h
  have hn := truth_n hr hk
  refine ⟨?_, ?_, by omega, by omega⟩
  · rw [take_more hx]
    unfold kindsB at h1 ⊢
    rw [List.all_append, h1]
    simp [hk]
  · rw [take_more hx, sumL_app, h2]
    simp [sumL]
end Go.Proofs.Ytadjfkgnoklmiaa
/- Policies in memory: rows of structs, of lists, of policies. -/
namespace Go.Proofs.Ytadjfkgnoklmiaa
set_option linter.unusedVariables false
open Go.RowKit

def Rw {α : Type} (k : Nat) (P : List Value → α → Prop) (w : World) (R : Nat → Prop) (A : Option Addr) (n c : Nat) (l : List α) : Prop :=
  l.length = n ∧ n ≤ c ∧ (c ≤ maxLen ∧ n ≤ 140737488351232) ∧ (n = 0 ∨ ∃ b o, A = some ⟨b, o, none⟩ ∧ R b ∧ b < w.heap.size ∧ ∀ j x, l[j]? = some x → ∃ vs : List Value, vs.length = k ∧ (∀ i v, vs[i]? = some v → w.cell? ⟨b, o + j * k + i, none⟩ = some v) ∧ P vs x)

def Kept (R : Nat → Prop) (w w' : World) : Prop := w.heap.size ≤ w'.heap.size ∧ ∀ b, R b → b < w.heap.size → w'.heap[b]? = w.heap[b]?
theorem Kept.refl (R : Nat → Prop) (w : World) : Kept R w w := ⟨Nat.le_refl _, fun _ _ _ => rfl⟩
theorem Kept.below {w w' : World} {B : Nat} (h : Below B w w') {R : Nat → Prop} (hR : ∀ b, R b → b < w.heap.size → b < B) : Kept R w w' := ⟨h.size, fun b hb hlt => h.block b (hR b hb hlt)⟩
theorem Kept.all {w w' : World} (h : Below w.heap.size w w') (R : Nat → Prop) : Kept R w w' := Kept.below h fun _ _ h => h
theorem Kept.trans {R : Nat → Prop} {a b c : World} (h1 : Kept R a b) (h2 : Kept R b c) : Kept R a c :=
  ⟨Nat.le_trans h1.1 h2.1, fun k hk hl => (h2.2 k hk (Nat.lt_of_lt_of_le hl h1.1)).trans (h1.2 k hk hl)⟩

section
variable {α : Type} {k : Nat} {P P' : List Value → α → Prop} {w w' : World} {R R' : Nat → Prop} {A : Option Addr} {n c : Nat} {l : List α}
theorem Rw.len (h : Rw k P w R A n c l) : l.length = n := h.1
theorem Rw.le (h : Rw k P w R A n c l) : n ≤ c := h.2.1
theorem Rw.cap (h : Rw k P w R A n c l) : c ≤ maxLen := h.2.2.1.1
theorem Rw.big (h : Rw k P w R A n c l) : n ≤ 140737488351232 := h.2.2.1.2
theorem Rw.nil_ (k : Nat) (P : List Value → α → Prop) (w : World) (R : Nat → Prop) : Rw k P w R none 0 0 [] := ⟨rfl, Nat.le_refl _, ⟨by simp [maxLen], by omega⟩, .inl rfl⟩
theorem Rw.keep (h : Rw k P w R A n c l) (hk : Kept R w w') (hR : ∀ b, R b → b < w.heap.size → R' b) (hP : ∀ vs x, x ∈ l → P vs x → P' vs x) : Rw k P' w' R' A n c l := by
  obtain ⟨h1, h2, h3, h4⟩ := h
  refine ⟨h1, h2, h3, ?_⟩
  rcases h4 with h4 | ⟨b, o, e, hb, hlt, hc⟩
  · exact .inl h4
  · refine .inr ⟨b, o, e, hR b hb hlt, Nat.lt_of_lt_of_le hlt hk.1, fun j x hx => ?_⟩
    obtain ⟨vs, hl, hv, hp⟩ := hc j x hx
    exact ⟨vs, hl, fun i v hi => (World.cell?_of_block (hk.2 b hb hlt)).trans (hv i v hi), hP vs x (List.mem_of_getElem? hx) hp⟩
theorem Rw.at_ (h : Rw k P w R A n c l) {j : Nat} (hj : j < n) : ∃ b o x vs, A = some ⟨b, o, none⟩ ∧ R b ∧ b < w.heap.size ∧ l[j]? = some x ∧ vs.length = k ∧ (∀ i v, vs[i]? = some v → w.cell? ⟨b, o + j * k + i, none⟩ = some v) ∧ P vs x := by
  obtain ⟨h1, h2, h3, h4⟩ := h
  rcases h4 with h4 | ⟨b, o, e, hb, hlt, hc⟩
  · omega
  · have hl : j < l.length := by omega
    obtain ⟨vs, a1, a2, a3⟩ := hc j l[j] (List.getElem?_eq_getElem hl)
    exact ⟨b, o, l[j], vs, e, hb, hlt, List.getElem?_eq_getElem hl, a1, a2, a3⟩
theorem Rw.take (h : Rw k P w R A n c l) {m : Nat} (hm : m ≤ n) : Rw k P w R A m c (l.take m) := by
  obtain ⟨h1, h2, h3, h4⟩ := h
  refine ⟨by rw [List.length_take]; omega, by omega, ⟨h3.1, by have := h3.2; omega⟩, ?_⟩
  rcases h4 with h4 | ⟨b, o, e, hb, hlt, hc⟩
  · left; omega
  · refine .inr ⟨b, o, e, hb, hlt, fun j x hx => hc j x ?_⟩
    rw [List.getElem?_take] at hx
    split at hx
    · exact hx
    · cases hx
end

def Atr.cells (a : Atr) : List Value := [.int .i64 a.cat, .string a.name, .bool a.must]
def Atr.val (a : Atr) : Value := .agg #[.int .i64 a.cat, .string a.name, .bool a.must]
def Mat.cells (m : Mat) : List Value := [.int .i64 m.a.cat, .string m.a.name, .bool m.a.must, .int .i64 m.op, .int .i64 m.v.k, .int .i64 m.v.n, .string m.v.s]
def Mat.val (m : Mat) : Value := .agg #[.int .i64 m.a.cat, .string m.a.name, .bool m.a.must, .int .i64 m.op, .int .i64 m.v.k, .int .i64 m.v.n, .string m.v.s]
def Nod.cells (m : Nod) : List Value := [.int .i64 m.op, .int .i64 m.v.k, .int .i64 m.v.n, .string m.v.s, .int .i64 m.a.cat, .string m.a.name, .bool m.a.must]
def Nod.val (m : Nod) : Value := .agg #[.int .i64 m.op, .int .i64 m.v.k, .int .i64 m.v.n, .string m.v.s, .int .i64 m.a.cat, .string m.a.name, .bool m.a.must]
def Dut.cells (m : Dut) : List Value := [.int .i64 m.on, .int .i64 m.kind, .string m.arg]
def Dut.val (m : Dut) : Value := .agg #[.int .i64 m.on, .int .i64 m.kind, .string m.arg]

def Ms (w : World) (R : Nat → Prop) := Rw 7 (fun vs (m : Mat) => vs = m.cells ∧ m.ok) w R
def Als (w : World) (R : Nat → Prop) := Rw 1 (fun vs (l : List Mat) => ∃ A n c, vs = [.slice A n c] ∧ Ms w R A n c l) w R
def Tg (w : World) (R : Nat → Prop) := Rw 1 (fun vs (l : List (List Mat)) => ∃ A n c, vs = [.slice A n c] ∧ Als w R A n c l) w R
def Nds (w : World) (R : Nat → Prop) := Rw 7 (fun vs (m : Nod) => vs = m.cells ∧ m.ok) w R
def Dus (w : World) (R : Nat → Prop) := Rw 3 (fun vs (m : Dut) => vs = m.cells ∧ m.ok) w R
def RulAt (w : World) (R : Nat → Prop) (vs : List Value) (r : Rul) : Prop :=
  ∃ A1 n1 c1 A2 n2 c2 A3 n3 c3, vs = [.string r.id, .bool r.deny, .slice A1 n1 c1, .slice A2 n2 c2, .slice A3 n3 c3] ∧ r.id.size ≤ maxLen ∧ Tg w R A1 n1 c1 r.tg ∧ Nds w R A2 n2 c2 r.cond ∧ Dus w R A3 n3 c3 r.ob
def Rus (w : World) (R : Nat → Prop) := Rw 5 (RulAt w R) w R
def PolAt (w : World) (R : Nat → Prop) : Nat → List Value → Pol → Prop
  | 0, _, _ => False
  | d + 1, vs, p => ∃ A1 n1 c1 A2 n2 c2 A3 n3 c3 A4 n4 c4, vs = [.string p.id, .bool p.set, .int .i64 p.alg, .slice A1 n1 c1, .slice A2 n2 c2, .slice A3 n3 c3, .slice A4 n4 c4] ∧ p.id.size ≤ maxLen ∧ InI p.alg ∧
      Tg w R A1 n1 c1 p.tg ∧ Rus w R A2 n2 c2 p.rules ∧ Rw 7 (PolAt w R d) w R A3 n3 c3 p.kids ∧ Dus w R A4 n4 c4 p.ob
def Pls (w : World) (R : Nat → Prop) (d : Nat) := Rw 7 (PolAt w R d) w R

section
variable {w w' : World} {R R' : Nat → Prop} {A : Option Addr} {n c : Nat}
theorem Ms.keep {l : List Mat} (h : Ms w R A n c l) (hk : Kept R w w') (hR : ∀ b, R b → b < w.heap.size → R' b) : Ms w' R' A n c l := Rw.keep h hk hR fun _ _ _ h => h
theorem Nds.keep {l : List Nod} (h : Nds w R A n c l) (hk : Kept R w w') (hR : ∀ b, R b → b < w.heap.size → R' b) : Nds w' R' A n c l := Rw.keep h hk hR fun _ _ _ h => h
theorem Dus.keep {l : List Dut} (h : Dus w R A n c l) (hk : Kept R w w') (hR : ∀ b, R b → b < w.heap.size → R' b) : Dus w' R' A n c l := Rw.keep h hk hR fun _ _ _ h => h
theorem Als.keep {l : List (List Mat)} (h : Als w R A n c l) (hk : Kept R w w') (hR : ∀ b, R b → b < w.heap.size → R' b) : Als w' R' A n c l :=
  Rw.keep h hk hR fun _ _ _ ⟨a, b, c, e, h⟩ => ⟨a, b, c, e, h.keep hk hR⟩
theorem Tg.keep {l : Tgt} (h : Tg w R A n c l) (hk : Kept R w w') (hR : ∀ b, R b → b < w.heap.size → R' b) : Tg w' R' A n c l :=
  Rw.keep h hk hR fun _ _ _ ⟨a, b, c, e, h⟩ => ⟨a, b, c, e, h.keep hk hR⟩
theorem RulAt.keep {vs : List Value} {r : Rul} (h : RulAt w R vs r) (hk : Kept R w w') (hR : ∀ b, R b → b < w.heap.size → R' b) : RulAt w' R' vs r := by
  obtain ⟨A1, n1, c1, A2, n2, c2, A3, n3, c3, e, h0, h1, h2, h3⟩ := h
  exact ⟨A1, n1, c1, A2, n2, c2, A3, n3, c3, e, h0, h1.keep hk hR, h2.keep hk hR, h3.keep hk hR⟩
theorem Rus.keep {l : List Rul} (h : Rus w R A n c l) (hk : Kept R w w') (hR : ∀ b, R b → b < w.heap.size → R' b) : Rus w' R' A n c l := Rw.keep h hk hR fun _ _ _ h => h.keep hk hR
theorem PolAt.keep (hk : Kept R w w') (hR : ∀ b, R b → b < w.heap.size → R' b) : ∀ {d : Nat} {vs : List Value} {p : Pol}, PolAt w R d vs p → PolAt w' R' d vs p
  | 0, _, _, h => h
  | d + 1, _, _, ⟨A1, n1, c1, A2, n2, c2, A3, n3, c3, A4, n4, c4, e, h0, h00, h1, h2, h3, h4⟩ =>
    ⟨A1, n1, c1, A2, n2, c2, A3, n3, c3, A4, n4, c4, e, h0, h00, h1.keep hk hR, h2.keep hk hR, Rw.keep h3 hk hR fun _ _ _ h => PolAt.keep hk hR h, h4.keep hk hR⟩
theorem Pls.keep {d : Nat} {l : List Pol} (h : Pls w R d A n c l) (hk : Kept R w w') (hR : ∀ b, R b → b < w.heap.size → R' b) : Pls w' R' d A n c l := Rw.keep h hk hR fun _ _ _ h => PolAt.keep hk hR h
theorem PolAt.more : ∀ {d d' : Nat} {vs : List Value} {p : Pol}, d ≤ d' → PolAt w R d vs p → PolAt w R d' vs p
  | 0, _, _, _, _, h => h.elim
  | d + 1, 0, _, _, hd, _ => by omega
  | d + 1, d' + 1, _, _, hd, ⟨A1, n1, c1, A2, n2, c2, A3, n3, c3, A4, n4, c4, e, h0, h00, h1, h2, h3, h4⟩ =>
    ⟨A1, n1, c1, A2, n2, c2, A3, n3, c3, A4, n4, c4, e, h0, h00, h1, h2, Rw.keep h3 (Kept.refl _ _) (fun _ h _ => h) fun _ _ _ h => PolAt.more (by omega) h, h4⟩

theorem Ms.at_ {l : List Mat} (h : Ms w R A n c l) {j : Nat} (hj : j < n) : ∃ b o m, A = some ⟨b, o, none⟩ ∧ R b ∧ b < w.heap.size ∧ l[j]? = some m ∧ m.ok ∧
    (w.cell? ⟨b, o + j * 7, none⟩ = some (.int .i64 m.a.cat) ∧ w.cell? ⟨b, o + j * 7 + 1, none⟩ = some (.string m.a.name) ∧ w.cell? ⟨b, o + j * 7 + 2, none⟩ = some (.bool m.a.must) ∧ w.cell? ⟨b, o + j * 7 + 3, none⟩ = some (.int .i64 m.op) ∧
      w.cell? ⟨b, o + j * 7 + 4, none⟩ = some (.int .i64 m.v.k) ∧ w.cell? ⟨b, o + j * 7 + 5, none⟩ = some (.int .i64 m.v.n) ∧ w.cell? ⟨b, o + j * 7 + 6, none⟩ = some (.string m.v.s)) := by
  obtain ⟨b, o, m, vs, e, hb, hlt, hm, hl, hv, rfl, hok⟩ := Rw.at_ h hj
  exact ⟨b, o, m, e, hb, hlt, hm, hok, hv 0 _ rfl, hv 1 _ rfl, hv 2 _ rfl, hv 3 _ rfl, hv 4 _ rfl, hv 5 _ rfl, hv 6 _ rfl⟩
theorem Nds.at_ {l : List Nod} (h : Nds w R A n c l) {j : Nat} (hj : j < n) : ∃ b o m, A = some ⟨b, o, none⟩ ∧ R b ∧ b < w.heap.size ∧ l[j]? = some m ∧ m.ok ∧
    (w.cell? ⟨b, o + j * 7, none⟩ = some (.int .i64 m.op) ∧ w.cell? ⟨b, o + j * 7 + 1, none⟩ = some (.int .i64 m.v.k) ∧ w.cell? ⟨b, o + j * 7 + 2, none⟩ = some (.int .i64 m.v.n) ∧ w.cell? ⟨b, o + j * 7 + 3, none⟩ = some (.string m.v.s) ∧
      w.cell? ⟨b, o + j * 7 + 4, none⟩ = some (.int .i64 m.a.cat) ∧ w.cell? ⟨b, o + j * 7 + 5, none⟩ = some (.string m.a.name) ∧ w.cell? ⟨b, o + j * 7 + 6, none⟩ = some (.bool m.a.must)) := by
  obtain ⟨b, o, m, vs, e, hb, hlt, hm, hl, hv, rfl, hok⟩ := Rw.at_ h hj
  exact ⟨b, o, m, e, hb, hlt, hm, hok, hv 0 _ rfl, hv 1 _ rfl, hv 2 _ rfl, hv 3 _ rfl, hv 4 _ rfl, hv 5 _ rfl, hv 6 _ rfl⟩
theorem Dus.at_ {l : List Dut} (h : Dus w R A n c l) {j : Nat} (hj : j < n) : ∃ b o m, A = some ⟨b, o, none⟩ ∧ R b ∧ b < w.heap.size ∧ l[j]? = some m ∧ m.ok ∧
    (w.cell? ⟨b, o + j * 3, none⟩ = some (.int .i64 m.on) ∧ w.cell? ⟨b, o + j * 3 + 1, none⟩ = some (.int .i64 m.kind) ∧ w.cell? ⟨b, o + j * 3 + 2, none⟩ = some (.string m.arg)) := by
  obtain ⟨b, o, m, vs, e, hb, hlt, hm, hl, hv, rfl, hok⟩ := Rw.at_ h hj
  exact ⟨b, o, m, e, hb, hlt, hm, hok, hv 0 _ rfl, hv 1 _ rfl, hv 2 _ rfl⟩
theorem Als.at_ {l : List (List Mat)} (h : Als w R A n c l) {j : Nat} (hj : j < n) : ∃ b o x A' n' c', A = some ⟨b, o, none⟩ ∧ R b ∧ b < w.heap.size ∧ l[j]? = some x ∧ w.cell? ⟨b, o + j, none⟩ = some (.slice A' n' c') ∧ Ms w R A' n' c' x := by
  obtain ⟨b, o, x, vs, e, hb, hlt, hm, hl, hv, A', n', c', rfl, h'⟩ := Rw.at_ h hj
  have := hv 0 _ rfl
  rw [Nat.mul_one] at this
  exact ⟨b, o, x, A', n', c', e, hb, hlt, hm, this, h'⟩
theorem Tg.at_ {l : Tgt} (h : Tg w R A n c l) {j : Nat} (hj : j < n) : ∃ b o x A' n' c', A = some ⟨b, o, none⟩ ∧ R b ∧ b < w.heap.size ∧ l[j]? = some x ∧ w.cell? ⟨b, o + j, none⟩ = some (.slice A' n' c') ∧ Als w R A' n' c' x := by
  obtain ⟨b, o, x, vs, e, hb, hlt, hm, hl, hv, A', n', c', rfl, h'⟩ := Rw.at_ h hj
  have := hv 0 _ rfl
  rw [Nat.mul_one] at this
  exact ⟨b, o, x, A', n', c', e, hb, hlt, hm, this, h'⟩
theorem Rus.at_ {l : List Rul} (h : Rus w R A n c l) {j : Nat} (hj : j < n) : ∃ b o r A1 n1 c1 A2 n2 c2 A3 n3 c3, A = some ⟨b, o, none⟩ ∧ R b ∧ b < w.heap.size ∧ l[j]? = some r ∧ r.id.size ≤ maxLen ∧
    (w.cell? ⟨b, o + j * 5, none⟩ = some (.string r.id) ∧ w.cell? ⟨b, o + j * 5 + 1, none⟩ = some (.bool r.deny) ∧ w.cell? ⟨b, o + j * 5 + 2, none⟩ = some (.slice A1 n1 c1) ∧ w.cell? ⟨b, o + j * 5 + 3, none⟩ = some (.slice A2 n2 c2) ∧ w.cell? ⟨b, o + j * 5 + 4, none⟩ = some (.slice A3 n3 c3)) ∧
    Tg w R A1 n1 c1 r.tg ∧ Nds w R A2 n2 c2 r.cond ∧ Dus w R A3 n3 c3 r.ob := by
  obtain ⟨b, o, r, vs, e, hb, hlt, hm, hl, hv, A1, n1, c1, A2, n2, c2, A3, n3, c3, rfl, h0, h1, h2, h3⟩ := Rw.at_ h hj
  exact ⟨b, o, r, A1, n1, c1, A2, n2, c2, A3, n3, c3, e, hb, hlt, hm, h0, ⟨hv 0 _ rfl, hv 1 _ rfl, hv 2 _ rfl, hv 3 _ rfl, hv 4 _ rfl⟩, h1, h2, h3⟩
theorem Pls.at_ {d : Nat} {l : List Pol} (h : Pls w R d A n c l) {j : Nat} (hj : j < n) : ∃ b o p d' A1 n1 c1 A2 n2 c2 A3 n3 c3 A4 n4 c4, A = some ⟨b, o, none⟩ ∧ R b ∧ b < w.heap.size ∧ l[j]? = some p ∧ d = d' + 1 ∧ (p.id.size ≤ maxLen ∧ InI p.alg) ∧
    (w.cell? ⟨b, o + j * 7, none⟩ = some (.string p.id) ∧ w.cell? ⟨b, o + j * 7 + 1, none⟩ = some (.bool p.set) ∧ w.cell? ⟨b, o + j * 7 + 2, none⟩ = some (.int .i64 p.alg) ∧ w.cell? ⟨b, o + j * 7 + 3, none⟩ = some (.slice A1 n1 c1) ∧
      w.cell? ⟨b, o + j * 7 + 4, none⟩ = some (.slice A2 n2 c2) ∧ w.cell? ⟨b, o + j * 7 + 5, none⟩ = some (.slice A3 n3 c3) ∧ w.cell? ⟨b, o + j * 7 + 6, none⟩ = some (.slice A4 n4 c4)) ∧
    Tg w R A1 n1 c1 p.tg ∧ Rus w R A2 n2 c2 p.rules ∧ Pls w R d' A3 n3 c3 p.kids ∧ Dus w R A4 n4 c4 p.ob := by
  obtain ⟨b, o, p, vs, e, hb, hlt, hm, hl, hv, hp⟩ := Rw.at_ h hj
  match d, hp with
  | d' + 1, ⟨A1, n1, c1, A2, n2, c2, A3, n3, c3, A4, n4, c4, hvs, h0, h00, h1, h2, h3, h4⟩ =>
    subst hvs
    exact ⟨b, o, p, d', A1, n1, c1, A2, n2, c2, A3, n3, c3, A4, n4, c4, e, hb, hlt, hm, rfl, ⟨h0, h00⟩, ⟨hv 0 _ rfl, hv 1 _ rfl, hv 2 _ rfl, hv 3 _ rfl, hv 4 _ rfl, hv 5 _ rfl, hv 6 _ rfl⟩, h1, h2, h3, h4⟩
end
end Go.Proofs.Ytadjfkgnoklmiaa
/- What a policy's smallest parts must be: attributes, matches, duties, counts (the project's). -/
namespace Go.Proofs.Ytadjfkgnoklmiaa
set_option linter.unusedVariables false
open Go.RowKit

set_option maxHeartbeats 800000 in
theorem attr_any (a : Atr) (hok : a.ok) (w : World) :
    Calls Try.prog 96 #[.agg #[.int .i64 a.cat, .string a.name, .bool a.must]] w fun e w' => e = .returned (.bool (attrB a)) ∧ Below w.heap.size w w' := by
  obtain ⟨k, s, m⟩ := a
  obtain ⟨hk, hs⟩ := hok
  simp only at hk hs ⊢
  have hname := name_any s hs
  have HN := Lib.hid hname
  have HE : Hid (attrB ⟨k, s, m⟩ = (decide (1 ≤ k) && decide (k ≤ 4) && decide (Named s.data.toList))) := rfl
  clear hname hk
  unfold maxLen at hs
  generalize attrB ⟨k, s, m⟩ = r at *
  go_enter Try.func96, Try.ntmps96
  go_wp2_with (go_at_call 60; refine (HN.out _).mono ?_; rintro e w1 ⟨rfl, rfl⟩)
  all_goals
    go_ret
    refine ⟨ret_bool ?_, (Below.refl _ _).alloc (Nat.le_refl _) _⟩
    rw [HE.out]
    simp [*] <;> (intros; omega)

theorem parts_any (n : Nat) (w : World) :
    Calls Try.prog 83 #[.int .i64 n] w fun e w' => e = .returned (.int .i64 (partsE n)) ∧ w' = w := by
  by_cases h0 : n = 0
  · subst h0
    go_enter Try.func83, Try.ntmps83
    go_wp2_with fail
    go_ret
    exact ⟨rfl, rfl⟩
  · have hz : ((n : Int) == 0) = false := by rw [beq_eq_false_iff_ne]; omega
    by_cases h8 : 8 < n
    · have hb : (8 : Int) < (n : Int) := by omega
      have H := Lib.hid (show partsE n = 6 by unfold partsE; simp [h0, h8])
      go_enter Try.func83, Try.ntmps83
      go_wp2_with fail
      go_ret
      exact ⟨ret_int H.out.symm, rfl⟩
    · have hb : ¬ (8 : Int) < (n : Int) := by omega
      have H := Lib.hid (show partsE n = 0 by unfold partsE; simp [h0, h8])
      go_enter Try.func83, Try.ntmps83
      go_wp2_with fail
      go_ret
      exact ⟨ret_int H.out.symm, rfl⟩

set_option maxHeartbeats 800000 in
theorem match_any (m : Mat) (hok : m.ok) (w : World) :
    Calls Try.prog 93 #[.agg #[.int .i64 m.a.cat, .string m.a.name, .bool m.a.must, .int .i64 m.op, .int .i64 m.v.k, .int .i64 m.v.n, .string m.v.s]] w fun e w' => e = .returned (.int .i64 (matE m)) ∧ Below w.heap.size w w' := by
  obtain ⟨a, op, v⟩ := m
  obtain ⟨ha, hop, hv⟩ := hok
  simp only at ha hop hv ⊢
  have HA := Lib.hid (attr_any a ha)
  have HV := Lib.hid (right_any v.k v.n v.s hv.2.2)
  have HE : Hid (matE ⟨a, op, v⟩ = if attrB a = true ∧ 1 ≤ op ∧ op ≤ 3 ∧ decide (RightV v.k v.n v.s.data.toList) = true then 0 else 1) := by
    show matE ⟨a, op, v⟩ = _
    simp only [decide_eq_true_eq]
    rfl
  generalize matE ⟨a, op, v⟩ = r at *
  obtain ⟨c, nm, mu⟩ := a
  obtain ⟨k, n, s⟩ := v
  simp only at HA HV HE ⊢
  clear ha hop hv
  generalize hab : attrB ⟨c, nm, mu⟩ = ab at *
  generalize hrb : decide (RightV k n s.data.toList) = rb at *
  clear hab hrb
  go_enter Try.func93, Try.ntmps93
  go_wp2_with (first
    | (go_at_call 96; refine (HA.out _).mono ?_; rintro e w1 ⟨rfl, hb1⟩; have B1 := Lib.hid (Below.lit hb1); have C1 := Lib.hid (Ob.below (Ob.made _ _ _) hb1 (by simp)); have c1 := C1.out.cell 3; have c2 := C1.out.cell 4; have c3 := C1.out.cell 5; have c4 := C1.out.cell 6)
    | (go_at_call 95; refine (HV.out _).mono ?_; rintro e w2 ⟨rfl, hb2⟩; have B2 := Lib.hid hb2))
  all_goals
    go_ret
    refine ⟨ret_int ?_, by first | exact below_step B1.out B2.out | exact B1.out⟩
    rw [HE.out]
    clear HA HV HE
    cases rb <;> split <;> first | rfl | (exfalso; simp_all; done) | (exfalso; simp_all; omega)

set_option maxHeartbeats 800000 in
theorem duty_any (o : Dut) (hok : o.ok) (w : World) :
    Calls Try.prog 74 #[.agg #[.int .i64 o.on, .int .i64 o.kind, .string o.arg]] w fun e w' => e = .returned (.int .i64 (dutE o)) ∧ Below w.heap.size w w' := by
  obtain ⟨on, k, s⟩ := o
  obtain ⟨ho, hk, hs⟩ := hok
  simp only at ho hk hs ⊢
  have HN := Lib.hid (name_any s hs)
  have HE : Hid (dutE ⟨on, k, s⟩ = if (on = 1 ∨ on = 2) ∧ 1 ≤ k ∧ k ≤ 4 ∧ decide (Named s.data.toList) = true then 0 else 1) := by
    show dutE ⟨on, k, s⟩ = _
    simp only [decide_eq_true_eq]
    rfl
  generalize dutE ⟨on, k, s⟩ = r at *
  generalize hrb : decide (Named s.data.toList) = rb at *
  clear ho hk hrb
  unfold maxLen at hs
  go_enter Try.func74, Try.ntmps74
  go_wp2_with (go_at_call 60; refine (HN.out _).mono ?_; rintro e w1 ⟨rfl, rfl⟩)
  all_goals
    go_ret
    refine ⟨ret_int ?_, (Below.refl _ _).alloc (Nat.le_refl _) _⟩
    rw [HE.out]
    clear HN HE
    cases rb <;> split <;> first | rfl | (exfalso; simp_all; done) | (exfalso; simp_all; omega)
end Go.Proofs.Ytadjfkgnoklmiaa
/- strings.CutSuffix, over the texts of bags and values that an expression's nodes leave. -/
namespace Go.Proofs.Ytadjfkgnoklmiaa
set_option linter.unusedVariables false
open Go.RowKit

def ch (b : Bool) : UInt8 := if b = true then 98 else 118
def lf (st : List Bool) : ByteArray := ⟨(st.reverse.map ch).toArray⟩
theorem lf_bl (st : List Bool) : bl (lf st) = st.reverse.map ch := by simp [bl, lf]
theorem lf_size (st : List Bool) : (lf st).size = st.length := by show (st.reverse.map ch).toArray.size = _; simp
theorem ch_inj {a b : Bool} (h : ch a = ch b) : a = b := by cases a <;> cases b <;> simp_all [ch]
theorem map_ch_inj : ∀ {a b : List Bool}, a.map ch = b.map ch → a = b
  | [], [], _ => rfl
  | [], _ :: _, h => by simp at h
  | _ :: _, [], h => by simp at h
  | x :: a, y :: b, h => by
    simp only [List.map_cons, List.cons.injEq] at h
    rw [ch_inj h.1, map_ch_inj h.2]
theorem lf_inj {a b : List Bool} (h : lf a = lf b) : a = b := by
  have := congrArg bl h
  rw [lf_bl, lf_bl] at this
  have := map_ch_inj this
  simpa using congrArg List.reverse this
theorem bl_extract (s : ByteArray) (i j : Nat) : bl (s.extract i j) = ((bl s).drop i).take (j - i) := by
  show (s.extract i j).data.toList = (s.data.toList.drop i).take (j - i)
  rw [ByteArray.data_extract]
  simp [List.extract_eq_take_drop]
theorem lf_tail (st : List Bool) (m : Nat) (h : m ≤ st.length) : (lf st).extract (st.length - m) st.length = lf (st.take m) := by
  apply text_eq
  rw [bl_extract, lf_bl, lf_bl, ← List.map_drop, ← List.map_take, List.drop_reverse]
  congr 1
  rw [List.take_of_length_le (by simp)]
  congr 2
  omega
theorem lf_head (st : List Bool) (m : Nat) (h : m ≤ st.length) : (lf st).extract 0 (st.length - m) = lf (st.drop m) := by
  apply text_eq
  rw [bl_extract, lf_bl, lf_bl, List.drop_zero, Nat.sub_zero, ← List.map_take, List.take_reverse]
  congr 3
  omega
theorem lf_push (st : List Bool) (b : Bool) : lf st ++ lf [b] = lf (b :: st) := by
  apply text_eq
  show (lf st ++ lf [b]).data.toList = _
  rw [ByteArray.data_append]
  simp [lf, bl]
theorem lf_nil : lf [] = ⟨#[]⟩ := rfl

theorem hasP_eq {p st : List Bool} (h : p.length ≤ st.length) : ((lf st).extract (st.length - p.length) st.length = lf p) = (hasP p st = true) := by
  rw [lf_tail st _ h]
  unfold hasP
  rw [decide_eq_true_eq, eq_iff_iff]
  exact ⟨fun e => lf_inj e, fun e => by rw [e]⟩
theorem hasP_short {p st : List Bool} (h : ¬ p.length ≤ st.length) : hasP p st = false := by
  unfold hasP
  rw [decide_eq_false_iff_not]
  intro e
  have := congrArg List.length e
  rw [List.length_take] at this
  omega

set_option maxHeartbeats 800000 in
theorem suffix_any (s t : ByteArray) (hs : s.size ≤ maxLen) (ht : t.size ≤ maxLen) (w : World) :
    Calls Try.prog 102 #[.string s, .string t] w fun e w' => e = .returned (.bool (decide (t.size ≤ s.size) && decide (s.extract (s.size - t.size) s.size = t))) ∧ w' = w := by
  unfold maxLen at hs ht
  by_cases h : t.size ≤ s.size
  · obtain ⟨k, hk⟩ : ∃ k, k = s.size - t.size := ⟨_, rfl⟩
    have e1 : (s.size : Int) - (t.size : Int) = (k : Int) := by omega
    have e2 : k ≤ s.size := by omega
    go_enter Try.func102, Try.ntmps102
    go_wp2_with fail
    go_ret
    refine ⟨ret_bool ?_, rfl⟩
    rw [decide_eq_true h, Bool.true_and, Bool.eq_iff_iff, beq_iff_eq, decide_eq_true_eq, ByteArray.toList_eq, ByteArray.toList_eq]
    exact ⟨fun e => text_eq e, fun e => by rw [e]⟩
  · go_enter Try.func102, Try.ntmps102
    go_wp2_with fail
    go_ret
    exact ⟨ret_bool (by rw [decide_eq_false h]; rfl), rfl⟩

theorem suffix_lf (st p : List Bool) (hs : st.length ≤ 1000) (hp : p.length ≤ 1000) (w : World) :
    Calls Try.prog 102 #[.string (lf st), .string (lf p)] w fun e w' => e = .returned (.bool (hasP p st)) ∧ w' = w := by
  refine (suffix_any _ _ (by rw [lf_size]; simp [maxLen]; omega) (by rw [lf_size]; simp [maxLen]; omega) w).mono ?_
  rintro e w' ⟨rfl, rfl⟩
  refine ⟨ret_bool ?_, rfl⟩
  rw [lf_size, lf_size]
  by_cases h : p.length ≤ st.length
  · rw [decide_eq_true h, Bool.true_and, Bool.eq_iff_iff, decide_eq_true_eq, hasP_eq h]
  · rw [decide_eq_false h, hasP_short h]; rfl

set_option maxHeartbeats 800000 in
theorem cut0_any (st p : List Bool) (hs : st.length ≤ 1000) (hp : p.length ≤ 1000) (w : World) :
    Calls Try.prog 94 #[.string (lf st), .string (lf p)] w fun e w' => e = .returned (.tuple #[.string (if hasP p st = true then lf (st.drop p.length) else lf st), .bool (hasP p st)]) ∧ w' = w := by
  have HS := Lib.hid (suffix_lf st p hs hp)
  have z1 := lf_size st
  have z2 := lf_size p
  by_cases h : hasP p st = true
  · have hl : p.length ≤ st.length := by
      rcases Nat.lt_or_ge st.length p.length with hlt | hge
      · rw [hasP_short (by omega)] at h; cases h
      · exact hge
    have hh := lf_head st p.length hl
    have HH := Lib.hid hh
    clear hh
    rw [h] at HS ⊢
    generalize lf st = s at *
    generalize lf p = t at *
    have e1 : (s.size : Int) - (t.size : Int) = ((st.length - p.length : Nat) : Int) := by omega
    have e2 : st.length - p.length ≤ s.size := by omega
    have ez : s.size - t.size = st.length - p.length := by omega
    have e3 : s.size ≤ 1000 := by omega
    have e4 : t.size ≤ s.size := by omega
    have HZ := Lib.hid ez
    clear z1 z2 h e1 e2 hl hs hp ez
    go_enter Try.func94, Try.ntmps94
    go_wp2_with (go_at_call 102; refine (HS.out _).mono ?_; rintro e w1 ⟨rfl, rfl⟩)
    go_ret2
    exact ⟨by rw [HZ.out, HH.out]; rfl, rfl⟩
  · rw [Bool.not_eq_true] at h
    rw [h] at HS ⊢
    generalize lf st = s at *
    generalize lf p = t at *
    clear z1 z2 h hs hp
    go_enter Try.func94, Try.ntmps94
    go_wp2_with (go_at_call 102; refine (HS.out _).mono ?_; rintro e w1 ⟨rfl, rfl⟩)
    go_ret2
    exact ⟨rfl, rfl⟩

theorem cut_any (st p : List Bool) (hs : st.length ≤ 1000) (hp : p.length ≤ 1000) (w : World) :
    Calls Try.prog 87 #[.string (lf st), .string (lf p)] w fun e w' => e = .returned (.tuple #[.string (if hasP p st = true then lf (st.drop p.length) else lf st), .bool (hasP p st)]) ∧ w' = w := by
  have HS := Lib.hid (cut0_any st p hs hp)
  generalize lf st = s at *
  generalize lf p = t at *
  generalize (if hasP p st = true then lf (st.drop p.length) else s) = u at *
  generalize hasP p st = b at *
  clear hs hp
  go_enter Try.func87, Try.ntmps87
  go_wp2_with (go_at_call 94; refine (HS.out _).mono ?_; rintro e w1 ⟨rfl, rfl⟩)
  go_ret2
  exact ⟨rfl, rfl⟩
end Go.Proofs.Ytadjfkgnoklmiaa
/- Attributes, nodes, matches, duties held against each other by ==. -/
namespace Go.Proofs.Ytadjfkgnoklmiaa
set_option linter.unusedVariables false
open Go.RowKit

theorem text_same (s s' : ByteArray) : (s.toList = s'.toList) = (s = s') := propext ⟨fun c => text_eq (by show s.data.toList = s'.data.toList; rw [← ByteArray.toList_eq, ← ByteArray.toList_eq]; exact c), fun h => by rw [h]⟩

theorem vl_ext {a b : Vl} (h1 : a.k = b.k) (h2 : a.n = b.n) (h3 : a.s = b.s) : a = b := by cases a; cases b; simp_all
set_option maxRecDepth 100000 in
set_option maxHeartbeats 800000 in
theorem nod_eq (a b : Nod) (w : World) : (Op.equalIn 10000 41 (.agg #[.int .i64 a.op, .int .i64 a.v.k, .int .i64 a.v.n, .string a.v.s, .int .i64 a.a.cat, .string a.a.name, .bool a.a.must]) (.agg #[.int .i64 b.op, .int .i64 b.v.k, .int .i64 b.v.n, .string b.v.s, .int .i64 b.a.cat, .string b.a.name, .bool b.a.must])).run Try.prog w = .ok (decide (a = b)) w := by
  have u3 := Try.underlying3
  have a3 := Try.isAgg3
  have z3 := Try.sizeOf3
  have u9 := Try.underlying9
  have a9 := Try.isAgg9
  have z9 := Try.sizeOf9
  have u4 := Try.underlying4
  have a4 := Try.isAgg4
  have z4 := Try.sizeOf4
  have hS : Try.prog.underlying 41 = some (.struct (Try.prog.fieldsOf 41)) := by kernel_rfl
  have hp : Try.prog.stoodInHeld 41 = false := by kernel_rfl
  rw [show (10000 : Nat) = 9999 + 1 from rfl, run_equalIn_agg w 9999 41 _ _ hS hp]
  simp only [Program.fieldsOf, Try.underlying41]
  go_simp
  simp only [text_same]
  repeat' split
  all_goals first
    | (rw [decide_eq_true]; exact Nod.ext' (by assumption) (vl_ext (by assumption) (by assumption) (by assumption)) (Atr.ext' (by assumption) (by assumption) (by assumption)))
    | (rw [decide_eq_false]; rintro rfl; rename_i hne; exact hne rfl)

set_option maxRecDepth 100000 in
set_option maxHeartbeats 800000 in
theorem mat_eq (a b : Mat) (w : World) : (Op.equalIn 10000 39 (.agg #[.int .i64 a.a.cat, .string a.a.name, .bool a.a.must, .int .i64 a.op, .int .i64 a.v.k, .int .i64 a.v.n, .string a.v.s]) (.agg #[.int .i64 b.a.cat, .string b.a.name, .bool b.a.must, .int .i64 b.op, .int .i64 b.v.k, .int .i64 b.v.n, .string b.v.s])).run Try.prog w = .ok (decide (a = b)) w := by
  have u3 := Try.underlying3
  have a3 := Try.isAgg3
  have z3 := Try.sizeOf3
  have u9 := Try.underlying9
  have a9 := Try.isAgg9
  have z9 := Try.sizeOf9
  have u4 := Try.underlying4
  have a4 := Try.isAgg4
  have z4 := Try.sizeOf4
  have hS : Try.prog.underlying 39 = some (.struct (Try.prog.fieldsOf 39)) := by kernel_rfl
  have hp : Try.prog.stoodInHeld 39 = false := by kernel_rfl
  rw [show (10000 : Nat) = 9999 + 1 from rfl, run_equalIn_agg w 9999 39 _ _ hS hp]
  simp only [Program.fieldsOf, Try.underlying39]
  go_simp
  simp only [text_same]
  repeat' split
  all_goals first
    | (rw [decide_eq_true]; exact Mat.ext' (Atr.ext' (by assumption) (by assumption) (by assumption)) (by assumption) (vl_ext (by assumption) (by assumption) (by assumption)))
    | (rw [decide_eq_false]; rintro rfl; rename_i hne; exact hne rfl)

end Go.Proofs.Ytadjfkgnoklmiaa
/- What a node is of, what it makes, and what it may have beside its Op. -/
namespace Go.Proofs.Ytadjfkgnoklmiaa
set_option linter.unusedVariables false
open Go.RowKit

def ofT (op : Int) : ByteArray := lf ((patX op).getD [])
def makesT (op : Int) : ByteArray := match patX op with | none => lf [] | some _ => lf [makesX op]
set_option maxHeartbeats 1600000 in
theorem shape_any (op : Int) (w : World) :
    Calls Try.prog 86 #[.int .i64 op] w fun e w' => e = .returned (.tuple #[.string (ofT op), .string (makesT op)]) ∧ w' = w := by
  rcases ops_cases op with rfl | rfl | rfl | rfl | rfl | rfl | rfl | rfl | rfl | rfl | rfl | rfl | rfl | h
  case inr.inr.inr.inr.inr.inr.inr.inr.inr.inr.inr.inr.inr =>
    have HE : Hid (ofT op = ⟨#[]⟩ ∧ makesT op = ⟨#[]⟩) := by
      show ofT op = ⟨#[]⟩ ∧ makesT op = ⟨#[]⟩
      obtain ⟨h1, h2, h3, h4, h5, h6, h7, h8, h9, h10, h11, h12, h13⟩ := h
      have : patX op = none := by simp [patX, h1, h2, h3, h4, h5, h6, h7, h8, h9, h10, h11, h12, h13]
      unfold ofT makesT
      rw [this]
      exact ⟨rfl, rfl⟩
    simp only [ne_eq, ← beq_eq_false_iff_ne] at h
    obtain ⟨h1, h2, h3, h4, h5, h6, h7, h8, h9, h10, h11, h12, h13⟩ := h
    go_enter Try.func86, Try.ntmps86
    go_wp2_with fail
    go_ret2
    exact ⟨by rw [HE.out.1, HE.out.2]; rfl, rfl⟩
  all_goals
    go_enter Try.func86, Try.ntmps86
    go_wp2_with fail
    go_ret2
    exact ⟨rfl, rfl⟩

theorem empty_iff (s : ByteArray) : (s = ByteArray.empty) = (s.toList = []) := propext ⟨fun h => by rw [h, ByteArray.toList_eq]; rfl, fun h => text_eq (by show s.data.toList = []; rw [← ByteArray.toList_eq]; exact h)⟩
theorem zeroA_iff (c : Int) (nm : ByteArray) (mu : Bool) : decide ((⟨c, nm, mu⟩ : Atr) = zeroA) = (decide (c = 0) && decide (nm.toList = []) && decide (mu = false)) := by
  rw [Bool.eq_iff_iff]
  simp only [Bool.and_eq_true, decide_eq_true_eq, ← empty_iff, zeroA, Atr.mk.injEq, and_assoc]
theorem zeroV_iff (k n : Int) (s : ByteArray) : decide ((⟨k, n, s⟩ : Vl) = zeroV) = (decide (k = 0) && decide (n = 0) && decide (s.toList = [])) := by
  rw [Bool.eq_iff_iff]
  simp only [Bool.and_eq_true, decide_eq_true_eq, ← empty_iff, zeroV, Vl.mk.injEq, and_assoc]

set_option maxHeartbeats 1600000 in
theorem holds_any (x : Nod) (hok : x.ok) (w : World) :
    Calls Try.prog 88 #[.agg #[.int .i64 x.op, .int .i64 x.v.k, .int .i64 x.v.n, .string x.v.s, .int .i64 x.a.cat, .string x.a.name, .bool x.a.must]] w fun e w' => e = .returned (.bool (holdsB x)) ∧ Below w.heap.size w w' := by
  obtain ⟨op, ⟨k, n, s⟩, ⟨c, nm, mu⟩⟩ := x
  obtain ⟨hop, hv, ha⟩ := hok
  simp only at hop hv ha ⊢
  have HV := Lib.hid (right_any k n s hv.2.2)
  have HA := Lib.hid (attr_any ⟨c, nm, mu⟩ ha)
  have HE : Hid (holdsB ⟨op, ⟨k, n, s⟩, ⟨c, nm, mu⟩⟩ = if op = 1 then decide (RightV k n s.data.toList) && (decide (c = 0) && decide (nm.toList = []) && decide (mu = false)) else if op = 2 then (decide (k = 0) && decide (n = 0) && decide (s.toList = [])) && attrB ⟨c, nm, mu⟩
      else (decide (k = 0) && decide (n = 0) && decide (s.toList = [])) && (decide (c = 0) && decide (nm.toList = []) && decide (mu = false))) := by
    rw [← zeroA_iff, ← zeroV_iff]; exact rfl
  clear hop hv ha
  generalize decide (RightV k n s.data.toList) = rv at *
  generalize attrB ⟨c, nm, mu⟩ = ab at *
  generalize holdsB ⟨op, ⟨k, n, s⟩, ⟨c, nm, mu⟩⟩ = r at *
  have two : op = 1 ∨ op = 2 ∨ ((op == 1) = false ∧ (op == 2) = false) := by simp only [beq_eq_false_iff_ne]; omega
  rcases two with rfl | rfl | ⟨t1, t2⟩
  · go_enter Try.func88, Try.ntmps88
    go_wp2_with (first
      | (go_at_call 95; refine (HV.out _).mono ?_; rintro e w1 ⟨rfl, hb1⟩; have B1 := Lib.hid (Below.lit hb1); have C1 := Lib.hid (Ob.below (Ob.made _ _ _) hb1 (by simp)); have c4 := C1.out.cell 4; have c5 := C1.out.cell 5; have c6 := C1.out.cell 6))
    all_goals
      go_ret
      refine ⟨ret_bool ?_, B1.out⟩
      rw [HE.out]
      clear HA HV HE B1 C1
      simp_all
  · go_enter Try.func88, Try.ntmps88
    go_wp2_with (first
      | (go_at_call 96; refine (HA.out _).mono ?_; rintro e w1 ⟨rfl, hb1⟩; have B1 := Lib.hid (Below.lit hb1)))
    all_goals
      go_ret
      refine ⟨ret_bool ?_, by first | exact B1.out | exact (Below.refl _ _).alloc (Nat.le_refl _) _⟩
      rw [HE.out]
      clear HA HV HE
      simp_all
  · have HT : Hid (op ≠ 1 ∧ op ≠ 2) := ⟨by simpa using t1, by simpa using t2⟩
    go_enter Try.func88, Try.ntmps88
    go_wp2_with fail
    all_goals
      go_ret
      refine ⟨ret_bool ?_, (Below.refl _ _).alloc (Nat.le_refl _) _⟩
      have ht := HT.out
      rw [HE.out]
      clear HA HV HE HT
      simp_all
end Go.Proofs.Ytadjfkgnoklmiaa
/- Expressions: the project's. -/
namespace Go.Proofs.Ytadjfkgnoklmiaa
set_option linter.unusedVariables false
open Go.RowKit

theorem runX_app : ∀ (l m : List Nod) (st : List Bool), runX (l ++ m) st = (match runX l st with | some st' => runX m st' | none => none)
  | [], m, st => rfl
  | x :: l, m, st => by
    simp only [List.cons_append, runX]
    cases stepX x st with
    | none => rfl
    | some st' => exact runX_app l m st'
def RunTo (l : List Nod) (k : Nat) (st : List Bool) : Prop := runX (l.take k) [] = some st
theorem RunTo.zero (l : List Nod) : RunTo l 0 [] := rfl
theorem take_next {α : Type} {l : List α} {k : Nat} {x : α} (h : l[k]? = some x) : l.take (k + 1) = l.take k ++ [x] := by
  obtain ⟨hk, rfl⟩ := List.getElem?_eq_some_iff.1 h
  exact List.take_succ_eq_append_getElem hk
theorem RunTo.step {l : List Nod} {k : Nat} {st st' : List Bool} {x : Nod} (h : RunTo l k st) (hx : l[k]? = some x) (hs : stepX x st = some st') : RunTo l (k + 1) st' := by
  unfold RunTo at h ⊢
  rw [take_next hx, runX_app, h]
  simp only [runX, hs]
theorem RunTo.err {l : List Nod} {k : Nat} {st : List Bool} {x : Nod} (h : RunTo l k st) (hx : l[k]? = some x) (hs : stepX x st = none) : runX l [] = none := by
  rw [← List.take_append_drop (k + 1) l, runX_app, take_next hx, runX_app, h]
  simp only [runX, hs]
theorem RunTo.all {l : List Nod} {n : Nat} {st : List Bool} (h : RunTo l n st) (hn : l.length = n) : runX l [] = some st := by
  unfold RunTo at h
  rwa [List.take_of_length_le (by omega)] at h
theorem expr_err {l : List Nod} (hl : l.length ≤ 32) (h : runX l [] = none) : exprE l = 1 := by
  unfold exprE
  rw [if_neg (by omega), h]
theorem expr_end {l : List Nod} {st : List Bool} (hl : l.length ≤ 32) (h : runX l [] = some st) : exprE l = if l = [] ∨ st = [false] then 0 else 1 := by
  unfold exprE
  rw [if_neg (by omega), h]

set_option maxHeartbeats 1600000 in
theorem expr_any {R : Nat → Prop} {A : Option Addr} {n c : Nat} {l : List Nod} (w : World) (h : Nds w R A n c l) :
    Calls Try.prog 75 #[.slice A n c] w fun e w' => e = .returned (.int .i64 (exprE l)) ∧ Below w.heap.size w w' := by
  have hle := Rw.le h
  have hcap := Rw.cap h
  have HL := Lib.hid (Rw.len h)
  unfold maxLen at hcap
  have H := Lib.hid h
  clear h
  by_cases h32 : 32 < n
  · have HE : Hid (exprE l = 6) := by
      show exprE l = _
      unfold exprE
      rw [HL.out, if_pos h32]
    have hb : (32 : Int) < (n : Int) := by omega
    go_enter Try.func75, Try.ntmps75
    go_wp2_with fail
    go_ret
    exact ⟨ret_int HE.out.symm, Below.refl _ _⟩
  have hb : ¬ (32 : Int) < (n : Int) := by omega
  go_enter Try.func75, Try.ntmps75
  go_wp2
  go_loopw [3, 15] (fun s i wr => ∃ (k : Nat) (st : List Bool), k ≤ n ∧ i = .int .i64 k ∧ s = .string (lf st) ∧ st.length ≤ k ∧ RunTo l k st ∧ Below w.heap.size w wr) (fun _ i _ => n - (intOf i).toNat)
  case atStart => exact ⟨0, [], Nat.zero_le _, rfl, rfl, Nat.le_refl _, RunTo.zero _, Below.refl _ _⟩
  case round =>
    obtain ⟨k, st, hk, rfl, rfl, hst, hf, hb⟩ := hrel
    have HF := Lib.hid hf
    have HB := Lib.hid hb
    clear hf hb
    by_cases hlt : k < n
    · obtain ⟨b, o, x, rfl, hRb, hbl, hx, hok, c0, c1, c2, c3, c4, c5, c6⟩ := (H.out.keep (Kept.all HB.out R) (fun _ h _ => h)).at_ hlt
      have HX := Lib.hid hx
      have hsh := fun W => shape_any x.op W
      have hho := fun W => holds_any x hok W
      have HS : Hid (stepX x st = if holdsB x = true then popX x.op st else none) := rfl
      rw [popX_pat] at HS
      obtain ⟨op, ⟨kx, nx, sx⟩, ⟨cx, mx, ux⟩⟩ := x
      simp only at c0 c1 c2 c3 c4 c5 c6 hsh hho HS
      have HHO := Lib.hid hho
      have hl32 := HL.out
      have hst' : st.length ≤ 1000 := by omega
      have HK := Lib.hid hst
      clear hok hho hx hst
      unfold ofT makesT at hsh
      cases hpat : patX op with
      | none =>
        rw [hpat] at hsh HS
        have hcut := fun W => cut_any st [] hst' (by simp) W
        simp only [Option.getD_none, hasP, List.take_zero, List.length_nil, decide_true, if_true, List.drop_zero, lf_nil] at hsh hcut
        have HSH := Lib.hid hsh
        have HCUT := Lib.hid hcut
        have HERR : Hid (exprE l = 1) := expr_err (by omega) (HF.out.err HX.out (by rw [HS.out]; simp))
        clear hsh hcut hpat HS hl32 hst'
        generalize lf st = ls at *
        go_wp2_with (first
          | (go_at_call 86; refine (HSH.out _).mono ?_; rintro e w1 ⟨rfl, rfl⟩)
          | (go_at_call 87; refine (HCUT.out _).mono ?_; rintro e w2 ⟨rfl, rfl⟩))
        go_ret
        exact ⟨ret_int HERR.out.symm, HB.out.alloc HB.out.size _⟩
      | some p =>
        rw [hpat] at hsh HS
        have hcut := fun W => cut_any st p hst' (by have := patX_len hpat; omega) W
        simp only [Option.getD_some] at hsh hcut HS
        by_cases hpp : hasP p st = true
        · simp only [hpp, if_true] at hcut HS
          obtain ⟨d, hd⟩ : ∃ d, d = st.drop p.length := ⟨_, rfl⟩
          have hdl : d.length ≤ st.length := by rw [hd, List.length_drop]; omega
          rw [← hd] at hcut HS
          obtain ⟨hb, hhb⟩ : ∃ hb, hb = holdsB ⟨op, ⟨kx, nx, sx⟩, ⟨cx, mx, ux⟩⟩ := ⟨_, rfl⟩
          rw [← hhb] at HHO HS
          have hpush := lf_push d (makesX op)
          have hds := lf_size d
          have HSH := Lib.hid hsh
          have HCUT := Lib.hid hcut
          have hx1 : (9223372036854775807 < (lf d).size + 1) = False := eq_false (by have := HK.out; omega)
          have HD : Hid ((makesX op :: d).length ≤ k + 1) := by
            show (makesX op :: d).length ≤ k + 1
            have := HK.out
            rw [List.length_cons]
            omega
          clear hsh hcut hpat hl32 hst' hpp hd hdl hhb hds
          obtain ⟨mb, hmb⟩ : ∃ mb, mb = makesX op := ⟨_, rfl⟩
          rw [← hmb] at HSH hpush HS HD
          have HP := Lib.hid hpush
          clear hmb hpush
          generalize hls : lf st = ls at *
          generalize hlp : lf p = lp at *
          have HTX := Lib.hid (rfl : lf d = lf d)
          generalize htx : lf d = tx at *
          have HTX := Lib.hid htx
          clear hls hlp htx
          cases hb
          · have HERR : Hid (exprE l = 1) := expr_err (by have := HL.out; omega) (HF.out.err HX.out (by rw [HS.out]; simp))
            clear HS
            cases mb
            all_goals
              simp only [show lf [false] = (⟨#[118]⟩ : ByteArray) from rfl, show lf [true] = (⟨#[98]⟩ : ByteArray) from rfl] at HSH
              go_wp2_with (first
                | (go_at_call 86; refine (HSH.out _).mono ?_; rintro e w1 ⟨rfl, rfl⟩)
                | (go_at_call 87; refine (HCUT.out _).mono ?_; rintro e w2 ⟨rfl, rfl⟩)
                | (go_at_call 88; refine (HHO.out _).mono ?_; rintro e w3 ⟨rfl, hb3⟩; have B3 := Lib.hid (Below.lit hb3)))
              go_ret
              exact ⟨ret_int HERR.out.symm, below_step HB.out B3.out⟩
          · have HNEXT : Hid (RunTo l (k + 1) (mb :: d)) := HF.out.step HX.out (by rw [HS.out]; simp)
            clear HS
            cases mb
            all_goals
              simp only [show lf [false] = (⟨#[118]⟩ : ByteArray) from rfl, show lf [true] = (⟨#[98]⟩ : ByteArray) from rfl] at HSH HP
              go_wp2_with (first
                | (go_at_call 86; refine (HSH.out _).mono ?_; rintro e w1 ⟨rfl, rfl⟩)
                | (go_at_call 87; refine (HCUT.out _).mono ?_; rintro e w2 ⟨rfl, rfl⟩)
                | (go_at_call 88; refine (HHO.out _).mono ?_; rintro e w3 ⟨rfl, hb3⟩; have B3 := Lib.hid (Below.lit hb3)))
              go_roundw
              case rel => exact ⟨k + 1, _, by omega, by go_num, by rw [HP.out], HD.out, HNEXT.out, below_step HB.out B3.out⟩
              case measure => simp [intOf]; omega
        · rw [Bool.not_eq_true] at hpp
          simp only [hpp] at hcut HS
          have HSH := Lib.hid hsh
          have HCUT := Lib.hid hcut
          have HERR : Hid (exprE l = 1) := expr_err (by omega) (HF.out.err HX.out (by rw [HS.out]; simp))
          clear hsh hcut hpat HS hl32 hst' hpp
          generalize lf st = ls at *
          generalize lf p = lp at *
          generalize lf [makesX op] = lm at *
          go_wp2_with (first
            | (go_at_call 86; refine (HSH.out _).mono ?_; rintro e w1 ⟨rfl, rfl⟩)
            | (go_at_call 87; refine (HCUT.out _).mono ?_; rintro e w2 ⟨rfl, rfl⟩))
          go_ret
          exact ⟨ret_int HERR.out.symm, HB.out.alloc HB.out.size _⟩
    · obtain rfl : k = n := by omega
      have HEND := Lib.hid (expr_end (by have := HL.out; omega) (HF.out.all HL.out))
      by_cases hk0 : k = 0
      · subst hk0
        have HZ : Hid (exprE l = 0) := HEND.out.trans (if_pos (.inl (List.eq_nil_of_length_eq_zero HL.out)))
        generalize lf st = ls at *
        go_wp2_with fail
        go_ret
        exact ⟨ret_int HZ.out.symm, HB.out⟩
      · have hlpos : (0 : Int) < (k : Int) := by omega
        have hne : ¬ l = [] := by rintro rfl; have := HL.out; simp at this; omega
        by_cases hv : st = [false]
        · subst hv
          have HZ : Hid (exprE l = 0) := HEND.out.trans (if_pos (.inr rfl))
          simp only [show lf [false] = (⟨#[118]⟩ : ByteArray) from rfl]
          go_wp2_with fail
          go_ret
          exact ⟨ret_int HZ.out.symm, HB.out⟩
        · have HZ : Hid (exprE l = 1) := HEND.out.trans (if_neg (fun e => e.elim hne hv))
          have hls : ((lf st).toList == [118]) = false := beq_eq_false_iff_ne.2 (fun e => hv (lf_inj (text_eq (by show (lf st).data.toList = _; rw [← ByteArray.toList_eq, e]; rfl))))
          generalize lf st = ls at *
          clear hne hv
          go_wp2_with fail
          go_ret
          exact ⟨ret_int HZ.out.symm, HB.out⟩
end Go.Proofs.Ytadjfkgnoklmiaa
/- The first error of a list: the project's each, over matches, AllOfs, AnyOfs, duties; targets and duties by it. -/
namespace Go.Proofs.Ytadjfkgnoklmiaa
set_option linter.unusedVariables false
open Go.RowKit

set_option maxHeartbeats 800000 in
theorem each_match {w : World} {R : Nat → Prop} {A : Option Addr} {n c : Nat} {l : List Mat} (h : Ms w R A n c l) :
    Calls Try.prog 92 #[.slice A n c, .func (.func 93) #[] #[]] w fun e w' => e = .returned (.int .i64 (firstE matE l)) ∧ Below w.heap.size w w' := by
  have hle := Rw.le h
  have hcap := Rw.cap h
  have HL := Lib.hid (Rw.len h)
  unfold maxLen at hcap
  have H := Lib.hid h
  clear h
  go_enter Try.func92, Try.ntmps92
  go_wp2
  go_loopw [10] (fun i wr => ∃ k : Nat, k ≤ n ∧ i = .int .i64 k ∧ FineTo matE l k ∧ Below w.heap.size w wr) (fun i _ => n - (intOf i).toNat)
  case atStart => exact ⟨0, Nat.zero_le _, rfl, FineTo.zero _ _, Below.refl _ _⟩
  case round =>
    obtain ⟨k, hk, rfl, hf, hb⟩ := hrel
    have HF := Lib.hid hf
    have HB := Lib.hid hb
    clear hf hb
    by_cases hlt : k < n
    · obtain ⟨b, o, x, rfl, hRb, hbl, hx, hok, c0, c1, c2, c3, c4, c5, c6⟩ := (H.out.keep (Kept.all HB.out R) (fun _ h _ => h)).at_ hlt
      have HX := Lib.hid hx
      have hcon := fun W => match_any x hok W
      clear hx
      by_cases hz : matE x = 0
      · have HZ := Lib.hid hz
        rw [hz] at hcon
        have HC := Lib.hid hcon
        clear hz hcon
        go_wp2_with (go_at_call 93; refine (HC.out _).mono ?_; rintro e w1 ⟨rfl, hb1⟩; have B1 := Lib.hid (Below.lit hb1))
        go_roundw
        case rel => exact ⟨k + 1, by omega, by go_num, HF.out.step HX.out HZ.out, below_step HB.out B1.out⟩
        case measure => simp [intOf]; omega
      · have HZ := Lib.hid hz
        obtain ⟨r, hr⟩ : ∃ r, r = matE x := ⟨_, rfl⟩
        have HR := Lib.hid hr
        rw [← hr] at hz hcon
        have hne : (r != 0) = true := by simpa using hz
        have HC := Lib.hid hcon
        clear hz hcon hr
        go_wp2_with (go_at_call 93; refine (HC.out _).mono ?_; rintro e w1 ⟨rfl, hb1⟩; have B1 := Lib.hid (Below.lit hb1))
        go_ret
        exact ⟨ret_int (HR.out.trans (HF.out.err HX.out HZ.out).symm), below_step HB.out B1.out⟩
    · obtain rfl : k = n := by omega
      go_wp2
      go_ret
      exact ⟨ret_int (HF.out.all HL.out).symm, HB.out⟩

theorem allOf_any {R : Nat → Prop} {A : Option Addr} {n c : Nat} {l : List Mat} (w : World) (h : Ms w R A n c l) :
    Calls Try.prog 85 #[.slice A n c] w fun e w' => e = .returned (.int .i64 (allE l)) ∧ Below w.heap.size w w' := by
  have hle := Rw.le h
  have hcap := Rw.cap h
  have HL := Lib.hid (Rw.len h)
  unfold maxLen at hcap
  have H := Lib.hid h
  clear h
  obtain ⟨r, hr⟩ : ∃ r, r = partsE n := ⟨_, rfl⟩
  have HR := Lib.hid hr
  by_cases hz : r = 0
  · have HP : ∀ W, Calls Try.prog 83 #[.int .i64 n] W fun e w' => e = .returned (.int .i64 0) ∧ w' = W := fun W => by have := parts_any n W; rwa [← hr, hz] at this
    have HE : Hid (allE l = firstE matE l) := by
      show allE l = _
      unfold allE
      rw [HL.out, ← hr, hz]; simp
    have HPP := Lib.hid HP
    clear hz hr HP
    go_enter Try.func85, Try.ntmps85
    go_wp2_with (first
      | (go_at_call 83; refine (HPP.out _).mono ?_; rintro e w1 ⟨rfl, rfl⟩)
      | (go_at_call 92; refine (each_match H.out).mono ?_; rintro e w2 ⟨rfl, hb2⟩; have B2 := Lib.hid hb2))
    go_ret
    exact ⟨ret_int HE.out.symm, B2.out⟩
  · have HP : ∀ W, Calls Try.prog 83 #[.int .i64 n] W fun e w' => e = .returned (.int .i64 r) ∧ w' = W := fun W => by have := parts_any n W; rwa [← hr] at this
    have HE : Hid (allE l = r) := by
      show allE l = _
      unfold allE
      rw [HL.out, ← hr, if_pos hz]
    have hne : (r != 0) = true := by simpa using hz
    have HPP := Lib.hid HP
    clear hz hr HP
    go_enter Try.func85, Try.ntmps85
    go_wp2_with (first
      | (go_at_call 83; refine (HPP.out _).mono ?_; rintro e w1 ⟨rfl, rfl⟩))
    go_ret
    exact ⟨ret_int HE.out.symm, Below.refl _ _⟩

set_option maxHeartbeats 800000 in
theorem each_allOf {w : World} {R : Nat → Prop} {A : Option Addr} {n c : Nat} {l : List (List Mat)} (h : Als w R A n c l) :
    Calls Try.prog 84 #[.slice A n c, .func (.func 85) #[] #[]] w fun e w' => e = .returned (.int .i64 (firstE allE l)) ∧ Below w.heap.size w w' := by
  have hle := Rw.le h
  have hcap := Rw.cap h
  have HL := Lib.hid (Rw.len h)
  unfold maxLen at hcap
  have H := Lib.hid h
  clear h
  go_enter Try.func84, Try.ntmps84
  go_wp2
  go_loopw [10] (fun i wr => ∃ k : Nat, k ≤ n ∧ i = .int .i64 k ∧ FineTo allE l k ∧ Below w.heap.size w wr) (fun i _ => n - (intOf i).toNat)
  case atStart => exact ⟨0, Nat.zero_le _, rfl, FineTo.zero _ _, Below.refl _ _⟩
  case round =>
    obtain ⟨k, hk, rfl, hf, hb⟩ := hrel
    have HF := Lib.hid hf
    have HB := Lib.hid hb
    clear hf hb
    by_cases hlt : k < n
    · obtain ⟨b, o, x, A', n', c', rfl, hRb, hbl, hx, c0, hin⟩ := (H.out.keep (Kept.all HB.out R) (fun _ h _ => h)).at_ hlt
      have HX := Lib.hid hx
      have hinK := fun W (hb : Below wr.heap.size wr W) => Ms.keep hin (Kept.all hb R) (fun _ h _ => h)
      have hcon := fun W (hb : Below wr.heap.size wr W) => allOf_any W (hinK W hb)
      clear hx
      by_cases hz : allE x = 0
      · have HZ := Lib.hid hz
        rw [hz] at hcon
        have HC := Lib.hid hcon
        clear hz hcon
        go_wp2_with (go_at_call 85; refine (HC.out _ (Below.refl _ _)).mono ?_; rintro e w1 ⟨rfl, hb1⟩; have B1 := Lib.hid hb1)
        go_roundw
        case rel => exact ⟨k + 1, by omega, by go_num, HF.out.step HX.out HZ.out, below_step HB.out B1.out⟩
        case measure => simp [intOf]; omega
      · have HZ := Lib.hid hz
        obtain ⟨r, hr⟩ : ∃ r, r = allE x := ⟨_, rfl⟩
        have HR := Lib.hid hr
        rw [← hr] at hz hcon
        have hne : (r != 0) = true := by simpa using hz
        have HC := Lib.hid hcon
        clear hz hcon hr
        go_wp2_with (go_at_call 85; refine (HC.out _ (Below.refl _ _)).mono ?_; rintro e w1 ⟨rfl, hb1⟩; have B1 := Lib.hid hb1)
        go_ret
        exact ⟨ret_int (HR.out.trans (HF.out.err HX.out HZ.out).symm), below_step HB.out B1.out⟩
    · obtain rfl : k = n := by omega
      go_wp2
      go_ret
      exact ⟨ret_int (HF.out.all HL.out).symm, HB.out⟩

theorem anyOf_any {R : Nat → Prop} {A : Option Addr} {n c : Nat} {l : List (List Mat)} (w : World) (h : Als w R A n c l) :
    Calls Try.prog 72 #[.slice A n c] w fun e w' => e = .returned (.int .i64 (anyE l)) ∧ Below w.heap.size w w' := by
  have hle := Rw.le h
  have hcap := Rw.cap h
  have HL := Lib.hid (Rw.len h)
  unfold maxLen at hcap
  have H := Lib.hid h
  clear h
  obtain ⟨r, hr⟩ : ∃ r, r = partsE n := ⟨_, rfl⟩
  have HR := Lib.hid hr
  by_cases hz : r = 0
  · have HP : ∀ W, Calls Try.prog 83 #[.int .i64 n] W fun e w' => e = .returned (.int .i64 0) ∧ w' = W := fun W => by have := parts_any n W; rwa [← hr, hz] at this
    have HE : Hid (anyE l = firstE allE l) := by
      show anyE l = _
      unfold anyE
      rw [HL.out, ← hr, hz]; simp
    have HPP := Lib.hid HP
    clear hz hr HP
    go_enter Try.func72, Try.ntmps72
    go_wp2_with (first
      | (go_at_call 83; refine (HPP.out _).mono ?_; rintro e w1 ⟨rfl, rfl⟩)
      | (go_at_call 84; refine (each_allOf H.out).mono ?_; rintro e w2 ⟨rfl, hb2⟩; have B2 := Lib.hid hb2))
    go_ret
    exact ⟨ret_int HE.out.symm, B2.out⟩
  · have HP : ∀ W, Calls Try.prog 83 #[.int .i64 n] W fun e w' => e = .returned (.int .i64 r) ∧ w' = W := fun W => by have := parts_any n W; rwa [← hr] at this
    have HE : Hid (anyE l = r) := by
      show anyE l = _
      unfold anyE
      rw [HL.out, ← hr, if_pos hz]
    have hne : (r != 0) = true := by simpa using hz
    have HPP := Lib.hid HP
    clear hz hr HP
    go_enter Try.func72, Try.ntmps72
    go_wp2_with (first
      | (go_at_call 83; refine (HPP.out _).mono ?_; rintro e w1 ⟨rfl, rfl⟩))
    go_ret
    exact ⟨ret_int HE.out.symm, Below.refl _ _⟩

set_option maxHeartbeats 800000 in
theorem each_anyOf {w : World} {R : Nat → Prop} {A : Option Addr} {n c : Nat} {l : List (List (List Mat))} (h : Tg w R A n c l) :
    Calls Try.prog 71 #[.slice A n c, .func (.func 72) #[] #[]] w fun e w' => e = .returned (.int .i64 (firstE anyE l)) ∧ Below w.heap.size w w' := by
  have hle := Rw.le h
  have hcap := Rw.cap h
  have HL := Lib.hid (Rw.len h)
  unfold maxLen at hcap
  have H := Lib.hid h
  clear h
  go_enter Try.func71, Try.ntmps71
  go_wp2
  go_loopw [10] (fun i wr => ∃ k : Nat, k ≤ n ∧ i = .int .i64 k ∧ FineTo anyE l k ∧ Below w.heap.size w wr) (fun i _ => n - (intOf i).toNat)
  case atStart => exact ⟨0, Nat.zero_le _, rfl, FineTo.zero _ _, Below.refl _ _⟩
  case round =>
    obtain ⟨k, hk, rfl, hf, hb⟩ := hrel
    have HF := Lib.hid hf
    have HB := Lib.hid hb
    clear hf hb
    by_cases hlt : k < n
    · obtain ⟨b, o, x, A', n', c', rfl, hRb, hbl, hx, c0, hin⟩ := (H.out.keep (Kept.all HB.out R) (fun _ h _ => h)).at_ hlt
      have HX := Lib.hid hx
      have hinK := fun W (hb : Below wr.heap.size wr W) => Als.keep hin (Kept.all hb R) (fun _ h _ => h)
      have hcon := fun W (hb : Below wr.heap.size wr W) => anyOf_any W (hinK W hb)
      clear hx
      by_cases hz : anyE x = 0
      · have HZ := Lib.hid hz
        rw [hz] at hcon
        have HC := Lib.hid hcon
        clear hz hcon
        go_wp2_with (go_at_call 72; refine (HC.out _ (Below.refl _ _)).mono ?_; rintro e w1 ⟨rfl, hb1⟩; have B1 := Lib.hid hb1)
        go_roundw
        case rel => exact ⟨k + 1, by omega, by go_num, HF.out.step HX.out HZ.out, below_step HB.out B1.out⟩
        case measure => simp [intOf]; omega
      · have HZ := Lib.hid hz
        obtain ⟨r, hr⟩ : ∃ r, r = anyE x := ⟨_, rfl⟩
        have HR := Lib.hid hr
        rw [← hr] at hz hcon
        have hne : (r != 0) = true := by simpa using hz
        have HC := Lib.hid hcon
        clear hz hcon hr
        go_wp2_with (go_at_call 72; refine (HC.out _ (Below.refl _ _)).mono ?_; rintro e w1 ⟨rfl, hb1⟩; have B1 := Lib.hid hb1)
        go_ret
        exact ⟨ret_int (HR.out.trans (HF.out.err HX.out HZ.out).symm), below_step HB.out B1.out⟩
    · obtain rfl : k = n := by omega
      go_wp2
      go_ret
      exact ⟨ret_int (HF.out.all HL.out).symm, HB.out⟩

set_option maxHeartbeats 800000 in
theorem each_duty {w : World} {R : Nat → Prop} {A : Option Addr} {n c : Nat} {l : List Dut} (h : Dus w R A n c l) :
    Calls Try.prog 73 #[.slice A n c, .func (.func 74) #[] #[]] w fun e w' => e = .returned (.int .i64 (firstE dutE l)) ∧ Below w.heap.size w w' := by
  have hle := Rw.le h
  have hcap := Rw.cap h
  have HL := Lib.hid (Rw.len h)
  unfold maxLen at hcap
  have H := Lib.hid h
  clear h
  go_enter Try.func73, Try.ntmps73
  go_wp2
  go_loopw [10] (fun i wr => ∃ k : Nat, k ≤ n ∧ i = .int .i64 k ∧ FineTo dutE l k ∧ Below w.heap.size w wr) (fun i _ => n - (intOf i).toNat)
  case atStart => exact ⟨0, Nat.zero_le _, rfl, FineTo.zero _ _, Below.refl _ _⟩
  case round =>
    obtain ⟨k, hk, rfl, hf, hb⟩ := hrel
    have HF := Lib.hid hf
    have HB := Lib.hid hb
    clear hf hb
    by_cases hlt : k < n
    · obtain ⟨b, o, x, rfl, hRb, hbl, hx, hok, c0, c1, c2⟩ := (H.out.keep (Kept.all HB.out R) (fun _ h _ => h)).at_ hlt
      have HX := Lib.hid hx
      have hcon := fun W => duty_any x hok W
      clear hx
      by_cases hz : dutE x = 0
      · have HZ := Lib.hid hz
        rw [hz] at hcon
        have HC := Lib.hid hcon
        clear hz hcon
        go_wp2_with (go_at_call 74; refine (HC.out _).mono ?_; rintro e w1 ⟨rfl, hb1⟩; have B1 := Lib.hid (Below.lit hb1))
        go_roundw
        case rel => exact ⟨k + 1, by omega, by go_num, HF.out.step HX.out HZ.out, below_step HB.out B1.out⟩
        case measure => simp [intOf]; omega
      · have HZ := Lib.hid hz
        obtain ⟨r, hr⟩ : ∃ r, r = dutE x := ⟨_, rfl⟩
        have HR := Lib.hid hr
        rw [← hr] at hz hcon
        have hne : (r != 0) = true := by simpa using hz
        have HC := Lib.hid hcon
        clear hz hcon hr
        go_wp2_with (go_at_call 74; refine (HC.out _).mono ?_; rintro e w1 ⟨rfl, hb1⟩; have B1 := Lib.hid (Below.lit hb1))
        go_ret
        exact ⟨ret_int (HR.out.trans (HF.out.err HX.out HZ.out).symm), below_step HB.out B1.out⟩
    · obtain rfl : k = n := by omega
      go_wp2
      go_ret
      exact ⟨ret_int (HF.out.all HL.out).symm, HB.out⟩

theorem target_any {R : Nat → Prop} {A : Option Addr} {n c : Nat} {l : Tgt} (w : World) (h : Tg w R A n c l) :
    Calls Try.prog 53 #[.slice A n c] w fun e w' => e = .returned (.int .i64 (tgE l)) ∧ Below w.heap.size w w' := by
  have hle := Rw.le h
  have hcap := Rw.cap h
  have HL := Lib.hid (Rw.len h)
  unfold maxLen at hcap
  have H := Lib.hid h
  clear h
  by_cases h8 : 8 < n
  · have HE : Hid (tgE l = 6) := by
      show tgE l = _
      unfold tgE
      rw [HL.out, if_pos h8]
    have hb : (8 : Int) < (n : Int) := by omega
    go_enter Try.func53, Try.ntmps53
    go_wp2_with fail
    go_ret
    exact ⟨ret_int HE.out.symm, Below.refl _ _⟩
  · have HE : Hid (tgE l = firstE anyE l) := by
      show tgE l = _
      unfold tgE
      rw [HL.out, if_neg h8]
    have hb : ¬ (8 : Int) < (n : Int) := by omega
    go_enter Try.func53, Try.ntmps53
    go_wp2_with (go_at_call 71; refine (each_anyOf H.out).mono ?_; rintro e w2 ⟨rfl, hb2⟩; have B2 := Lib.hid hb2)
    go_ret
    exact ⟨ret_int HE.out.symm, B2.out⟩

theorem obls_any {R : Nat → Prop} {A : Option Addr} {n c : Nat} {l : List Dut} (w : World) (h : Dus w R A n c l) :
    Calls Try.prog 54 #[.slice A n c] w fun e w' => e = .returned (.int .i64 (obE l)) ∧ Below w.heap.size w w' := by
  have hle := Rw.le h
  have hcap := Rw.cap h
  have HL := Lib.hid (Rw.len h)
  unfold maxLen at hcap
  have H := Lib.hid h
  clear h
  by_cases h8 : 8 < n
  · have HE : Hid (obE l = 6) := by
      show obE l = _
      unfold obE
      rw [HL.out, if_pos h8]
    have hb : (8 : Int) < (n : Int) := by omega
    go_enter Try.func54, Try.ntmps54
    go_wp2_with fail
    go_ret
    exact ⟨ret_int HE.out.symm, Below.refl _ _⟩
  · have HE : Hid (obE l = firstE dutE l) := by
      show obE l = _
      unfold obE
      rw [HL.out, if_neg h8]
    have hb : ¬ (8 : Int) < (n : Int) := by omega
    go_enter Try.func54, Try.ntmps54
    go_wp2_with (go_at_call 73; refine (each_duty H.out).mono ?_; rintro e w2 ⟨rfl, hb2⟩; have B2 := Lib.hid hb2)
    go_ret
    exact ⟨ret_int HE.out.symm, B2.out⟩

end Go.Proofs.Ytadjfkgnoklmiaa
/- What was met on the way through a policy: the map of names, the count of rules (the project's walk). -/
namespace Go.Proofs.Ytadjfkgnoklmiaa
set_option linter.unusedVariables false
open Go.RowKit Go.Maps

def cnt (x : ByteArray) (l : List ByteArray) : Nat := l.countP fun y => decide (y = x)
theorem cnt_snoc (x : ByteArray) (l : List ByteArray) : cnt x (l ++ [x]) = cnt x l + 1 := by simp [cnt]
theorem cnt_other {x y : ByteArray} (h : y ≠ x) (l : List ByteArray) : cnt x (l ++ [y]) = cnt x l := by simp [cnt, h]
theorem cnt_le (x : ByteArray) (l : List ByteArray) : cnt x l ≤ l.length := List.countP_le_length
theorem cnt_met (x : ByteArray) : ∀ (l : List ByteArray), (cnt x l = 0) = (metB x l = false)
  | [] => by simp [cnt, metB]
  | y :: l => by
    have := cnt_met x l
    unfold cnt metB at this ⊢
    by_cases e : y = x
    · simp [e]
    · simp only [List.countP_cons, List.any_cons, e, decide_false, Bool.false_or, if_false, Nat.add_zero, Bool.false_eq_true]
      exact this

theorem law9 : Keyed Try.prog 9 := string_keyed Try.underlying9
theorem zero3 (w : World) : (zeroValue 3).run Try.prog w = .ok (.int .i64 0) w := by kernel_rfl

def MapIs (w : World) (B : Nat) (ids : List ByteArray) : Prop :=
  ∃ D : DataW Unit, w.ownsMap Try.prog 9 (plainElem Try.prog 3) B ids.length D ∧ IsMap D ∧ ∀ x : ByteArray, D.atKey (.string x.data.toList) (.lit (.int .i64 0)) = .lit (.int .i64 (cnt x ids))
theorem MapIs.lt {w : World} {B : Nat} {ids : List ByteArray} (h : MapIs w B ids) : B < w.heap.size := by obtain ⟨D, h, _⟩ := h; exact h.lt
theorem MapIs.kept {w w' : World} {B : Nat} {ids : List ByteArray} {r : Nat} (h : MapIs w B ids) (ho : Only r w w') (hr : B ≠ r) : MapIs w' B ids := by
  obtain ⟨D, h1, h2, h3⟩ := h
  exact ⟨D, h1.kept ho (fun e => hr (Option.some.inj e)), h2, h3⟩
theorem MapIs.below {w w' : World} {B : Nat} {ids : List ByteArray} (h : MapIs w B ids) (ho : Below w.heap.size w w') : MapIs w' B ids :=
  h.kept (r := w.heap.size) (Only.of_below ho) (Nat.ne_of_lt h.lt)
theorem MapIs.made (w : World) : MapIs (w.alloc (.map #[] 0)) w.heap.size [] :=
  ⟨.map [], World.ownsMap_made _ _ _ _, isMap_empty, fun x => rfl⟩
theorem text_key {x y : ByteArray} (h : x ≠ y) : (Lit.string x.data.toList) ≠ .string y.data.toList := by
  intro e
  injection e with e
  exact h (text_eq e)

set_option maxRecDepth 100000 in
set_option maxHeartbeats 800000 in
theorem fresh_any {w : World} {g B : Nat} {ids : List ByteArray} {m : Value} (id : ByteArray) (hid : id.size ≤ maxLen) (hob : Ob w g 65 #[.map (some B), m]) (hmap : MapIs w B ids) (hgB : g ≠ B) (hlen : ids.length < 1000000) :
    Calls Try.prog 50 #[.pointer (some ⟨g, 0, none⟩), .string id] w fun e w' => e = .returned (.bool (decide (Named (bl id)) && !metB id ids)) ∧ Only B w w' ∧ MapIs w' B (ids ++ [id]) := by
  obtain ⟨D, hown, hD, hat0⟩ := hmap
  have hkey : keyOf Try.prog 9 (.string id) = some (.string id.data.toList) := WideMaps.keyOf_string_mk Try.underlying9 hid
  have HN := Lib.hid (name_any id hid)
  have hc0 := hob.cell 0
  have HC := Lib.hid (cnt_le id ids)
  have HM := Lib.hid (cnt_met id ids)
  have hc := hat0 id
  have HA0 := Lib.hid hat0
  have HD := Lib.hid hD
  have HB := Lib.hid hob
  have HK := Lib.hid hkey
  have HID := Lib.hid hid
  have hck : cnt id ids < 1000000 := by have := HC.out; omega
  clear hat0 hD hob hid
  obtain ⟨k, hk⟩ : ∃ k, k = cnt id ids := ⟨_, rfl⟩
  have HKK := Lib.hid hk
  rw [← hk] at hc hck
  have HAT := Lib.hid hc
  clear hc hk
  generalize hrb : decide (Named id.data.toList) = rb at *
  have HRB := Lib.hid hrb
  clear hrb
  have hputs : IsMap (D.put (.string id.data.toList) (.lit (.int .i64 ((k : Int) + 1)))) := HD.out.put _ _
  have hsame : (D.put (.string id.data.toList) (.lit (.int .i64 ((k : Int) + 1)))).atKey (.string id.data.toList) (.lit (.int .i64 0)) = .lit (.int .i64 ((k : Int) + 1)) := atKey_put_same HD.out (law9.key HK.out) _ _
  have HSAME := Lib.hid hsame
  have HPUT := Lib.hid hputs
  have hnew : ∀ x : ByteArray, (D.put (.string id.data.toList) (.lit (.int .i64 ((k : Int) + 1)))).atKey (.string x.data.toList) (.lit (.int .i64 0)) = .lit (.int .i64 (cnt x (ids ++ [id]))) := fun x => by
    by_cases e : x = id
    · subst e
      rw [HSAME.out, cnt_snoc, ← HKK.out]; simp
    · rw [atKey_put_other (text_key e), HA0.out x, cnt_other (Ne.symm e)]
  have HNEW := Lib.hid hnew
  clear hsame hputs hnew
  by_cases h0 : k = 0
  · have HR : Hid ((decide (Named (bl id)) && !metB id ids) = rb) := by
      have hm : metB id ids = false := by rw [← HM.out, ← HKK.out]; exact h0
      show (decide (Named id.data.toList) && !metB id ids) = rb
      rw [hm, HRB.out]; simp
    subst h0
    rw [show ((0 : Nat) : Int) + 1 = 1 from rfl] at HSAME HPUT HNEW
    rw [show ((0 : Nat) : Int) = 0 from rfl] at HAT
    go_enter Try.func50, Try.ntmps50
    go_wp2_with (first
      | (at_lookup; refine wpList_lookup_own_int _ rfl _ _ 63 rfl 9 3 .i64 law9 Try.underlying63 Try.underlying3 (zero3 _) B _ _ rfl hown _ _ rfl hkey ?_; intro c hat hwc; obtain rfl : c = 0 := by (rw [HAT.out] at hat; injection hat with h1; injection h1 with h2 h3; exact h3.symm))
      | (at_lookup; refine wpList_lookup_own_int _ rfl _ _ 63 rfl 9 3 .i64 law9 Try.underlying63 Try.underlying3 (zero3 _) B _ _ rfl hown1 _ _ rfl hkey ?_; intro c hat hwc; obtain rfl : c = 1 := by (rw [HSAME.out] at hat; injection hat with h1; injection h1 with h2 h3; exact h3.symm))
      | (at_mapUpdate; refine wpList_mapUpdate_own _ rfl _ _ _ 63 rfl 9 3 law9 Try.underlying63 _ B _ _ rfl hown (by unfold maxLen; omega) _ _ _ rfl rfl hkey _ [] (plainElem_int Try.underlying3 (a := 1) (WalkArith.wf_i64 (by omega))) ?_; intro w1 hown1 hgrow1; have hc1 := (Ob.keep HB.out (Only.heap hgrow1 HB.out.lt hgB)).cell 0)
      | (go_at_call 60; refine (HN.out _).mono ?_; rintro e w2 ⟨rfl, rfl⟩))
    go_ret
    exact ⟨ret_bool HR.out.symm, hgrow1, _, by rw [List.length_append]; exact hown1, HPUT.out, HNEW.out⟩
  · have HR : Hid ((decide (Named (bl id)) && !metB id ids) = false) := by
      have hm : metB id ids = true := by
        rw [← Bool.not_eq_false, ← HM.out, ← HKK.out]; exact h0
      show (decide (Named (bl id)) && !metB id ids) = false
      rw [hm]; simp
    have hne : ((k : Int) + 1 == 1) = false := by rw [beq_eq_false_iff_ne]; omega
    have H0 := Lib.hid h0
    clear h0
    go_enter Try.func50, Try.ntmps50
    go_wp2_with (first
      | (at_lookup; refine wpList_lookup_own_int _ rfl _ _ 63 rfl 9 3 .i64 law9 Try.underlying63 Try.underlying3 (zero3 _) B _ _ rfl hown _ _ rfl hkey ?_; intro c hat hwc; obtain rfl : c = (k : Int) := by (rw [HAT.out] at hat; injection hat with h1; injection h1 with h2 h3; exact h3.symm))
      | (at_lookup; refine wpList_lookup_own_int _ rfl _ _ 63 rfl 9 3 .i64 law9 Try.underlying63 Try.underlying3 (zero3 _) B _ _ rfl hown1 _ _ rfl hkey ?_; intro c hat hwc; obtain rfl : c = ((k : Int) + 1) := by (rw [HSAME.out] at hat; injection hat with h1; injection h1 with h2 h3; exact h3.symm))
      | (at_mapUpdate; refine wpList_mapUpdate_own _ rfl _ _ _ 63 rfl 9 3 law9 Try.underlying63 _ B _ _ rfl hown (by unfold maxLen; omega) _ _ _ rfl rfl hkey _ [] (plainElem_int Try.underlying3 (a := ((k : Int) + 1)) (WalkArith.wf_i64 (by omega))) ?_; intro w1 hown1 hgrow1; have hc1 := (Ob.keep HB.out (Only.heap hgrow1 HB.out.lt hgB)).cell 0)
      | (go_at_call 60; refine (HN.out _).mono ?_; rintro e w2 ⟨rfl, rfl⟩))
    go_ret
    exact ⟨ret_bool HR.out.symm, hgrow1, _, by rw [List.length_append]; exact hown1, HPUT.out, HNEW.out⟩
end Go.Proofs.Ytadjfkgnoklmiaa
/- cmp.Or over errors; what a policy may have as what it is (the project's fits). -/
namespace Go.Proofs.Ytadjfkgnoklmiaa
set_option linter.unusedVariables false
open Go.RowKit

def ev (l : List Int) : List Value := l.map (Value.int .i64)
theorem or2 (a b : Int) : firstE (fun x => x) [a, b] = orE a b := by
  unfold orE; simp only [firstE]
  by_cases ha : a = 0 <;> by_cases hb : b = 0 <;> simp [ha, hb]
theorem or3 (a b c : Int) : firstE (fun x => x) [a, b, c] = orE a (orE b c) := by
  unfold orE; simp only [firstE]
  by_cases ha : a = 0 <;> by_cases hb : b = 0 <;> by_cases hc : c = 0 <;> simp [ha, hb, hc]

set_option maxHeartbeats 800000 in
theorem or_any {w : World} {B n c : Nat} {A : Option Addr} {l : List Int} (h : Sl w B A n c (ev l)) (hn : n ≤ 1000) (hB : B ≤ w.heap.size) :
    Calls Try.prog 52 #[.slice A n c] w fun e w' => e = .returned (.int .i64 (firstE (fun x => x) l)) ∧ w' = w := by
  have HL : Hid (l.length = n) := by show l.length = n; have := h.1; simpa [ev] using this
  have hle := h.le
  have hcap := h.cap
  unfold maxLen at hcap
  have H := Lib.hid h
  clear h
  go_enter Try.func52, Try.ntmps52
  go_wp2
  go_loop [8] (fun i => ∃ k : Nat, k ≤ n ∧ i = .int .i64 k ∧ FineTo (fun x : Int => x) l k) (fun i => n - (intOf i).toNat)
  case atStart => exact ⟨0, Nat.zero_le _, rfl, FineTo.zero _ _⟩
  case round =>
    obtain ⟨k, hk, rfl, hf⟩ := hrel
    have HF := Lib.hid hf
    clear hf
    by_cases hlt : k < n
    · obtain ⟨b, o, u, rfl, hb, hu, hc⟩ := H.out.at_ hlt
      have hkl : k < l.length := by have := HL.out; omega
      have hx : l[k]? = some l[k] := List.getElem?_eq_getElem hkl
      have hu' : u = .int .i64 l[k] := by
        have : (ev l)[k]? = some (.int .i64 l[k]) := by simp [ev, hkl]
        rw [this] at hu
        exact (Option.some.inj hu).symm
      subst hu'
      have HX := Lib.hid hx
      generalize l[k] = x at *
      clear hu hx
      by_cases hz : x = 0
      · subst hz
        go_wp2_with fail
        go_round
        case rel => exact ⟨k + 1, by omega, by go_num, HF.out.step HX.out rfl⟩
        case measure => simp [intOf]; omega
      · have HZ := Lib.hid hz
        have hne : (x != 0) = true := by simpa using hz
        clear hz
        go_wp2_with fail
        go_ret
        exact ⟨ret_int (HF.out.err (f := fun x : Int => x) HX.out HZ.out).symm, rfl⟩
    · obtain rfl : k = n := by omega
      go_wp2
      go_ret
      exact ⟨ret_int (HF.out.all HL.out).symm, rfl⟩

def fitsN (set : Bool) (alg : Int) (nr nk : Nat) : Bool := decide (1 ≤ alg) && decide (alg ≤ 6) && if set = true then decide (nr = 0) else decide (nk = 0) && decide (alg ≠ 4)
theorem fits_eq (p : Pol) : fitsB p = fitsN p.set p.alg p.rules.length p.kids.length := rfl
set_option maxHeartbeats 800000 in
theorem fits_any (id : ByteArray) (set : Bool) (alg : Int) (A1 A2 A3 A4 : Option Addr) (n1 n2 n3 n4 c1 c2 c3 c4 : Nat) (w : World) :
    Calls Try.prog 51 #[.agg #[.string id, .bool set, .int .i64 alg, .slice A1 n1 c1, .slice A2 n2 c2, .slice A3 n3 c3, .slice A4 n4 c4]] w fun e w' => e = .returned (.bool (fitsN set alg n2 n3)) ∧ Below w.heap.size w w' := by
  have HE : Hid (fitsN set alg n2 n3 = (decide (1 ≤ alg) && decide (alg ≤ 6) && if set = true then decide (n2 = 0) else decide (n3 = 0) && decide (alg ≠ 4))) := rfl
  generalize fitsN set alg n2 n3 = r at *
  cases set
  all_goals
    go_enter Try.func51, Try.ntmps51
    go_wp2_with fail
    all_goals
      go_ret
      refine ⟨ret_bool ?_, (Below.refl _ _).alloc (Nat.le_refl _) _⟩
      rw [HE.out]
      clear HE
      rw [Bool.eq_iff_iff]
      simp only [Bool.and_eq_true, decide_eq_true_eq, beq_iff_eq, bne_iff_ne, if_true, if_false, Bool.false_eq_true, ne_eq]
      first | omega | (simp only [false_iff]; omega)
end Go.Proofs.Ytadjfkgnoklmiaa
/- A rule on the way through a policy (the project's walk.rule, and each over rules). -/
namespace Go.Proofs.Ytadjfkgnoklmiaa
set_option linter.unusedVariables false
open Go.RowKit Go.Sort

def Only2 (g B : Nat) (w w' : World) : Prop := w'.os = w.os ∧ w'.tape = w.tape ∧ w'.output = w.output ∧ w.heap.size ≤ w'.heap.size ∧ ∀ k, k < w.heap.size → k ≠ g → k ≠ B → w'.heap[k]? = w.heap[k]?
section
variable {g B : Nat} {w w' w'' : World}
theorem Only2.refl : Only2 g B w w := ⟨rfl, rfl, rfl, Nat.le_refl _, fun _ _ _ _ => rfl⟩
theorem Only2.trans (h : Only2 g B w w') (k : Only2 g B w' w'') : Only2 g B w w'' :=
  ⟨k.1.trans h.1, k.2.1.trans h.2.1, k.2.2.1.trans h.2.2.1, Nat.le_trans h.2.2.2.1 k.2.2.2.1, fun i hi h1 h2 => (k.2.2.2.2 i (Nat.lt_of_lt_of_le hi h.2.2.2.1) h1 h2).trans (h.2.2.2.2 i hi h1 h2)⟩
theorem Only2.of_B (h : Only B w w') : Only2 g B w w' := ⟨h.os, h.tape, h.output, h.size, fun k hk _ h2 => h.heap hk h2⟩
theorem Only2.of_g (h : Only g w w') : Only2 g B w w' := ⟨h.os, h.tape, h.output, h.size, fun k hk h1 _ => h.heap hk h1⟩
theorem Only2.of_below (h : Below w.heap.size w w') : Only2 g B w w' := ⟨h.os, h.tape, h.output, h.size, fun k hk _ _ => h.block k hk⟩
theorem Only2.size (h : Only2 g B w w') : w.heap.size ≤ w'.heap.size := h.2.2.2.1
theorem Only2.heap (h : Only2 g B w w') {k : Nat} (hk : k < w.heap.size) (h1 : k ≠ g) (h2 : k ≠ B) : w'.heap[k]? = w.heap[k]? := h.2.2.2.2 k hk h1 h2
theorem Only2.kept (h : Only2 g B w w') {R : Nat → Prop} (hR : ∀ b, R b → b ≠ g ∧ b ≠ B) : Kept R w w' := ⟨h.size, fun b hb hl => h.heap hl (hR b hb).1 (hR b hb).2⟩
theorem Only2.below (h : Only2 g B w w') {L : Nat} (hL : L ≤ w.heap.size) (h1 : L ≤ g) (h2 : L ≤ B) : Below L w w' :=
  ⟨h.1, h.2.1, h.2.2.1, h.size, fun k hk => h.heap (by omega) (by omega) (by omega)⟩
theorem Only2.alloc (o : Obj) : Only2 g B w (w.alloc o) := Only2.of_below ((Below.refl _ _).alloc (Nat.le_refl _) _)
end

structure Wk (w : World) (g B : Nat) (s : Seen) : Prop where
  ob : Ob w g 65 #[.map (some B), .int .i64 s.n]
  map : MapIs w B s.ids
  ne : g ≠ B
  few : s.n ≤ s.ids.length
theorem Wk.below {w w' : World} {g B : Nat} {s : Seen} (h : Wk w g B s) (hb : Below w.heap.size w w') : Wk w' g B s :=
  ⟨h.ob.below hb h.ob.lt, h.map.below hb, h.ne, h.few⟩
theorem Wk.alloc {w : World} {g B : Nat} {s : Seen} (h : Wk w g B s) (o : Obj) : Wk (w.alloc o) g B s := h.below ((Below.refl _ _).alloc (Nat.le_refl _) _)
def WkE (w : World) (g B : Nat) (z : Int × Seen) : Prop := ∃ s, Wk w g B s ∧ (z.1 = 0 → s = z.2)
theorem WkE.ok {w : World} {g B : Nat} {z : Int × Seen} (h : WkE w g B z) (h0 : z.1 = 0) : Wk w g B z.2 := by obtain ⟨s, h1, h2⟩ := h; exact h2 h0 ▸ h1
theorem idS_some {x : ByteArray} {s : Seen} (h : (decide (Named (bl x)) && !metB x s.ids) = true) : idS x s = some ⟨s.ids ++ [x], s.n⟩ := by
  simp at h
  unfold idS
  rw [if_pos h]
theorem idS_none {x : ByteArray} {s : Seen} (h : (decide (Named (bl x)) && !metB x s.ids) = false) : idS x s = none := by
  unfold idS
  rw [if_neg]
  rintro ⟨h1, h2⟩
  simp [h1, h2] at h

set_option maxRecDepth 100000 in
set_option maxHeartbeats 3200000 in
theorem rule_any {w : World} {g B : Nat} {s : Seen} {R : Nat → Prop} {r : Rul} {A1 A2 A3 : Option Addr} {n1 k1 n2 k2 n3 k3 : Nat} (hk : Wk w g B s) (hlen : s.ids.length < 900000) (hR : ∀ b, R b → b ≠ g ∧ b ≠ B)
    (hid : r.id.size ≤ maxLen) (h1 : Tg w R A1 n1 k1 r.tg) (h2 : Nds w R A2 n2 k2 r.cond) (h3 : Dus w R A3 n3 k3 r.ob) :
    Calls Try.prog 56 #[.pointer (some ⟨g, 0, none⟩), .agg #[.string r.id, .bool r.deny, .slice A1 n1 k1, .slice A2 n2 k2, .slice A3 n3 k3]] w
      fun e w' => e = .returned (.int .i64 (ruleS r s).1) ∧ Only2 g B w w' ∧ WkE w' g B (ruleS r s) := by
  obtain ⟨id, dn, tg, cond, ob⟩ := r
  simp only at hid h1 h2 h3 ⊢
  have HW := Lib.hid hk
  have H1 := Lib.hid h1
  have H2 := Lib.hid h2
  have H3 := Lib.hid h3
  have HRR := Lib.hid hR
  have hkeep0 := hk.alloc (.cells #[.string id, .bool dn, .slice A1 n1 k1, .slice A2 n2 k2, .slice A3 n3 k3] 51)
  have HF := Lib.hid (fresh_any id hid hkeep0.ob hkeep0.map hkeep0.ne (by omega))
  have HW0 := Lib.hid hkeep0
  have hfew := hk.few
  have hgl : g < w.heap.size := hk.ob.lt
  have hBl : B < w.heap.size := hk.map.lt
  have hne := hk.ne
  clear hk hkeep0 h1 h2 h3 hR
  by_cases hfr : (decide (Named (bl id)) && !metB id s.ids) = true
  · rw [hfr] at HF
    have HE : Hid (ruleS ⟨id, dn, tg, cond, ob⟩ s = if 64 < s.n + 1 then (6, ⟨s.ids ++ [id], s.n + 1⟩) else (orE (tgE tg) (orE (exprE cond) (obE ob)), ⟨s.ids ++ [id], s.n + 1⟩)) := by
      show ruleS ⟨id, dn, tg, cond, ob⟩ s = _
      unfold ruleS
      simp only [idS_some hfr]
    clear hfr
    generalize ruleS ⟨id, dn, tg, cond, ob⟩ s = z at *
    go_enter Try.func56, Try.ntmps56
    by_cases h64 : 64 < s.n + 1
    · go_wp2_with (first
        | (go_at_call 50; refine HF.out.mono ?_; rintro e w1 ⟨rfl, hb1, hm1⟩; have O1 := Lib.hid (Ob.keep HW0.out.ob (hb1.heap HW0.out.ob.lt hne)); have c1 := O1.out.cell 1; have f1 := O1.out.frozen 1))
      go_ret
      rw [HE.out, if_pos h64]
      refine ⟨rfl, ((Only2.alloc _).trans (Only2.of_B hb1)).trans (Only2.of_g (Only.refl.setCell rfl _)), ⟨s.ids ++ [id], s.n + 1⟩, ⟨O1.out.put 1 (.int .i64 ((s.n : Int) + 1)), ?_, hne, ?_⟩, fun h => by cases h⟩
      · exact hm1.kept (Only.refl.setCell (r := g) (p := ⟨g, 1, none⟩) rfl (.int .i64 ((s.n : Int) + 1))) (Ne.symm hne)
      · show s.n + 1 ≤ (s.ids ++ [id]).length
        rw [List.length_append, List.length_singleton]; omega
    · rw [if_neg h64] at HE
      go_wp2_with (first
        | (go_at_call 50; refine HF.out.mono ?_; rintro e w1 ⟨rfl, hb1, hm1⟩; have O1 := Lib.hid (Ob.keep HW0.out.ob (hb1.heap HW0.out.ob.lt hne)); have c1 := O1.out.cell 1; have f1 := O1.out.frozen 1))
      have O3 := Lib.hid (O1.out.put 1 (.int .i64 ((s.n : Int) + 1)))
      have M3 := Lib.hid (hm1.kept (Only.refl.setCell (r := g) (p := ⟨g, 1, none⟩) rfl (.int .i64 ((s.n : Int) + 1))) (Ne.symm hne))
      have G3 := Lib.hid (((Only2.alloc (g := g) (B := B) (w := w) (.cells #[.string id, .bool dn, .slice A1 n1 k1, .slice A2 n2 k2, .slice A3 n3 k3] 51)).trans (Only2.of_B hb1)).trans (Only2.of_g (Only.refl.setCell (r := g) (p := ⟨g, 1, none⟩) rfl (.int .i64 ((s.n : Int) + 1)))))
      have X3 := Lib.hid (show Ob (w1.setCell ⟨g, 1, none⟩ (.int .i64 ((s.n : Int) + 1))) w.heap.size 51 #[.string id, .bool dn, .slice A1 n1 k1, .slice A2 n2 k2, .slice A3 n3 k3] from
        Ob.keep (Ob.keep (Ob.made w _ _) (hb1.heap (by simp) (by omega))) (Below.heap_setCell _ _ _ _ (by simp; omega)))
      clear c1 f1 O1 hb1 hm1 HF HW0
      generalize w1.setCell ⟨g, 1, none⟩ (.int .i64 ((s.n : Int) + 1)) = W3 at *
      have K3 := Lib.hid (G3.out.kept HRR.out)
      have T1 := Lib.hid (H1.out.keep K3.out (fun _ h _ => h))
      have T2 := Lib.hid (H2.out.keep K3.out (fun _ h _ => h))
      have T3 := Lib.hid (H3.out.keep K3.out (fun _ h _ => h))
      have KK := Lib.hid (below_regrown W3)
      have Q1 : Hid (∀ d os, Calls Try.prog 53 #[.slice A1 n1 k1] (grow (redrawn W3 d) os) fun e w'' => e = .returned (.int .i64 (tgE tg)) ∧ ∃ p : Regrown, w'' = grow (redrawn W3 p.d) p.os) := fun d os => Calls.regrown_of (target_any _ (T1.out.keep (Kept.all (KK.out d os) R) (fun _ h _ => h)))
      have Q2 : Hid (∀ d os, Calls Try.prog 75 #[.slice A2 n2 k2] (grow (redrawn W3 d) os) fun e w'' => e = .returned (.int .i64 (exprE cond)) ∧ ∃ p : Regrown, w'' = grow (redrawn W3 p.d) p.os) := fun d os => Calls.regrown_of (expr_any _ (T2.out.keep (Kept.all (KK.out d os) R) (fun _ h _ => h)))
      have Q3 : Hid (∀ d os, Calls Try.prog 54 #[.slice A3 n3 k3] (grow (redrawn W3 d) os) fun e w'' => e = .returned (.int .i64 (obE ob)) ∧ ∃ p : Regrown, w'' = grow (redrawn W3 p.d) p.os) := fun d os => Calls.regrown_of (obls_any _ (T3.out.keep (Kept.all (KK.out d os) R) (fun _ h _ => h)))
      have x2 := fun d os => cell_regrown (X3.out.cell 2) d os
      have x3 := fun d os => cell_regrown (X3.out.cell 3) d os
      have x4 := fun d os => cell_regrown (X3.out.cell 4) d os
      have HOR := Lib.hid (or3 (tgE tg) (exprE cond) (obE ob))
      generalize tgE tg = a1 at *
      generalize exprE cond = a2 at *
      generalize obE ob = a3 at *
      refine wp_region_below_tail 9 (by kernel_rfl) (by kernel_rfl) ?_
      simp only [List.take_succ_cons, List.take_zero, List.drop_succ_cons, List.drop_zero]
      repeat (go_big_quiet_step ((first
        | (go_at_call 53; exact Q1.out _ _)
        | (go_at_call 75; exact Q2.out _ _)
        | (go_at_call 54; exact Q3.out _ _))))
      refine wpQuiet_nil ?_
      intro _ hw'
      obtain ⟨⟨dq, osq⟩, hw''⟩ := hw'
      subst hw''
      have hbel := below_regrown W3 dq osq
      have O4 := Lib.hid (O3.out.below hbel O3.out.lt)
      have M4 := Lib.hid (M3.out.below hbel)
      have G4 := Lib.hid (G3.out.trans (Only2.of_below hbel))
      clear x2 x3 x4 hbel Q1 Q2 Q3 KK O3 M3 G3 K3 T1 T2 T3 X3
      dsimp only at O4 M4 G4 ⊢
      generalize grow (redrawn W3 dq) osq = W4 at *
      have HSL := Lib.hid (Sl.lit W4 23 (ev [a1, a2, a3]) 3 rfl (by simp [maxLen]))
      go_wp2_with (first
        | (go_at_call 52; refine (or_any (l := [a1, a2, a3]) HSL.out (by omega) (by simp)).mono ?_; rintro e w5 ⟨rfl, rfl⟩))
      go_ret
      rw [HE.out]
      refine ⟨by rw [HOR.out]; rfl, G4.out.trans (Only2.alloc _), ⟨s.ids ++ [id], s.n + 1⟩, ⟨?_, ?_, hne, ?_⟩, fun _ => rfl⟩
      · exact (O4.out.keep (Below.heap_alloc _ _ _ O4.out.lt))
      · exact M4.out.below ((Below.refl _ _).alloc (Nat.le_refl _) _)
      · show s.n + 1 ≤ (s.ids ++ [id]).length
        rw [List.length_append, List.length_singleton]; omega
  · rw [Bool.not_eq_true] at hfr
    rw [hfr] at HF
    have HE : Hid (ruleS ⟨id, dn, tg, cond, ob⟩ s = (1, s)) := by
      show ruleS ⟨id, dn, tg, cond, ob⟩ s = _
      unfold ruleS
      simp only [idS_none hfr]
    clear hfr
    generalize ruleS ⟨id, dn, tg, cond, ob⟩ s = z at *
    go_enter Try.func56, Try.ntmps56
    go_wp2_with (first
      | (go_at_call 50; refine HF.out.mono ?_; rintro e w1 ⟨rfl, hb1, hm1⟩))
    go_ret
    rw [HE.out]
    exact ⟨rfl, (Only2.alloc _).trans (Only2.of_B hb1), ⟨s.ids ++ [id], s.n⟩, ⟨HW0.out.ob.keep (hb1.heap HW0.out.ob.lt hne), hm1, hne, by show s.n ≤ (s.ids ++ [id]).length; rw [List.length_append, List.length_singleton]; omega⟩, fun h => by cases h⟩

theorem firstS_app {α : Type} (f : α → Seen → Int × Seen) : ∀ (l m : List α) (s : Seen), firstS f (l ++ m) s = if (firstS f l s).1 ≠ 0 then firstS f l s else firstS f m (firstS f l s).2
  | [], m, s => by simp [firstS]
  | x :: l, m, s => by
    simp only [List.cons_append, firstS]
    by_cases h : (f x s).1 = 0
    · simp only [h, ne_eq, not_true, if_false]
      exact firstS_app f l m (f x s).2
    · simp [h]
def StTo {α : Type} (f : α → Seen → Int × Seen) (l : List α) (s0 : Seen) (k : Nat) (s : Seen) : Prop := firstS f (l.take k) s0 = (0, s)
section
variable {α : Type} {f : α → Seen → Int × Seen} {l : List α} {s0 s : Seen} {k : Nat} {x : α}
theorem StTo.zero (f : α → Seen → Int × Seen) (l : List α) (s0 : Seen) : StTo f l s0 0 s0 := rfl
theorem StTo.step (h : StTo f l s0 k s) (hx : l[k]? = some x) (h0 : (f x s).1 = 0) : StTo f l s0 (k + 1) (f x s).2 := by
  unfold StTo at h ⊢
  rw [take_next hx, firstS_app, h]
  simp only [ne_eq, not_true, if_false, firstS, h0]
theorem StTo.err (h : StTo f l s0 k s) (hx : l[k]? = some x) (h0 : (f x s).1 ≠ 0) : firstS f l s0 = f x s := by
  have e : firstS f (l.take (k + 1)) s0 = f x s := by
    unfold StTo at h
    rw [take_next hx, firstS_app, h]
    simp [firstS, h0]
  rw [← List.take_append_drop (k + 1) l, firstS_app, e, if_pos h0]
theorem StTo.all {n : Nat} (h : StTo f l s0 n s) (hn : l.length = n) : firstS f l s0 = (0, s) := by
  unfold StTo at h
  rwa [List.take_of_length_le (by omega)] at h
end
theorem idS_ids {x : ByteArray} {s s1 : Seen} (h : idS x s = some s1) : s1.ids.length = s.ids.length + 1 := by
  unfold idS at h
  split at h
  · obtain rfl := Option.some.inj h; simp
  · cases h
theorem ruleS_ids (r : Rul) (s : Seen) : (ruleS r s).2.ids.length ≤ s.ids.length + 1 := by
  unfold ruleS
  split
  · exact Nat.le_succ _
  · rename_i s1 h
    have := idS_ids h
    split <;> (simp only; omega)

set_option maxHeartbeats 1600000 in
theorem each_rule {w : World} {g B : Nat} {s : Seen} {R : Nat → Prop} {A : Option Addr} {n c : Nat} {l : List Rul} (hk : Wk w g B s) (hlen : s.ids.length < 800000) (hn : n ≤ 1000) (hR : ∀ b, R b → b ≠ g ∧ b ≠ B) (h : Rus w R A n c l) :
    Calls Try.prog 55 #[.slice A n c, .func (.func 56) #[.pointer (some ⟨g, 0, none⟩)] #[]] w
      fun e w' => e = .returned (.int .i64 (firstS ruleS l s).1) ∧ Only2 g B w w' ∧ WkE w' g B (firstS ruleS l s) := by
  have hle := Rw.le h
  have hcap := Rw.cap h
  have HL := Lib.hid (Rw.len h)
  unfold maxLen at hcap
  have H := Lib.hid h
  have HW := Lib.hid hk
  have HRR := Lib.hid hR
  have HGL : Hid (g < w.heap.size ∧ B < w.heap.size) := ⟨hk.ob.lt, hk.map.lt⟩
  clear h hk hR
  go_enter Try.func55, Try.ntmps55
  go_wp2
  go_loopw [10] (fun i wr => ∃ (k : Nat) (s' : Seen), k ≤ n ∧ i = .int .i64 k ∧ StTo ruleS l s k s' ∧ s'.ids.length ≤ s.ids.length + k ∧ Wk wr g B s' ∧ Only2 g B w wr) (fun i _ => n - (intOf i).toNat)
  case atStart => exact ⟨0, s, Nat.zero_le _, rfl, StTo.zero _ _ _, Nat.le_refl _, HW.out, Only2.refl⟩
  case round =>
    obtain ⟨k, s', hk, rfl, hf, hids, hw, hb⟩ := hrel
    have HF := Lib.hid hf
    have HB := Lib.hid hb
    have HW' := Lib.hid hw
    have HI := Lib.hid hids
    clear hf hb hw hids
    by_cases hlt : k < n
    · obtain ⟨b, o, x, A1, n1, k1, A2, n2, k2, A3, n3, k3, rfl, hRb, hbl, hx, hid, ⟨c0, c1, c2, c3, c4⟩, h1, h2, h3⟩ := (H.out.keep (HB.out.kept HRR.out) (fun _ h _ => h)).at_ hlt
      have HX := Lib.hid hx
      have hka := Kept.all ((Below.refl _ wr).alloc (Nat.le_refl _) (.cells #[.string x.id, .bool x.deny, .slice A1 n1 k1, .slice A2 n2 k2, .slice A3 n3 k3] 51)) R
      have hcon := rule_any (HW'.out.alloc (.cells #[.string x.id, .bool x.deny, .slice A1 n1 k1, .slice A2 n2 k2, .slice A3 n3 k3] 51)) (by have := HI.out; omega) HRR.out hid (h1.keep hka (fun _ h _ => h)) (h2.keep hka (fun _ h _ => h)) (h3.keep hka (fun _ h _ => h))
      have HIX := Lib.hid (ruleS_ids x s')
      clear hx hka h1 h2 h3
      by_cases hz : (ruleS x s').1 = 0
      · have HZ := Lib.hid hz
        rw [hz] at hcon
        have HC := Lib.hid hcon
        clear hz hcon
        go_wp2_with (go_at_call 56; refine HC.out.mono ?_; rintro e w1 ⟨rfl, hb1, hw1⟩; have B1 := Lib.hid hb1; have W1 := Lib.hid (hw1.ok HZ.out))
        go_roundw
        case rel => exact ⟨k + 1, _, by omega, by go_num, HF.out.step HX.out HZ.out, by have := HI.out; have := HIX.out; omega, W1.out, HB.out.trans ((Only2.alloc _).trans B1.out)⟩
        case measure => simp [intOf]; omega
      · have HZ := Lib.hid hz
        obtain ⟨r, hr⟩ : ∃ r, r = ruleS x s' := ⟨_, rfl⟩
        have HR := Lib.hid hr
        rw [← hr] at hz hcon
        have hne : (r.1 != 0) = true := by simpa using hz
        have HC := Lib.hid hcon
        clear hcon hr
        clear hz
        go_wp2_with (go_at_call 56; refine HC.out.mono ?_; rintro e w1 ⟨rfl, hb1, hw1⟩; have B1 := Lib.hid hb1; have W1 := Lib.hid hw1; clear hw1)
        go_ret
        rw [HF.out.err HX.out HZ.out, ← HR.out]
        exact ⟨rfl, HB.out.trans ((Only2.alloc _).trans B1.out), W1.out⟩
    · obtain rfl : k = n := by omega
      go_wp2
      go_ret
      rw [HF.out.all HL.out]
      exact ⟨rfl, HB.out, s', HW'.out, fun _ => rfl⟩
end Go.Proofs.Ytadjfkgnoklmiaa
/- A policy and its kids, on the way through (the project's walk.policy, its closure, each over policies). -/
namespace Go.Proofs.Ytadjfkgnoklmiaa
set_option linter.unusedVariables false
open Go.RowKit Go.Sort

def idsB : Nat → Nat
  | 0 => 0
  | d + 1 => 17 + 16 * idsB d
theorem firstS_ids {α : Type} {f : α → Seen → Int × Seen} {c : Nat} (hf : ∀ x s, (f x s).2.ids.length ≤ s.ids.length + c) : ∀ (l : List α) (s : Seen), (firstS f l s).2.ids.length ≤ s.ids.length + l.length * c
  | [], s => by simp [firstS]
  | x :: l, s => by
    have h1 := hf x s
    have h2 := firstS_ids hf l (f x s).2
    simp only [firstS, List.length_cons, Nat.add_mul, Nat.one_mul]
    split <;> omega
theorem polS_ids : ∀ (d : Nat) (p : Pol) (s : Seen), (polS d p s).2.ids.length ≤ s.ids.length + idsB d
  | 0, p, s => by simp [polS, idsB]
  | d + 1, p, s => by
    simp only [polS, idsB]
    split
    · simp only; omega
    · rename_i s1 h
      have h1 := idS_ids h
      split
      · simp only; omega
      split
      · simp only; omega
      split
      · simp only; omega
      rename_i hn
      have h2 := firstS_ids (c := 1) ruleS_ids p.rules s1
      have hr : p.rules.length ≤ 16 := by omega
      have hk : p.kids.length ≤ 16 := by omega
      split
      · omega
      have h3 := firstS_ids (c := idsB d) (polS_ids d) p.kids (firstS ruleS p.rules s1).2
      have h4 : p.kids.length * idsB d ≤ 16 * idsB d := Nat.mul_le_mul_right _ hk
      omega

def PolOk (d : Nat) : Prop :=
  ∀ {w : World} {g B : Nat} {s : Seen} {R : Nat → Prop} {m : Nat} {p : Pol} {A1 A2 A3 A4 : Option Addr} {n1 k1 n2 k2 n3 k3 n4 k4 : Nat}, Wk w g B s → s.ids.length + idsB d < 800000 → (∀ b, R b → b ≠ g ∧ b ≠ B) →
    p.id.size ≤ maxLen → Tg w R A1 n1 k1 p.tg → Rus w R A2 n2 k2 p.rules → Pls w R m A3 n3 k3 p.kids → Dus w R A4 n4 k4 p.ob →
    Calls Try.prog 30 #[.pointer (some ⟨g, 0, none⟩), .agg #[.string p.id, .bool p.set, .int .i64 p.alg, .slice A1 n1 k1, .slice A2 n2 k2, .slice A3 n3 k3, .slice A4 n4 k4], .int .i64 (5 - (d : Int))] w
      fun e w' => e = .returned (.int .i64 (polS d p s).1) ∧ Only2 g B w w' ∧ WkE w' g B (polS d p s)

theorem pol_zero : PolOk 0 := by
  intro w g B s R m p A1 A2 A3 A4 n1 k1 n2 k2 n3 k3 n4 k4 hk _ _ _ _ _ _ _
  go_enter Try.func30, Try.ntmps30
  go_wp2_with fail
  go_ret
  exact ⟨rfl, ((Only2.alloc _).trans (Only2.alloc _)).trans (Only2.alloc _), s, ((hk.alloc _).alloc _).alloc _, fun h => by cases h⟩

set_option maxHeartbeats 800000 in
theorem deeper_any {d : Nat} (ih : PolOk d) {w : World} {g B h3 h5 : Nat} {s : Seen} {R : Nat → Prop} {m : Nat} {p : Pol} {A1 A2 A3 A4 : Option Addr} {n1 k1 n2 k2 n3 k3 n4 k4 : Nat} (hd : d ≤ 4) (hk : Wk w g B s) (hlen : s.ids.length + idsB d < 800000) (hR : ∀ b, R b → b ≠ g ∧ b ≠ B)
    (hid : p.id.size ≤ maxLen) (h1 : Tg w R A1 n1 k1 p.tg) (h2 : Rus w R A2 n2 k2 p.rules) (h3' : Pls w R m A3 n3 k3 p.kids) (h4 : Dus w R A4 n4 k4 p.ob)
    (hp : Ob w h3 106 #[.pointer (some ⟨g, 0, none⟩)]) (hi : Ob w h5 3 #[.int .i64 (4 - (d : Int))]) :
    Calls Try.prog 58 #[.agg #[.string p.id, .bool p.set, .int .i64 p.alg, .slice A1 n1 k1, .slice A2 n2 k2, .slice A3 n3 k3, .slice A4 n4 k4], .pointer (some ⟨h3, 0, none⟩), .pointer (some ⟨h5, 0, none⟩)] w
      fun e w' => e = .returned (.int .i64 (polS d p s).1) ∧ Only2 g B w w' ∧ WkE w' g B (polS d p s) := by
  have c3 := hp.cell 0
  have c5 := hi.cell 0
  have l3 := hp.lt
  have l5 := hi.lt
  have hka := Kept.all ((Below.refl _ w).alloc (Nat.le_refl _) (.cells #[.string p.id, .bool p.set, .int .i64 p.alg, .slice A1 n1 k1, .slice A2 n2 k2, .slice A3 n3 k3, .slice A4 n4 k4] 32)) R
  have hcon := ih (hk.alloc (.cells #[.string p.id, .bool p.set, .int .i64 p.alg, .slice A1 n1 k1, .slice A2 n2 k2, .slice A3 n3 k3, .slice A4 n4 k4] 32)) hlen hR hid (h1.keep hka (fun _ h _ => h)) (h2.keep hka (fun _ h _ => h)) (h3'.keep hka (fun _ h _ => h)) (h4.keep hka (fun _ h _ => h))
  have hdd : (4 - (d : Int)) + 1 = 5 - (d : Int) := by omega
  have hd2 : -10 ≤ (4 - (d : Int)) ∧ (4 - (d : Int)) ≤ 4 := by omega
  rw [← hdd] at hcon
  have HC := Lib.hid hcon
  clear hcon hka hk hlen hR hid h1 h2 h3' h4 hp hi hdd ih
  generalize 4 - (d : Int) = q at *
  go_enter Try.func58, Try.ntmps58
  go_wp2_with (go_at_call 30; refine HC.out.mono ?_; rintro e w1 ⟨rfl, hb1, hw1⟩)
  go_ret
  exact ⟨rfl, (Only2.alloc _).trans hb1, hw1⟩

set_option maxHeartbeats 1600000 in
theorem each_pol {d : Nat} (ih : PolOk d) {w : World} {g B h3 h5 : Nat} {s : Seen} {R : Nat → Prop} {m : Nat} {A : Option Addr} {n c : Nat} {l : List Pol} (hd : d ≤ 4) (hk : Wk w g B s) (hlen : s.ids.length + n * idsB d < 800000) (hR : ∀ b, R b → b ≠ g ∧ b ≠ B)
    (hp : Ob w h3 106 #[.pointer (some ⟨g, 0, none⟩)]) (hi : Ob w h5 3 #[.int .i64 (4 - (d : Int))]) (hh : (h3 ≠ g ∧ h3 ≠ B) ∧ h5 ≠ g ∧ h5 ≠ B) (h : Pls w R m A n c l) :
    Calls Try.prog 57 #[.slice A n c, .func (.func 58) #[] #[.pointer (some ⟨h3, 0, none⟩), .pointer (some ⟨h5, 0, none⟩)]] w
      fun e w' => e = .returned (.int .i64 (firstS (polS d) l s).1) ∧ Only2 g B w w' ∧ WkE w' g B (firstS (polS d) l s) := by
  have hle := Rw.le h
  have hcap := Rw.cap h
  have HL := Lib.hid (Rw.len h)
  unfold maxLen at hcap
  have H := Lib.hid h
  have HW := Lib.hid hk
  have HRR := Lib.hid hR
  have HP := Lib.hid hp
  have HII := Lib.hid hi
  have HH := Lib.hid hh
  have HLEN := Lib.hid hlen
  clear h hk hR hp hi hh hlen
  go_enter Try.func57, Try.ntmps57
  go_wp2
  go_loopw [10] (fun i wr => ∃ (k : Nat) (s' : Seen), k ≤ n ∧ i = .int .i64 k ∧ StTo (polS d) l s k s' ∧ s'.ids.length ≤ s.ids.length + k * idsB d ∧ Wk wr g B s' ∧ Only2 g B w wr) (fun i _ => n - (intOf i).toNat)
  case atStart => exact ⟨0, s, Nat.zero_le _, rfl, StTo.zero _ _ _, by omega, HW.out, Only2.refl⟩
  case round =>
    obtain ⟨k, s', hk, rfl, hf, hids, hw, hb⟩ := hrel
    have HF := Lib.hid hf
    have HB := Lib.hid hb
    have HW' := Lib.hid hw
    have HI := Lib.hid hids
    clear hf hb hw hids
    by_cases hlt : k < n
    · obtain ⟨b, o, x, m', A1, n1, k1, A2, n2, k2, A3, n3, k3, A4, n4, k4, rfl, hRb, hbl, hx, hm, ⟨hid, halg⟩, ⟨c0, c1, c2, c3, c4, c5, c6⟩, h1, h2, h3', h4⟩ := (H.out.keep (HB.out.kept HRR.out) (fun _ h _ => h)).at_ hlt
      have HX := Lib.hid hx
      have hbel := (Below.refl _ wr).alloc (Nat.le_refl _) (.cells #[.string x.id, .bool x.set, .int .i64 x.alg, .slice A1 n1 k1, .slice A2 n2 k2, .slice A3 n3 k3, .slice A4 n4 k4] 32)
      have hka := Kept.all hbel R
      have hp' := (HP.out.keep (HB.out.heap HP.out.lt HH.out.1.1 HH.out.1.2))
      have hi' := (HII.out.keep (HB.out.heap HII.out.lt HH.out.2.1 HH.out.2.2))
      have hlen' : s'.ids.length + idsB d < 800000 := by
        have e1 := HI.out
        have e2 := HLEN.out
        have e3 : (k + 1) * idsB d ≤ n * idsB d := Nat.mul_le_mul_right _ hlt
        rw [Nat.add_mul, Nat.one_mul] at e3
        omega
      have hcon := deeper_any ih hd (HW'.out.alloc (.cells #[.string x.id, .bool x.set, .int .i64 x.alg, .slice A1 n1 k1, .slice A2 n2 k2, .slice A3 n3 k3, .slice A4 n4 k4] 32)) hlen' HRR.out hid (h1.keep hka (fun _ h _ => h)) (h2.keep hka (fun _ h _ => h)) (h3'.keep hka (fun _ h _ => h)) (h4.keep hka (fun _ h _ => h))
        (hp'.below hbel hp'.lt) (hi'.below hbel hi'.lt)
      have HIX := Lib.hid (polS_ids d x s')
      have HRel : Hid ((k + 1) * idsB d = k * idsB d + idsB d) := by show (k + 1) * idsB d = _; rw [Nat.add_mul, Nat.one_mul]
      clear hx hka h1 h2 h3' h4 hbel hp' hi' hlen' halg hid hm
      by_cases hz : (polS d x s').1 = 0
      · have HZ := Lib.hid hz
        rw [hz] at hcon
        have HC := Lib.hid hcon
        clear hz hcon
        go_wp2_with (go_at_call 58; refine HC.out.mono ?_; rintro e w1 ⟨rfl, hb1, hw1⟩; have B1 := Lib.hid hb1; have W1 := Lib.hid (hw1.ok HZ.out))
        go_roundw
        case rel => exact ⟨k + 1, _, by omega, by go_num, HF.out.step HX.out HZ.out, by have := HI.out; have := HIX.out; have := HRel.out; omega, W1.out, HB.out.trans ((Only2.alloc _).trans B1.out)⟩
        case measure => simp [intOf]; omega
      · have HZ := Lib.hid hz
        obtain ⟨r, hr⟩ : ∃ r, r = polS d x s' := ⟨_, rfl⟩
        have HR := Lib.hid hr
        rw [← hr] at hz hcon
        have hne : (r.1 != 0) = true := by simpa using hz
        have HC := Lib.hid hcon
        clear hcon hr
        clear hz
        go_wp2_with (go_at_call 58; refine HC.out.mono ?_; rintro e w1 ⟨rfl, hb1, hw1⟩; have B1 := Lib.hid hb1; have W1 := Lib.hid hw1; clear hw1)
        go_ret
        rw [HF.out.err HX.out HZ.out, ← HR.out]
        exact ⟨rfl, HB.out.trans ((Only2.alloc _).trans B1.out), W1.out⟩
    · obtain rfl : k = n := by omega
      go_wp2
      go_ret
      rw [HF.out.all HL.out]
      exact ⟨rfl, HB.out, s', HW'.out, fun _ => rfl⟩
end Go.Proofs.Ytadjfkgnoklmiaa
/- A policy, one depth more (the project's walk.policy); Right, Rules. -/
namespace Go.Proofs.Ytadjfkgnoklmiaa
set_option linter.unusedVariables false
open Go.RowKit Go.Sort

theorem each_len {a b d n2 n3 l : Nat} (h : a + (16 + 16 * d) < 800000) (h1 : b ≤ a + l * 1) (hl : l = n2) (h2 : n2 ≤ 16) (h3 : n3 ≤ 16) : b + n3 * d < 800000 := by
  have : n3 * d ≤ 16 * d := Nat.mul_le_mul_right _ h3
  omega
set_option maxRecDepth 100000 in
set_option maxHeartbeats 3200000 in
theorem pol_succ {d : Nat} (ih : PolOk d) (hd : d ≤ 3) : PolOk (d + 1) := by
  intro w g B s R m p A1 A2 A3 A4 n1 k1 n2 k2 n3 k3 n4 k4 hk hlen hR hid h1 h2 h3 h4
  have e5 : (5 : Int) - ((d + 1 : Nat) : Int) = 4 - (d : Int) := by omega
  rw [e5]
  have hdd : 1 ≤ (4 - (d : Int)) ∧ (4 - (d : Int)) ≤ 4 := by omega
  have HW := Lib.hid hk
  have H1 := Lib.hid h1
  have H2 := Lib.hid h2
  have H3 := Lib.hid h3
  have H4 := Lib.hid h4
  have HRR := Lib.hid hR
  have HLEN := Lib.hid hlen
  have HN : Hid (p.rules.length = n2 ∧ p.kids.length = n3) := ⟨Rw.len h2, Rw.len h3⟩
  have HC23 : Hid ((n2 ≤ k2 ∧ k2 ≤ maxLen) ∧ n3 ≤ k3 ∧ k3 ≤ maxLen) := ⟨⟨Rw.le h2, Rw.cap h2⟩, Rw.le h3, Rw.cap h3⟩
  obtain ⟨q, hq⟩ : ∃ q, q = 4 - (d : Int) := ⟨_, rfl⟩
  rw [← hq] at hdd ⊢
  have HQ := Lib.hid hq
  clear hq e5
  have hkeep0 := ((hk.alloc (.cells #[.pointer (some ⟨g, 0, none⟩)] 106)).alloc (.cells #[.string p.id, .bool p.set, .int .i64 p.alg, .slice A1 n1 k1, .slice A2 n2 k2, .slice A3 n3 k3, .slice A4 n4 k4] 32)).alloc (.cells #[.int .i64 q] 3)
  have hl : s.ids.length < 1000000 := by omega
  have HF := Lib.hid (fresh_any p.id hid hkeep0.ob hkeep0.map hkeep0.ne hl)
  have hgl : g < w.heap.size := hk.ob.lt
  have hBl : B < w.heap.size := hk.map.lt
  have hne := hk.ne
  have HFT := Lib.hid (fun W => fits_any p.id p.set p.alg A1 A2 A3 A4 n1 n2 n3 n4 k1 k2 k3 k4 W)
  have HFE : Hid (fitsB p = fitsN p.set p.alg n2 n3) := by
    show fitsB p = fitsN p.set p.alg n2 n3
    rw [fits_eq, HN.out.1, HN.out.2]
  have PA : Hid (Ob (((w.alloc (.cells #[.pointer (some ⟨g, 0, none⟩)] 106)).alloc (.cells #[.string p.id, .bool p.set, .int .i64 p.alg, .slice A1 n1 k1, .slice A2 n2 k2, .slice A3 n3 k3, .slice A4 n4 k4] 32)).alloc (.cells #[.int .i64 q] 3)) w.heap.size 106 #[.pointer (some ⟨g, 0, none⟩)]) :=
    ((Ob.made w _ _).keep (Below.heap_alloc _ _ _ (by simp))).keep (Below.heap_alloc _ _ _ (by simp; omega))
  have XA : Hid (Ob (((w.alloc (.cells #[.pointer (some ⟨g, 0, none⟩)] 106)).alloc (.cells #[.string p.id, .bool p.set, .int .i64 p.alg, .slice A1 n1 k1, .slice A2 n2 k2, .slice A3 n3 k3, .slice A4 n4 k4] 32)).alloc (.cells #[.int .i64 q] 3)) (w.heap.size + 1) 32 #[.string p.id, .bool p.set, .int .i64 p.alg, .slice A1 n1 k1, .slice A2 n2 k2, .slice A3 n3 k3, .slice A4 n4 k4]) := by
    have := Ob.made (w.alloc (.cells #[.pointer (some ⟨g, 0, none⟩)] 106)) 32 #[.string p.id, .bool p.set, .int .i64 p.alg, .slice A1 n1 k1, .slice A2 n2 k2, .slice A3 n3 k3, .slice A4 n4 k4]
    rw [size_al] at this
    exact this.keep (Below.heap_alloc _ _ _ (by simp))
  have IA : Hid (Ob (((w.alloc (.cells #[.pointer (some ⟨g, 0, none⟩)] 106)).alloc (.cells #[.string p.id, .bool p.set, .int .i64 p.alg, .slice A1 n1 k1, .slice A2 n2 k2, .slice A3 n3 k3, .slice A4 n4 k4] 32)).alloc (.cells #[.int .i64 q] 3)) (w.heap.size + 1 + 1) 3 #[.int .i64 q]) := by
    have := Ob.made ((w.alloc (.cells #[.pointer (some ⟨g, 0, none⟩)] 106)).alloc (.cells #[.string p.id, .bool p.set, .int .i64 p.alg, .slice A1 n1 k1, .slice A2 n2 k2, .slice A3 n3 k3, .slice A4 n4 k4] 32)) 3 #[.int .i64 q]
    rw [size_al, size_al] at this
    exact this
  have GA : Hid (Only2 g B w (((w.alloc (.cells #[.pointer (some ⟨g, 0, none⟩)] 106)).alloc (.cells #[.string p.id, .bool p.set, .int .i64 p.alg, .slice A1 n1 k1, .slice A2 n2 k2, .slice A3 n3 k3, .slice A4 n4 k4] 32)).alloc (.cells #[.int .i64 q] 3))) := ((Only2.alloc _).trans (Only2.alloc _)).trans (Only2.alloc _)
  clear hk hkeep0 h1 h2 h3 h4 hR hlen hl hid
  by_cases hfr : (decide (Named (bl p.id)) && !metB p.id s.ids) = true
  · rw [hfr] at HF
    have HE : Hid (polS (d + 1) p s = (if fitsB p = false then (1, ⟨s.ids ++ [p.id], s.n⟩)
        else if orE (tgE p.tg) (obE p.ob) ≠ 0 then (orE (tgE p.tg) (obE p.ob), ⟨s.ids ++ [p.id], s.n⟩)
        else if 16 < n2 ∨ 16 < n3 then (6, ⟨s.ids ++ [p.id], s.n⟩)
        else if (firstS ruleS p.rules ⟨s.ids ++ [p.id], s.n⟩).1 ≠ 0 then firstS ruleS p.rules ⟨s.ids ++ [p.id], s.n⟩
        else firstS (polS d) p.kids (firstS ruleS p.rules ⟨s.ids ++ [p.id], s.n⟩).2)) := by
      show polS (d + 1) p s = _
      simp only [polS, idS_some hfr, HN.out.1, HN.out.2]
    have HS1 : Hid ((⟨s.ids ++ [p.id], s.n⟩ : Seen).ids.length = s.ids.length + 1) := by simp [Hid]
    clear hfr
    generalize polS (d + 1) p s = z at *
    by_cases hfit : fitsN p.set p.alg n2 n3 = false
    · rw [hfit] at HFE HFT
      rw [HFE.out, if_pos rfl] at HE
      clear hfit
      go_enter Try.func30, Try.ntmps30
      go_wp2_with (first
        | (go_at_call 50; refine HF.out.mono ?_; rintro e w1 ⟨rfl, hb1, hm1⟩; have X1 := Lib.hid (XA.out.keep (hb1.heap XA.out.lt (by omega))); have x0 := X1.out.cell 0; have x1 := X1.out.cell 1; have x2 := X1.out.cell 2; have x3 := X1.out.cell 3; have x4 := X1.out.cell 4; have x5 := X1.out.cell 5; have x6 := X1.out.cell 6)
        | (go_at_call 51; refine (HFT.out _).mono ?_; rintro e w2 ⟨rfl, hb2⟩))
      go_ret
      rw [HE.out]
      refine ⟨rfl, (GA.out.trans (Only2.of_B hb1)).trans (Only2.of_below hb2), ⟨s.ids ++ [p.id], s.n⟩, ?_, fun h => by cases h⟩
      have o0 : Ob w1 g 65 #[.map (some B), .int .i64 s.n] := (((HW.out.alloc _).alloc _).alloc _).ob.keep (hb1.heap (((HW.out.alloc _).alloc _).alloc _).ob.lt hne)
      exact ⟨o0.below hb2 o0.lt, hm1.below hb2, hne, by have := HW.out.few; show s.n ≤ (s.ids ++ [p.id]).length; simp; omega⟩
    · rw [Bool.not_eq_false] at hfit
      rw [hfit] at HFE HFT
      rw [HFE.out, if_neg (by simp)] at HE
      clear hfit
      go_enter Try.func30, Try.ntmps30
      go_wp2_with (first
        | (go_at_call 50; refine HF.out.mono ?_; rintro e w1 ⟨rfl, hb1, hm1⟩; have X1 := Lib.hid (XA.out.keep (hb1.heap XA.out.lt (by omega))); have x0 := X1.out.cell 0; have x1 := X1.out.cell 1; have x2 := X1.out.cell 2; have x3 := X1.out.cell 3; have x4 := X1.out.cell 4; have x5 := X1.out.cell 5; have x6 := X1.out.cell 6)
        | (go_at_call 51; refine (HFT.out _).mono ?_; rintro e w2 ⟨rfl, hb2⟩))
      have hB2 := (below_step hb2 (Below.refl _ _))
      have W2 : Hid (Wk w2 g B ⟨s.ids ++ [p.id], s.n⟩) := by
        have o0 : Ob w1 g 65 #[.map (some B), .int .i64 s.n] := (((HW.out.alloc _).alloc _).alloc _).ob.keep (hb1.heap (((HW.out.alloc _).alloc _).alloc _).ob.lt hne)
        exact ⟨o0.below hb2 o0.lt, hm1.below hb2, hne, by have := HW.out.few; show s.n ≤ (s.ids ++ [p.id]).length; simp; omega⟩
      have X2 := Lib.hid (X1.out.below hb2 X1.out.lt)
      have P2 : Hid (Ob w2 w.heap.size 106 #[.pointer (some ⟨g, 0, none⟩)]) := by
        have o0 := PA.out.keep (hb1.heap PA.out.lt (by omega))
        exact o0.below hb2 o0.lt
      have I2 : Hid (Ob w2 (w.heap.size + 1 + 1) 3 #[.int .i64 q]) := by
        have o0 := IA.out.keep (hb1.heap IA.out.lt (by omega))
        exact o0.below hb2 o0.lt
      have G2 : Hid (Only2 g B w w2) := (GA.out.trans (Only2.of_B hb1)).trans (Only2.of_below hb2)
      clear x0 x1 x2 x3 x4 x5 x6 hb1 hm1 hb2 hB2 X1 HF HFT PA XA IA GA
      have T1 := Lib.hid (H1.out.keep (G2.out.kept HRR.out) (fun _ h _ => h))
      have T4 := Lib.hid (H4.out.keep (G2.out.kept HRR.out) (fun _ h _ => h))
      have KK := Lib.hid (below_regrown w2)
      have Q1 : Hid (∀ d os, Calls Try.prog 53 #[.slice A1 n1 k1] (grow (redrawn w2 d) os) fun e w'' => e = .returned (.int .i64 (tgE p.tg)) ∧ ∃ p : Regrown, w'' = grow (redrawn w2 p.d) p.os) := fun d os => Calls.regrown_of (target_any _ (T1.out.keep (Kept.all (KK.out d os) R) (fun _ h _ => h)))
      have Q4 : Hid (∀ d os, Calls Try.prog 54 #[.slice A4 n4 k4] (grow (redrawn w2 d) os) fun e w'' => e = .returned (.int .i64 (obE p.ob)) ∧ ∃ p : Regrown, w'' = grow (redrawn w2 p.d) p.os) := fun d os => Calls.regrown_of (obls_any _ (T4.out.keep (Kept.all (KK.out d os) R) (fun _ h _ => h)))
      have y3 := fun d os => cell_regrown (X2.out.cell 3) d os
      have y6 := fun d os => cell_regrown (X2.out.cell 6) d os
      have HOR := Lib.hid (or2 (tgE p.tg) (obE p.ob))
      generalize tgE p.tg = a1 at *
      generalize obE p.ob = a3 at *
      refine wp_region_below_tail 6 (by kernel_rfl) (by kernel_rfl) ?_
      simp only [List.take_succ_cons, List.take_zero, List.drop_succ_cons, List.drop_zero]
      repeat (go_big_quiet_step ((first
        | (go_at_call 53; exact Q1.out _ _)
        | (go_at_call 54; exact Q4.out _ _))))
      refine wpQuiet_nil ?_
      intro _ hw'
      obtain ⟨⟨dq, osq⟩, hw''⟩ := hw'
      subst hw''
      have hbel := below_regrown w2 dq osq
      have W4 := Lib.hid (W2.out.below hbel)
      have X4 := Lib.hid (X2.out.below hbel X2.out.lt)
      have P4 := Lib.hid (P2.out.below hbel P2.out.lt)
      have I4 := Lib.hid (I2.out.below hbel I2.out.lt)
      have G4 := Lib.hid (G2.out.trans (Only2.of_below hbel))
      clear y3 y6 hbel Q1 Q4 KK W2 X2 P2 I2 G2 T1 T4
      dsimp only at W4 X4 P4 I4 G4 ⊢
      generalize grow (redrawn w2 dq) osq = w4 at *
      have HSL := Lib.hid (Sl.lit w4 23 (ev [a1, a3]) 2 rfl (by simp [maxLen]))
      have HOA := Lib.hid (or_any (l := [a1, a3]) HSL.out (by omega) (by simp))
      rw [HOR.out] at HOA
      obtain ⟨r, hr⟩ : ∃ r, r = orE a1 a3 := ⟨_, rfl⟩
      rw [← hr] at HOA HE
      have L4 : Hid (Below w4.heap.size w4 (w4.alloc (.cells (ev [a1, a3]).toArray 23))) := (Below.refl _ _).alloc (Nat.le_refl _) _
      have W5 := Lib.hid (W4.out.below L4.out)
      have X5 := Lib.hid (X4.out.below L4.out X4.out.lt)
      have P5 := Lib.hid (P4.out.below L4.out P4.out.lt)
      have I5 := Lib.hid (I4.out.below L4.out I4.out.lt)
      have G5 := Lib.hid (G4.out.trans (Only2.of_below L4.out))
      clear hr HOR W4 X4 P4 I4 G4 HSL
      by_cases hor : r = 0
      · subst hor
        rw [if_neg (by simp)] at HE
        by_cases hn : 16 < n2 ∨ 16 < n3
        · rw [if_pos hn] at HE
          by_cases hn2 : 16 < n2
          · have hz2 : (16 : Int) < (n2 : Int) := by omega
            clear hn
            go_wp2_with (first
              | (go_at_call 52; refine HOA.out.mono ?_; rintro e w5 ⟨rfl, hw5⟩; rw [← hw5] at W5 X5 P5 I5 G5; clear hw5; have x4 := X5.out.cell 4; have x5 := X5.out.cell 5))
            go_ret
            rw [HE.out]
            exact ⟨rfl, G5.out, _, W5.out, fun h => by cases h⟩
          · have hz2 : ¬ (16 : Int) < (n2 : Int) := by omega
            have hz3 : (16 : Int) < (n3 : Int) := by omega
            clear hn
            go_wp2_with (first
              | (go_at_call 52; refine HOA.out.mono ?_; rintro e w5 ⟨rfl, hw5⟩; rw [← hw5] at W5 X5 P5 I5 G5; clear hw5; have x4 := X5.out.cell 4; have x5 := X5.out.cell 5))
            go_ret
            rw [HE.out]
            exact ⟨rfl, G5.out, _, W5.out, fun h => by cases h⟩
        · rw [if_neg hn] at HE
          have hz2 : ¬ (16 : Int) < (n2 : Int) := by omega
          have hz3 : ¬ (16 : Int) < (n3 : Int) := by omega
          have HN16 : Hid (n2 ≤ 16 ∧ n3 ≤ 16) := ⟨by omega, by omega⟩
          clear hn
          have hl1 : (⟨s.ids ++ [p.id], s.n⟩ : Seen).ids.length + (16 + 16 * idsB d) < 800000 := by
            have e1 := HLEN.out
            have e3 : idsB (d + 1) = 17 + 16 * idsB d := rfl
            show (s.ids ++ [p.id]).length + (16 + 16 * idsB d) < 800000
            rw [List.length_append, List.length_singleton]
            omega
          have HL1 := Lib.hid hl1
          have R5 := Lib.hid (H2.out.keep (G5.out.kept HRR.out) (fun _ h _ => h))
          have HER := Lib.hid (each_rule W5.out (by have := HL1.out; omega) (by have := HN16.out; omega) HRR.out R5.out)
          have HRI := Lib.hid (firstS_ids (c := 1) ruleS_ids p.rules ⟨s.ids ++ [p.id], s.n⟩)
          have HGL : Hid ((w.heap.size < (w4.alloc (.cells (ev [a1, a3]).toArray 23)).heap.size) ∧ w.heap.size + 1 + 1 < (w4.alloc (.cells (ev [a1, a3]).toArray 23)).heap.size) := ⟨P5.out.lt, I5.out.lt⟩
          clear hl1
          generalize (⟨s.ids ++ [p.id], s.n⟩ : Seen) = s1 at *
          obtain ⟨r1, hr1⟩ : ∃ r1, r1 = firstS ruleS p.rules s1 := ⟨_, rfl⟩
          rw [← hr1] at HER HE HRI
          clear hr1
          by_cases hrz : r1.1 = 0
          · have HRZ := Lib.hid hrz
            rw [hrz] at HER HE
            rw [if_neg (by simp)] at HE
            clear hrz
            have HHH : Hid ((w.heap.size ≠ g ∧ w.heap.size ≠ B) ∧ w.heap.size + 1 + 1 ≠ g ∧ w.heap.size + 1 + 1 ≠ B) := ⟨⟨by omega, by omega⟩, by omega, by omega⟩
            have HD4 : Hid (d ≤ 4) := Nat.le_succ_of_le hd
            have HEL := Lib.hid (each_len HL1.out HRI.out HN.out.1 HN16.out.1 HN16.out.2)
            have I5' := I5.out
            rw [HQ.out] at I5'
            have J5 := Lib.hid I5'
            clear I5'
            go_wp2_with (first
              | (go_at_call 52; refine HOA.out.mono ?_; rintro e w5 ⟨rfl, hw5⟩; rw [← hw5] at W5 X5 P5 I5 G5 HER HGL J5; clear hw5; have x4 := X5.out.cell 4; have x5 := X5.out.cell 5; have p5 := P5.out.cell 0)
              | (go_at_call 55; refine HER.out.mono ?_; rintro e w6 ⟨rfl, hb6, hw6⟩; have B6 := Lib.hid hb6; have W6 := Lib.hid (hw6.ok HRZ.out); have X6 := Lib.hid (X5.out.keep (hb6.heap X5.out.lt (by omega) (by omega))); have P6 := Lib.hid (P5.out.keep (hb6.heap P5.out.lt (by omega) (by omega))); have I6 := Lib.hid (J5.out.keep (hb6.heap J5.out.lt (by omega) (by omega))); have y5 := X6.out.cell 5; have K6 := Lib.hid (H3.out.keep ((G5.out.trans hb6).kept HRR.out) (fun _ h _ => h)); clear hb6 hw6 x4 x5 p5)
              | (go_at_call 57; refine (each_pol ih HD4.out W6.out HEL.out HRR.out P6.out I6.out HHH.out K6.out).mono ?_; rintro e w7 ⟨rfl, hb7, hw7⟩))
            go_ret
            rw [HE.out]
            exact ⟨rfl, (G5.out.trans B6.out).trans hb7, hw7⟩
          · have hne1 : (r1.1 != 0) = true := by simpa using hrz
            rw [if_pos hrz] at HE
            have HRZ := Lib.hid hrz
            clear hrz
            go_wp2_with (first
              | (go_at_call 52; refine HOA.out.mono ?_; rintro e w5 ⟨rfl, hw5⟩; rw [← hw5] at W5 X5 P5 I5 G5 HER HGL; clear hw5; have x4 := X5.out.cell 4; have x5 := X5.out.cell 5; have p5 := P5.out.cell 0)
              | (go_at_call 55; refine HER.out.mono ?_; rintro e w6 ⟨rfl, hb6, hw6⟩; have B6 := Lib.hid hb6; have W6 := Lib.hid hw6; clear hw6))
            go_ret
            rw [HE.out]
            exact ⟨rfl, G5.out.trans B6.out, W6.out⟩
      · have hne0 : (r != 0) = true := by simpa using hor
        rw [if_pos hor] at HE
        have HOZ := Lib.hid hor
        clear hor
        go_wp2_with (first
          | (go_at_call 52; refine HOA.out.mono ?_; rintro e w5 ⟨rfl, rfl⟩))
        go_ret
        rw [HE.out]
        exact ⟨rfl, G5.out, _, W5.out, fun h => absurd h HOZ.out⟩
  · rw [Bool.not_eq_true] at hfr
    rw [hfr] at HF
    have HE : Hid (polS (d + 1) p s = (1, s)) := by
      show polS (d + 1) p s = _
      simp only [polS, idS_none hfr]
    clear hfr
    generalize polS (d + 1) p s = z at *
    go_enter Try.func30, Try.ntmps30
    go_wp2_with (first
      | (go_at_call 50; refine HF.out.mono ?_; rintro e w1 ⟨rfl, hb1, hm1⟩))
    go_ret
    rw [HE.out]
    have o0 : Ob w1 g 65 #[.map (some B), .int .i64 s.n] := (((HW.out.alloc _).alloc _).alloc _).ob.keep (hb1.heap (((HW.out.alloc _).alloc _).alloc _).ob.lt hne)
    exact ⟨rfl, (((Only2.alloc _).trans (Only2.alloc _)).trans (Only2.alloc _)).trans (Only2.of_B hb1), ⟨s.ids ++ [p.id], s.n⟩, ⟨o0, hm1, hne, by have := HW.out.few; show s.n ≤ (s.ids ++ [p.id]).length; simp; omega⟩, fun h => by cases h⟩
end Go.Proofs.Ytadjfkgnoklmiaa
/- Right, Rules (the project's), over any policy. -/
namespace Go.Proofs.Ytadjfkgnoklmiaa
set_option linter.unusedVariables false
open Go.RowKit Go.Sort

theorem pol_four : PolOk 4 := pol_succ (pol_succ (pol_succ (pol_succ pol_zero (by omega)) (by omega)) (by omega)) (by omega)

theorem walk_ret2 {fn : Func} {p u : Tmp} {tmps : Array Value} {w : World} {g : Nat} {a b v : Value} (h : fn.results = #[.cell p 65, .tmp u]) (hp : tmps.getD p undef = .pointer (some ⟨g, 0, none⟩)) (hu : tmps.getD u undef = v) (hg : Ob w g 65 #[a, b]) :
    (results fn tmps).run Try.prog w = .ok (.tuple #[.agg #[a, b], v]) w := by
  rw [results_cell_tmp h, hp, hu]
  have hl := run_loadVar_row (P := Try.prog) w g 65 _ _ (0, 0) _ hg Try.underlying65 rfl (by kernel_rfl)
  simp [asAddr, hl, Result.andThen]

def PolIn (w : World) (R : Nat → Prop) (p : Pol) (A1 : Option Addr) (n1 k1 : Nat) (A2 : Option Addr) (n2 k2 : Nat) (A3 : Option Addr) (n3 k3 : Nat) (A4 : Option Addr) (n4 k4 : Nat) : Prop :=
  (p.id.size ≤ maxLen ∧ InI p.alg) ∧ Tg w R A1 n1 k1 p.tg ∧ Rus w R A2 n2 k2 p.rules ∧ (∃ m, Pls w R m A3 n3 k3 p.kids) ∧ Dus w R A4 n4 k4 p.ob
section
variable {w w' : World} {R R' : Nat → Prop} {p : Pol} {A1 A2 A3 A4 : Option Addr} {n1 k1 n2 k2 n3 k3 n4 k4 : Nat}
theorem PolIn.keep (h : PolIn w R p A1 n1 k1 A2 n2 k2 A3 n3 k3 A4 n4 k4) (hk : Kept R w w') (hR : ∀ b, R b → b < w.heap.size → R' b) : PolIn w' R' p A1 n1 k1 A2 n2 k2 A3 n3 k3 A4 n4 k4 := by
  obtain ⟨h0, h1, h2, ⟨m, h3⟩, h4⟩ := h
  exact ⟨h0, h1.keep hk hR, h2.keep hk hR, ⟨m, h3.keep hk hR⟩, h4.keep hk hR⟩
theorem PolIn.low (h : PolIn w R p A1 n1 k1 A2 n2 k2 A3 n3 k3 A4 n4 k4) : PolIn w (fun b => b < w.heap.size) p A1 n1 k1 A2 n2 k2 A3 n3 k3 A4 n4 k4 := h.keep (Kept.refl _ _) fun _ _ h => h
theorem PolIn.then_ (h : PolIn w R p A1 n1 k1 A2 n2 k2 A3 n3 k3 A4 n4 k4) (hb : Below w.heap.size w w') : PolIn w' R p A1 n1 k1 A2 n2 k2 A3 n3 k3 A4 n4 k4 := h.keep (Kept.all hb R) fun _ h _ => h

set_option maxRecDepth 100000 in
set_option maxHeartbeats 1600000 in
theorem through_any (h : PolIn w R p A1 n1 k1 A2 n2 k2 A3 n3 k3 A4 n4 k4) :
    Calls Try.prog 20 #[.agg #[.string p.id, .bool p.set, .int .i64 p.alg, .slice A1 n1 k1, .slice A2 n2 k2, .slice A3 n3 k3, .slice A4 n4 k4]] w
      fun e w' => ∃ (B n : Nat), e = .returned (.tuple #[.agg #[.map (some B), .int .i64 n], .int .i64 (rightE p)]) ∧ (rightE p = 0 → n = rulesN p) ∧ Below w.heap.size w w' := by
  have hmm := @run_makeMap Try.prog
  have h' := h.low
  have HP := Lib.hid h'
  obtain ⟨⟨hid, halg⟩, _⟩ := h
  have HID := Lib.hid hid
  clear h' hid halg
  have W0 : Hid (Wk ((((w.alloc (.cells #[.string p.id, .bool p.set, .int .i64 p.alg, .slice A1 n1 k1, .slice A2 n2 k2, .slice A3 n3 k3, .slice A4 n4 k4] 32)).alloc (.cells #[.map none, .int .i64 0] 65)).alloc (.map #[] 0)).alloc (.cells #[.map (some (w.heap.size + 1 + 1)), .int .i64 0] 65)) (w.heap.size + 1 + 1 + 1) (w.heap.size + 1 + 1) ⟨[], 0⟩) := by
    refine ⟨?_, ?_, by omega, Nat.le_refl _⟩
    · have := Ob.made (((w.alloc (.cells #[.string p.id, .bool p.set, .int .i64 p.alg, .slice A1 n1 k1, .slice A2 n2 k2, .slice A3 n3 k3, .slice A4 n4 k4] 32)).alloc (.cells #[.map none, .int .i64 0] 65)).alloc (.map #[] 0)) 65 #[.map (some (w.heap.size + 1 + 1)), .int .i64 0]
      rwa [size_al, size_al, size_al] at this
    · have := (MapIs.made ((w.alloc (.cells #[.string p.id, .bool p.set, .int .i64 p.alg, .slice A1 n1 k1, .slice A2 n2 k2, .slice A3 n3 k3, .slice A4 n4 k4] 32)).alloc (.cells #[.map none, .int .i64 0] 65))).below ((Below.refl _ (((w.alloc (.cells #[.string p.id, .bool p.set, .int .i64 p.alg, .slice A1 n1 k1, .slice A2 n2 k2, .slice A3 n3 k3, .slice A4 n4 k4] 32)).alloc (.cells #[.map none, .int .i64 0] 65)).alloc (.map #[] 0))).alloc (Nat.le_refl _) (.cells #[.map (some (w.heap.size + 1 + 1)), .int .i64 0] 65))
      rwa [size_al, size_al] at this
  have R0 : Hid (Ob ((((w.alloc (.cells #[.string p.id, .bool p.set, .int .i64 p.alg, .slice A1 n1 k1, .slice A2 n2 k2, .slice A3 n3 k3, .slice A4 n4 k4] 32)).alloc (.cells #[.map none, .int .i64 0] 65)).alloc (.map #[] 0)).alloc (.cells #[.map (some (w.heap.size + 1 + 1)), .int .i64 0] 65)) (w.heap.size + 1) 65 #[.map none, .int .i64 0]) := by
    have h0 := Ob.made (w.alloc (.cells #[.string p.id, .bool p.set, .int .i64 p.alg, .slice A1 n1 k1, .slice A2 n2 k2, .slice A3 n3 k3, .slice A4 n4 k4] 32)) 65 #[.map none, .int .i64 0]
    rw [size_al] at h0
    have h1 := h0.keep (Below.heap_alloc ((w.alloc (.cells #[.string p.id, .bool p.set, .int .i64 p.alg, .slice A1 n1 k1, .slice A2 n2 k2, .slice A3 n3 k3, .slice A4 n4 k4] 32)).alloc (.cells #[.map none, .int .i64 0] 65)) (.map #[] 0) _ (by simp))
    exact h1.keep (Below.heap_alloc _ _ _ (by first | (simp; done) | (simp; omega)))
  have D0 : Hid (Below w.heap.size w ((((w.alloc (.cells #[.string p.id, .bool p.set, .int .i64 p.alg, .slice A1 n1 k1, .slice A2 n2 k2, .slice A3 n3 k3, .slice A4 n4 k4] 32)).alloc (.cells #[.map none, .int .i64 0] 65)).alloc (.map #[] 0)).alloc (.cells #[.map (some (w.heap.size + 1 + 1)), .int .i64 0] 65))) := ((((Below.refl _ w).alloc (Nat.le_refl _) _).alloc (by simp) _).alloc (by first | (simp; done) | (simp; omega)) _).alloc (by first | (simp; done) | (simp; omega)) _
  have HIN := Lib.hid (HP.out.keep (Kept.below D0.out (R := fun b => b < w.heap.size) (fun _ h _ => h)) (fun _ h _ => h))
  have HC : Hid (Calls Try.prog 30 #[.pointer (some ⟨w.heap.size + 1 + 1 + 1, 0, none⟩), .agg #[.string p.id, .bool p.set, .int .i64 p.alg, .slice A1 n1 k1, .slice A2 n2 k2, .slice A3 n3 k3, .slice A4 n4 k4], .int .i64 1] ((((w.alloc (.cells #[.string p.id, .bool p.set, .int .i64 p.alg, .slice A1 n1 k1, .slice A2 n2 k2, .slice A3 n3 k3, .slice A4 n4 k4] 32)).alloc (.cells #[.map none, .int .i64 0] 65)).alloc (.map #[] 0)).alloc (.cells #[.map (some (w.heap.size + 1 + 1)), .int .i64 0] 65))
      fun e w' => e = .returned (.int .i64 (polS 4 p ⟨[], 0⟩).1) ∧ Only2 (w.heap.size + 1 + 1 + 1) (w.heap.size + 1 + 1) ((((w.alloc (.cells #[.string p.id, .bool p.set, .int .i64 p.alg, .slice A1 n1 k1, .slice A2 n2 k2, .slice A3 n3 k3, .slice A4 n4 k4] 32)).alloc (.cells #[.map none, .int .i64 0] 65)).alloc (.map #[] 0)).alloc (.cells #[.map (some (w.heap.size + 1 + 1)), .int .i64 0] 65)) w' ∧ WkE w' (w.heap.size + 1 + 1 + 1) (w.heap.size + 1 + 1) (polS 4 p ⟨[], 0⟩)) := by
    obtain ⟨h0, h1, h2, ⟨m, h3⟩, h4⟩ := HIN.out
    exact pol_four W0.out (by simp [idsB]) (fun b hb => ⟨by omega, by omega⟩) h0.1 h1 h2 h3 h4
  have HE : Hid (rightE p = (polS 4 p ⟨[], 0⟩).1 ∧ rulesN p = (polS 4 p ⟨[], 0⟩).2.n) := ⟨rfl, rfl⟩
  generalize polS 4 p ⟨[], 0⟩ = z at *
  go_enter Try.func20, Try.ntmps20
  go_wp2_with (first
    | (go_at_call 30; refine HC.out.mono ?_; rintro e w1 ⟨rfl, hb1, s', hs', hz'⟩; have S1 := Lib.hid hs'; have O1 := hs'.ob; have Z1 := Lib.hid hz'; have D1 := Lib.hid (D0.out.trans (hb1.below D0.out.size (by omega) (by omega))); have c0 := O1.cell 0; have c1 := O1.cell 1; have R1 := Lib.hid (R0.out.keep (hb1.heap R0.out.lt (by omega) (by omega))); have d0 := R1.out.cell 0; have d1 := R1.out.cell 1; have f0 := R1.out.frozen 0; have f1 := R1.out.frozen 1; clear hb1 hs' hz' O1))
  try simp only [Exit.inBlock, Exit.then]
  refine bodyPost_ret (walk_ret2 (a := .map (some (w.heap.size + 1 + 1))) (b := .int .i64 (s'.n : Int)) rfl rfl rfl (by simpa using (R1.out.put 0 (.map (some (w.heap.size + 1 + 1)))).put 1 (.int .i64 (s'.n : Int)))) rfl ?_
  refine ⟨w.heap.size + 1 + 1, s'.n, by rw [HE.out.1]; rfl, fun h => ?_, (D1.out.setCell (p := ⟨w.heap.size + 1, 0, none⟩) (by simp) _).setCell (p := ⟨w.heap.size + 1, 1, none⟩) (by simp) _⟩
  rw [Z1.out (by rw [← HE.out.1]; exact h), HE.out.2]

theorem right_pol (h : PolIn w R p A1 n1 k1 A2 n2 k2 A3 n3 k3 A4 n4 k4) :
    Calls Try.prog 11 #[.agg #[.string p.id, .bool p.set, .int .i64 p.alg, .slice A1 n1 k1, .slice A2 n2 k2, .slice A3 n3 k3, .slice A4 n4 k4]] w
      fun e w' => e = .returned (.int .i64 (rightE p)) ∧ Below w.heap.size w w' := by
  have HC := Lib.hid (through_any (h.then_ ((Below.refl _ w).alloc (Nat.le_refl _) (.cells #[.string p.id, .bool p.set, .int .i64 p.alg, .slice A1 n1 k1, .slice A2 n2 k2, .slice A3 n3 k3, .slice A4 n4 k4] 32))))
  clear h
  generalize rightE p = r at *
  go_enter Try.func11, Try.ntmps11
  go_wp2_with (first
    | (go_at_call 20; refine HC.out.mono ?_; rintro e w1 ⟨B, n, rfl, hn, hb1⟩; have D1 := Lib.hid (Below.lit hb1); clear hb1 hn))
  go_ret
  exact ⟨rfl, D1.out.alloc D1.out.size _⟩
end
end Go.Proofs.Ytadjfkgnoklmiaa
/- Rows that are laid as literals. -/
namespace Go.Proofs.Ytadjfkgnoklmiaa
set_option linter.unusedVariables false
open Go.RowKit

theorem flat_at {α : Type} {f : α → List Value} {k : Nat} : ∀ {l : List α} {j : Nat} {x : α} {i : Nat} {v : Value}, (∀ y ∈ l, (f y).length = k) → l[j]? = some x → (f x)[i]? = some v → (l.flatMap f)[j * k + i]? = some v
  | [], _, _, _, _, _, hx, _ => by simp at hx
  | y :: l, 0, x, i, v, hk, hx, hv => by
    simp at hx
    subst hx
    rw [List.flatMap_cons, Nat.zero_mul, Nat.zero_add, List.getElem?_append_left (by rw [List.getElem?_eq_some_iff] at hv; exact hv.1)]
    exact hv
  | y :: l, j + 1, x, i, v, hk, hx, hv => by
    have hy := hk y (by simp)
    rw [List.flatMap_cons, List.getElem?_append_right (by rw [hy, Nat.add_mul]; omega), hy, show (j + 1) * k + i - k = j * k + i by rw [Nat.add_mul]; omega]
    exact flat_at (fun y h => hk y (by simp [h])) (by simpa using hx) hv
theorem Rw.lit {α : Type} {k : Nat} {P : List Value → α → Prop} {R : Nat → Prop} (w : World) (t : TypeId) (f : α → List Value) (l : List α) {n : Nat} (hn : l.length = n) (hc : n ≤ 1000000) (hR : R w.heap.size) (hk : ∀ x ∈ l, (f x).length = k) (hP : ∀ x ∈ l, P (f x) x) :
    Rw k P (w.alloc (.cells (l.flatMap f).toArray t)) R (some ⟨w.heap.size, 0, none⟩) n n l := by
  refine ⟨hn, Nat.le_refl _, ⟨by simp [maxLen]; omega, by omega⟩, .inr ⟨w.heap.size, 0, rfl, hR, by simp, fun j x hx => ⟨f x, hk x (List.mem_of_getElem? hx), fun i v hv => ?_, hP x (List.mem_of_getElem? hx)⟩⟩⟩
  have := (Ob.made w t (l.flatMap f).toArray).cell (j * k + i)
  rw [Nat.zero_add, this, List.getElem?_toArray]
  exact flat_at hk hx hv
theorem Nds.lit (w : World) {R : Nat → Prop} (l : List Nod) {n : Nat} (hn : l.length = n) (hc : n ≤ 1000000) (hR : R w.heap.size) (hok : ∀ x ∈ l, x.ok) : Nds (w.alloc (.cells (l.flatMap Nod.cells).toArray 41)) R (some ⟨w.heap.size, 0, none⟩) n n l :=
  Rw.lit w _ Nod.cells l hn hc hR (fun _ _ => rfl) fun x hx => ⟨rfl, hok x hx⟩
theorem Dus.lit (w : World) {R : Nat → Prop} (l : List Dut) {n : Nat} (hn : l.length = n) (hc : n ≤ 1000000) (hR : R w.heap.size) (hok : ∀ x ∈ l, x.ok) : Dus (w.alloc (.cells (l.flatMap Dut.cells).toArray 105)) R (some ⟨w.heap.size, 0, none⟩) n n l :=
  Rw.lit w _ Dut.cells l hn hc hR (fun _ _ => rfl) fun x hx => ⟨rfl, hok x hx⟩
end Go.Proofs.Ytadjfkgnoklmiaa
