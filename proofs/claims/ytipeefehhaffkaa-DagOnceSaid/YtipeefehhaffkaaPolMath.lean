/- Policies, plainly: what they are of (chapter 8), and which are right. -/
import Derived.Test.YtipeefehhaffkaaVMath
namespace Go.Proofs.Ytipeefehhaffkaa
set_option linter.unusedVariables false

/-- What an int can hold. -/
def InI (n : Int) : Prop := -9223372036854775808 ≤ n ∧ n ≤ 9223372036854775807

structure Atr where
  cat : Int
  name : ByteArray
  must : Bool
structure Mat where
  a : Atr
  op : Int
  v : Vl
structure Nod where
  op : Int
  v : Vl
  a : Atr
structure Dut where
  on : Int
  kind : Int
  arg : ByteArray
abbrev Tgt := List (List (List Mat))
structure Rul where
  id : ByteArray
  deny : Bool
  tg : Tgt
  cond : List Nod
  ob : List Dut
inductive Pol where
  | mk (id : ByteArray) (set : Bool) (alg : Int) (tg : Tgt) (rules : List Rul) (kids : List Pol) (ob : List Dut)
def Pol.id : Pol → ByteArray | .mk a _ _ _ _ _ _ => a
def Pol.set : Pol → Bool | .mk _ a _ _ _ _ _ => a
def Pol.alg : Pol → Int | .mk _ _ a _ _ _ _ => a
def Pol.tg : Pol → Tgt | .mk _ _ _ a _ _ _ => a
def Pol.rules : Pol → List Rul | .mk _ _ _ _ a _ _ => a
def Pol.kids : Pol → List Pol | .mk _ _ _ _ _ a _ => a
def Pol.ob : Pol → List Dut | .mk _ _ _ _ _ _ a => a

def Atr.ok (a : Atr) : Prop := InI a.cat ∧ a.name.size ≤ maxLen
def Mat.ok (m : Mat) : Prop := m.a.ok ∧ InI m.op ∧ m.v.ok
def Nod.ok (n : Nod) : Prop := InI n.op ∧ n.v.ok ∧ n.a.ok
def Dut.ok (o : Dut) : Prop := InI o.on ∧ InI o.kind ∧ o.arg.size ≤ maxLen

instance (n : Int) : Decidable (InI n) := by unfold InI; infer_instance
instance (v : Vl) : Decidable v.ok := by unfold Vl.ok; infer_instance
instance (a : Atr) : Decidable a.ok := by unfold Atr.ok; infer_instance
instance (m : Mat) : Decidable m.ok := by unfold Mat.ok; infer_instance
instance (n : Nod) : Decidable n.ok := by unfold Nod.ok; infer_instance
instance (o : Dut) : Decidable o.ok := by unfold Dut.ok; infer_instance

/-- The bytes of a text. -/
def bl (s : ByteArray) : List UInt8 := s.data.toList

/-- The first error, as one goes through a list. -/
def firstE {α : Type} (f : α → Int) : List α → Int
  | [] => 0
  | x :: l => if f x ≠ 0 then f x else firstE f l
/-- So far none. -/
def FineTo {α : Type} (f : α → Int) (l : List α) (k : Nat) : Prop := ∀ j x, l[j]? = some x → j < k → f x = 0
theorem FineTo.zero {α : Type} (f : α → Int) (l : List α) : FineTo f l 0 := fun j x _ h => by omega
theorem FineTo.step {α : Type} {f : α → Int} {l : List α} {k : Nat} {x : α} (h : FineTo f l k) (hx : l[k]? = some x) (h0 : f x = 0) : FineTo f l (k + 1) := fun j y hy hj => by
  by_cases e : j = k
  · subst e
    obtain rfl := Option.some.inj (hx.symm.trans hy)
    exact h0
  · exact h j y hy (by omega)
theorem FineTo.tail {α : Type} {f : α → Int} {x : α} {l : List α} {k : Nat} (h : FineTo f (x :: l) (k + 1)) : f x = 0 ∧ FineTo f l k :=
  ⟨h 0 x rfl (by omega), fun j y hy hj => h (j + 1) y (by simpa using hy) (by omega)⟩
theorem FineTo.all {α : Type} {f : α → Int} : ∀ {l : List α} {n : Nat}, FineTo f l n → l.length = n → firstE f l = 0
  | [], _, _, _ => rfl
  | x :: l, 0, h, hn => by simp at hn
  | x :: l, n + 1, h, hn => by
    obtain ⟨h0, h1⟩ := h.tail
    simp only [firstE, h0, ne_eq, not_true, if_false]
    exact h1.all (by simpa using hn)
theorem FineTo.err {α : Type} {f : α → Int} : ∀ {l : List α} {k : Nat} {x : α}, FineTo f l k → l[k]? = some x → f x ≠ 0 → firstE f l = f x
  | [], _, _, _, hx, _ => by simp at hx
  | y :: l, 0, x, _, hx, h0 => by
    simp at hx
    subst hx
    simp [firstE, h0]
  | y :: l, k + 1, x, h, hx, h0 => by
    obtain ⟨h1, h2⟩ := h.tail
    simp only [firstE, h1, ne_eq, not_true, if_false]
    exact h2.err (by simpa using hx) h0

/-- P8.1. -/
def attrB (a : Atr) : Bool := decide (1 ≤ a.cat) && decide (a.cat ≤ 4) && decide (Named (bl a.name))
/-- P8.2. -/
def matE (m : Mat) : Int := if attrB m.a = true ∧ 1 ≤ m.op ∧ m.op ≤ 3 ∧ m.v.right then 0 else 1
def partsE (n : Nat) : Int := if n = 0 then 1 else if 8 < n then 6 else 0
def allE (l : List Mat) : Int := if partsE l.length ≠ 0 then partsE l.length else firstE matE l
def anyE (l : List (List Mat)) : Int := if partsE l.length ≠ 0 then partsE l.length else firstE allE l
def tgE (t : Tgt) : Int := if 8 < t.length then 6 else firstE anyE t
/-- P8.4. -/
def dutE (o : Dut) : Int := if (o.on = 1 ∨ o.on = 2) ∧ 1 ≤ o.kind ∧ o.kind ≤ 4 ∧ Named (bl o.arg) then 0 else 1
def obE (l : List Dut) : Int := if 8 < l.length then 6 else firstE dutE l

def zeroV : Vl := ⟨0, 0, ByteArray.empty⟩
def zeroA : Atr := ⟨0, ByteArray.empty, false⟩
theorem text_eq {a b : ByteArray} (h : bl a = bl b) : a = b := by
  obtain ⟨⟨x⟩⟩ := a
  obtain ⟨⟨y⟩⟩ := b
  simp_all [bl]
instance textDec : DecidableEq ByteArray := fun a b => if h : bl a = bl b then .isTrue (text_eq h) else .isFalse (by rintro rfl; exact h rfl)
theorem Atr.ext' {a b : Atr} (h1 : a.cat = b.cat) (h2 : a.name = b.name) (h3 : a.must = b.must) : a = b := by
  cases a; cases b; simp_all
instance : DecidableEq Atr := fun a b => if h : a.cat = b.cat ∧ bl a.name = bl b.name ∧ a.must = b.must then .isTrue (Atr.ext' h.1 (text_eq h.2.1) h.2.2) else .isFalse (by rintro rfl; exact h ⟨rfl, rfl, rfl⟩)

theorem Mat.ext' {a b : Mat} (h1 : a.a = b.a) (h2 : a.op = b.op) (h3 : a.v = b.v) : a = b := by cases a; cases b; simp_all
instance : DecidableEq Mat := fun a b => if h : a.a = b.a ∧ a.op = b.op ∧ a.v = b.v then .isTrue (Mat.ext' h.1 h.2.1 h.2.2) else .isFalse (by rintro rfl; exact h ⟨rfl, rfl, rfl⟩)
theorem Nod.ext' {a b : Nod} (h1 : a.op = b.op) (h2 : a.v = b.v) (h3 : a.a = b.a) : a = b := by cases a; cases b; simp_all
instance : DecidableEq Nod := fun a b => if h : a.op = b.op ∧ a.v = b.v ∧ a.a = b.a then .isTrue (Nod.ext' h.1 h.2.1 h.2.2) else .isFalse (by rintro rfl; exact h ⟨rfl, rfl, rfl⟩)
theorem Dut.ext' {a b : Dut} (h1 : a.on = b.on) (h2 : a.kind = b.kind) (h3 : a.arg = b.arg) : a = b := by cases a; cases b; simp_all
instance : DecidableEq Dut := fun a b => if h : a.on = b.on ∧ a.kind = b.kind ∧ a.arg = b.arg then .isTrue (Dut.ext' h.1 h.2.1 h.2.2) else .isFalse (by rintro rfl; exact h ⟨rfl, rfl, rfl⟩)

/-- P8.3: what a node may have beside its Op. -/
def holdsB (n : Nod) : Bool :=
  if n.op = 1 then decide n.v.right && decide (n.a = zeroA)
  else if n.op = 2 then decide (n.v = zeroV) && attrB n.a
  else decide (n.v = zeroV) && decide (n.a = zeroA)
/-- P8.3: what a node leaves of what stands ahead (the last ahead; true: a bag). -/
def popX (op : Int) (st : List Bool) : Option (List Bool) :=
  if op = 1 then some (false :: st)
  else if op = 2 then some (true :: st)
  else if op = 3 ∨ op = 4 then (match st with | true :: r => some (false :: r) | _ => none)
  else if op = 5 then (match st with | false :: true :: r => some (false :: r) | _ => none)
  else if op = 11 then (match st with | false :: r => some (false :: r) | _ => none)
  else if op = 6 ∨ op = 7 ∨ op = 8 ∨ op = 9 ∨ op = 10 ∨ op = 12 ∨ op = 13 then (match st with | false :: false :: r => some (false :: r) | _ => none)
  else none
/-- Does this stand at the end? (the last first) -/
def hasP (p st : List Bool) : Bool := decide (st.take p.length = p)
def patX (op : Int) : Option (List Bool) :=
  if op = 1 ∨ op = 2 then some []
  else if op = 3 ∨ op = 4 then some [true]
  else if op = 5 then some [false, true]
  else if op = 11 then some [false]
  else if op = 6 ∨ op = 7 ∨ op = 8 ∨ op = 9 ∨ op = 10 ∨ op = 12 ∨ op = 13 then some [false, false]
  else none
def makesX (op : Int) : Bool := decide (op = 2)
theorem ops_cases (op : Int) : op = 1 ∨ op = 2 ∨ op = 3 ∨ op = 4 ∨ op = 5 ∨ op = 6 ∨ op = 7 ∨ op = 8 ∨ op = 9 ∨ op = 10 ∨ op = 11 ∨ op = 12 ∨ op = 13 ∨
    (op ≠ 1 ∧ op ≠ 2 ∧ op ≠ 3 ∧ op ≠ 4 ∧ op ≠ 5 ∧ op ≠ 6 ∧ op ≠ 7 ∧ op ≠ 8 ∧ op ≠ 9 ∧ op ≠ 10 ∧ op ≠ 11 ∧ op ≠ 12 ∧ op ≠ 13) := by omega
theorem popX_pat (op : Int) (st : List Bool) : popX op st = (match patX op with | none => none | some p => if hasP p st = true then some (makesX op :: st.drop p.length) else none) := by
  rcases ops_cases op with rfl | rfl | rfl | rfl | rfl | rfl | rfl | rfl | rfl | rfl | rfl | rfl | rfl | h
  case inr.inr.inr.inr.inr.inr.inr.inr.inr.inr.inr.inr.inr =>
    obtain ⟨h1, h2, h3, h4, h5, h6, h7, h8, h9, h10, h11, h12, h13⟩ := h
    simp [popX, patX, h1, h2, h3, h4, h5, h6, h7, h8, h9, h10, h11, h12, h13]
  all_goals
    rcases st with _ | ⟨_ | _, _ | ⟨_ | _, st⟩⟩ <;> simp [popX, patX, hasP, makesX]
theorem patX_len {op : Int} {p : List Bool} (h : patX op = some p) : p.length ≤ 2 := by
  unfold patX at h
  repeat' split at h
  all_goals (try cases h) <;> simp
def stepX (n : Nod) (st : List Bool) : Option (List Bool) := if holdsB n = true then popX n.op st else none
def runX : List Nod → List Bool → Option (List Bool)
  | [], st => some st
  | n :: l, st => (match stepX n st with | some st' => runX l st' | none => none)
def exprE (l : List Nod) : Int :=
  if 32 < l.length then 6 else (match runX l [] with | none => 1 | some st => if l = [] ∨ st = [false] then 0 else 1)

/-- What was met: the names, and how many rules. -/
structure Seen where
  ids : List ByteArray
  n : Nat
def metB (x : ByteArray) (l : List ByteArray) : Bool := l.any fun y => decide (y = x)
def idS (x : ByteArray) (s : Seen) : Option Seen := if Named (bl x) ∧ metB x s.ids = false then some ⟨s.ids ++ [x], s.n⟩ else none
def orE (a b : Int) : Int := if a ≠ 0 then a else b
def ruleS (r : Rul) (s : Seen) : Int × Seen :=
  match idS r.id s with
  | none => (1, s)
  | some s1 => if 64 < s1.n + 1 then (6, ⟨s1.ids, s1.n + 1⟩) else (orE (tgE r.tg) (orE (exprE r.cond) (obE r.ob)), ⟨s1.ids, s1.n + 1⟩)
def firstS {α : Type} (f : α → Seen → Int × Seen) : List α → Seen → Int × Seen
  | [], s => (0, s)
  | x :: l, s => if (f x s).1 ≠ 0 then f x s else firstS f l (f x s).2
def fitsB (p : Pol) : Bool := decide (1 ≤ p.alg) && decide (p.alg ≤ 6) && if p.set = true then decide (p.rules.length = 0) else decide (p.kids.length = 0) && decide (p.alg ≠ 4)
/-- P8.5, at a depth of which so many are left. -/
def polS : Nat → Pol → Seen → Int × Seen
  | 0, p, s => (6, s)
  | d + 1, p, s =>
    match idS p.id s with
    | none => (1, s)
    | some s1 =>
      if fitsB p = false then (1, s1)
      else if orE (tgE p.tg) (obE p.ob) ≠ 0 then (orE (tgE p.tg) (obE p.ob), s1)
      else if 16 < p.rules.length ∨ 16 < p.kids.length then (6, s1)
      else if (firstS ruleS p.rules s1).1 ≠ 0 then firstS ruleS p.rules s1
      else firstS (polS d) p.kids (firstS ruleS p.rules s1).2
def rightE (p : Pol) : Int := (polS 4 p ⟨[], 0⟩).1
def rulesN (p : Pol) : Nat := (polS 4 p ⟨[], 0⟩).2.n
end Go.Proofs.Ytipeefehhaffkaa
