/- Several texts in one: LaidV, ShowMath, ShowTab, LexMath, LexLaws, ParMath, ParLen, ParMet, ParTok, ParStrip, ParBlanks, ParEval, ParToks, LexNumM, VShowM, LexVal, ShowTok, ShowRead, ShowExpr, ShowPol, ShowLen. -/
import Derived.Test.YtjpkemamfccfdaaGreatDoorMem
import Derived.Test.YtjpkemamfccfdaaGreatDoorShelf
import Derived.Lib.LaidTab
import Derived.Lib.AppendIntMem
import Derived.LaidMore
import Derived.Test.YtjpkemamfccfdaaGreatDoorPolMath
import Derived.Lib.Join
import Derived.Test.YtjpkemamfccfdaaGreatDoorVMath
import Derived.Test.YtjpkemamfccfdaaGreatDoorPolCountsM
import Derived.Lib.ItoaLen
/- What the rows' condition gives the walks: the library's table of powers of ten; and strconv's two contracts under it. -/
namespace Go.Proofs.YtjpkemamfccfdaaGreatDoor
open Go.RowKit

def Tab (w : World) : Prop := Lib.TabIs Tryz.prog w "internal/strconv.uint64pow10" .u64 Lib.pow10Tab
theorem Tab.then_ {w w' : World} (h : Tab w) (hb : Below w.heap.size w w') : Tab w' := Lib.tabBelow_of_tabIs h w' hb
theorem Tab.drewN {w : World} (h : Tab w) (k : Nat) : Tab (w.drewN k) := h

/-- Blocks and draws alone. -/
theorem below_grow (w : World) (k : Nat) (os : Array Obj) : Below w.heap.size w (Sort.grow (w.drewN k) os) := by
  refine ⟨rfl, rfl, rfl, ?_, fun i hi => ?_⟩
  · simp [Sort.grow, World.drewN]
  · simp only [Sort.grow, World.drewN]
    rw [Array.getElem?_append_left hi]

theorem itoa_any {w : World} (h : Tab w) (n : Int) (h0 : -9223372036854775808 ≤ n) (h1 : n ≤ 9223372036854775807) :
    Calls Tryz.prog 74 #[.int .i64 n] w fun e w' => e = .returned (.string ⟨(Lib.itoa n).toArray⟩) ∧ Below w.heap.size w w' :=
  (Tryz.strconv_Itoa n h0 h1 w h).mono fun _ _ hh => ⟨hh.1, by obtain ⟨k, os, rfl⟩ := hh.2; exact below_grow w k os⟩
end Go.Proofs.YtjpkemamfccfdaaGreatDoor
/- Policies as text, plainly (chapter 10). -/
namespace Go.Proofs.YtjpkemamfccfdaaGreatDoor
set_option linter.unusedVariables false

def catW (n : Int) : List UInt8 := if n = 1 then [115, 117, 98, 106, 101, 99, 116] else if n = 2 then [97, 99, 116, 105, 111, 110] else if n = 3 then [99, 97, 115, 101] else [101, 110, 118]
def algW (n : Int) : List UInt8 := if n = 1 then [100, 101, 110, 121, 111, 118, 101, 114] else if n = 2 then [112, 101, 114, 109, 105, 116, 111, 118, 101, 114] else if n = 3 then [102, 105, 114, 115, 116] else if n = 4 then [111, 110, 108, 121] else if n = 5 then [100, 101, 110, 121, 117, 110, 108, 101, 115, 115] else [112, 101, 114, 109, 105, 116, 117, 110, 108, 101, 115, 115]
def fnW (n : Int) : List UInt8 := if n = 3 then [111, 110, 101] else if n = 4 then [115, 105, 122, 101] else if n = 5 then [104, 97, 115] else if n = 6 then [101, 113] else if n = 7 then [108, 101, 115, 115] else if n = 8 then [97, 100, 100] else if n = 9 then [115, 117, 98] else if n = 10 then [109, 117, 108] else if n = 11 then [110, 111, 116] else if n = 12 then [97, 110, 100] else [111, 114]
def doW (n : Int) : List UInt8 := if n = 1 then [108, 111, 103] else if n = 2 then [114, 101, 100, 97, 99, 116] else if n = 3 then [114, 101, 118, 105, 101, 119] else [110, 111, 116, 105, 102, 121]
def cmpW (n : Int) : List UInt8 := if n = 1 then [61] else if n = 2 then [60] else [62]
def effW (deny : Bool) : List UInt8 := if deny = true then [100, 101, 110, 121] else [112, 101, 114, 109, 105, 116]
/-- P10.1, of a right one. -/
def attrT (a : Atr) : List UInt8 := catW a.cat ++ 46 :: (bl a.name ++ if a.must = true then [33] else [])
def attrS (a : Atr) : List UInt8 := if attrB a = true then attrT a else []
/-- How many parts a node is of. -/
def takesN (op : Int) : Nat := if op = 1 ∨ op = 2 then 0 else if op = 3 ∨ op = 4 ∨ op = 11 then 1 else 2
/-- A node's text, of what it is of. -/
def nodeT (n : Nod) (parts : List (List UInt8)) : List UInt8 :=
  if n.op = 1 then showB n.v else if n.op = 2 then attrS n.a else 40 :: (fnW n.op ++ 32 :: (Lib.join parts [32] ++ [41]))
/-- P10.2: the stack of texts, the first one first. -/
def stepT (st : List (List UInt8)) (n : Nod) : List (List UInt8) := st.take (st.length - takesN n.op) ++ [nodeT n (st.drop (st.length - takesN n.op))]
def stackT (l : List Nod) : List (List UInt8) := l.foldl stepT []
def exprT (l : List Nod) : List UInt8 := (stackT l).headD []
def exprS (l : List Nod) : List UInt8 := if l ≠ [] ∧ exprE l = 0 then exprT l else []
def matT (m : Mat) : List UInt8 := attrS m.a ++ 32 :: (cmpW m.op ++ 32 :: showB m.v)
def allT (l : List Mat) : List UInt8 := Lib.join (l.map matT) [44, 32]
def anyT (l : List (List Mat)) : List UInt8 := 40 :: (Lib.join (l.map allT) [32, 111, 114, 32] ++ [41])
def tgT (t : Tgt) : List UInt8 := Lib.join (t.map anyT) [32, 97, 110, 100, 32]
def tgW (t : Tgt) : List (List UInt8) := if t = [] then [] else [[119, 104, 101, 110], tgT t]
def dutT (o : Dut) : List UInt8 := [111, 110, 32] ++ (effW (decide (o.on = 2)) ++ 32 :: (doW o.kind ++ 32 :: bl o.arg))
def condW (l : List Nod) : List (List UInt8) := if l = [] then [] else [[105, 102], exprS l]
def rulW (r : Rul) : List (List UInt8) := effW r.deny :: bl r.id :: (tgW r.tg ++ condW r.cond ++ r.ob.map dutT)
def rulT (r : Rul) : List UInt8 := Lib.join (rulW r) [32] ++ [59]
def headW (p : Pol) : List UInt8 := if p.set = true then [115, 101, 116] else [112, 111, 108, 105, 99, 121]
/-- The words of a policy, of no more than so many depths. -/
def polW : Nat → Pol → List (List UInt8)
  | 0, _ => []
  | d + 1, p => headW p :: bl p.id :: algW p.alg :: (tgW p.tg ++ [[123]] ++ p.rules.map rulT ++ (p.kids.map (polW d)).flatten ++ [[125]] ++ p.ob.map dutT)
/-- P10.3. -/
def polT (p : Pol) : List UInt8 := Lib.join (polW 4 p) [32]
def showP (p : Pol) : List UInt8 := if rightE p = 0 then polT p else []
end Go.Proofs.YtjpkemamfccfdaaGreatDoor
/- What the rows' condition gives the walks: strconv's table, and the words that package show lays. -/
namespace Go.Proofs.YtjpkemamfccfdaaGreatDoor
set_option linter.unusedVariables false
open Go.RowKit

def WordsIs (w : World) (name : String) (ls : List (List UInt8)) : Prop := w.var? Tryz.prog name = some (ls.map fun l => Value.string ⟨l.toArray⟩).toArray
theorem WordsIs.then_ {w w' : World} {name : String} {ls : List (List UInt8)} (h : WordsIs w name ls) (hb : Below w.heap.size w w') : WordsIs w' name ls := by
  unfold WordsIs World.var? at *
  cases hg : Tryz.prog.globalNamed name with
  | none => simp [hg] at h
  | some g =>
    simp only [hg, Option.bind_some] at h ⊢
    have hlt : g < w.heap.size := by
      rcases Nat.lt_or_ge g w.heap.size with h' | h'
      · exact h'
      · rw [Array.getElem?_eq_none h'] at h; simp at h
    rw [hb.block g hlt]
    exact h
theorem WordsIs.cell {w : World} {name : String} {ls : List (List UInt8)} {g : Nat} (h : WordsIs w name ls) (hg : Tryz.prog.globalNamed name = some g) (i : Nat) (hi : i < ls.length) : w.cell? ⟨g, i, none⟩ = some (.string ⟨(ls.getD i []).toArray⟩) := by
  have := World.var?_cell hg h i
  simpa [List.getD, hi] using this
def catL : List (List UInt8) := [[], [115, 117, 98, 106, 101, 99, 116], [97, 99, 116, 105, 111, 110], [99, 97, 115, 101], [101, 110, 118]]
def algL : List (List UInt8) := [[], [100, 101, 110, 121, 111, 118, 101, 114], [112, 101, 114, 109, 105, 116, 111, 118, 101, 114], [102, 105, 114, 115, 116], [111, 110, 108, 121], [100, 101, 110, 121, 117, 110, 108, 101, 115, 115], [112, 101, 114, 109, 105, 116, 117, 110, 108, 101, 115, 115]]
def fnL : List (List UInt8) := [[], [], [], [111, 110, 101], [115, 105, 122, 101], [104, 97, 115], [101, 113], [108, 101, 115, 115], [97, 100, 100], [115, 117, 98], [109, 117, 108], [110, 111, 116], [97, 110, 100], [111, 114]]
def doL : List (List UInt8) := [[], [108, 111, 103], [114, 101, 100, 97, 99, 116], [114, 101, 118, 105, 101, 119], [110, 111, 116, 105, 102, 121]]
def cmpL : List (List UInt8) := [[], [61], [60], [62]]
/-- The condition. -/
structure Tbl (w : World) : Prop where
  tab : Tab w
  algs : WordsIs w "bailiff/show.algorithms" algL
  cats : WordsIs w "bailiff/show.categories" catL
  fns : WordsIs w "bailiff/show.functions" fnL
  cmps : WordsIs w "bailiff/show.comparisons" cmpL
  does : WordsIs w "bailiff/show.doings" doL
theorem Tbl.then_ {w w' : World} (h : Tbl w) (hb : Below w.heap.size w w') : Tbl w' := ⟨h.tab.then_ hb, h.algs.then_ hb, h.cats.then_ hb, h.fns.then_ hb, h.cmps.then_ hb, h.does.then_ hb⟩
theorem pick_at {ls : List (List UInt8)} {W : Int → List UInt8} {lo : Nat} (h : ∀ i : Fin ls.length, lo ≤ i.val → ls.getD i.val [] = W (i.val : Int)) {n : Int} (h0 : (lo : Int) ≤ n) (h1 : n < (ls.length : Int)) : n.toNat < ls.length ∧ ls.getD n.toNat [] = W n := by
  have hl : n.toNat < ls.length := by omega
  refine ⟨hl, ?_⟩
  have := h ⟨n.toNat, hl⟩ (by show lo ≤ n.toNat; omega)
  rw [this]
  show W ((n.toNat : Nat) : Int) = W n
  rw [show ((n.toNat : Nat) : Int) = n by omega]
theorem Tbl.cat {w : World} (h : Tbl w) {n : Int} (h0 : 1 ≤ n) (h1 : n ≤ 4) : w.cell? ⟨0, n.toNat, none⟩ = some (.string ⟨(catW n).toArray⟩) := by
  obtain ⟨a, b⟩ := pick_at (ls := catL) (W := catW) (lo := 1) (by decide +kernel) (show ((1 : Nat) : Int) ≤ n by omega) (show n < ((5 : Nat) : Int) by omega)
  have := h.cats.cell (g := 0) (by kernel_rfl) n.toNat a
  rw [b] at this
  exact this
theorem Tbl.alg {w : World} (h : Tbl w) {n : Int} (h0 : 1 ≤ n) (h1 : n ≤ 6) : w.cell? ⟨1, n.toNat, none⟩ = some (.string ⟨(algW n).toArray⟩) := by
  obtain ⟨a, b⟩ := pick_at (ls := algL) (W := algW) (lo := 1) (by decide +kernel) (show ((1 : Nat) : Int) ≤ n by omega) (show n < ((7 : Nat) : Int) by omega)
  have := h.algs.cell (g := 1) (by kernel_rfl) n.toNat a
  rw [b] at this
  exact this
theorem Tbl.fn {w : World} (h : Tbl w) {n : Int} (h0 : 3 ≤ n) (h1 : n ≤ 13) : w.cell? ⟨2, n.toNat, none⟩ = some (.string ⟨(fnW n).toArray⟩) := by
  obtain ⟨a, b⟩ := pick_at (ls := fnL) (W := fnW) (lo := 3) (by decide +kernel) (show ((3 : Nat) : Int) ≤ n by omega) (show n < ((14 : Nat) : Int) by omega)
  have := h.fns.cell (g := 2) (by kernel_rfl) n.toNat a
  rw [b] at this
  exact this
theorem Tbl.do {w : World} (h : Tbl w) {n : Int} (h0 : 1 ≤ n) (h1 : n ≤ 4) : w.cell? ⟨3, n.toNat, none⟩ = some (.string ⟨(doW n).toArray⟩) := by
  obtain ⟨a, b⟩ := pick_at (ls := doL) (W := doW) (lo := 1) (by decide +kernel) (show ((1 : Nat) : Int) ≤ n by omega) (show n < ((5 : Nat) : Int) by omega)
  have := h.does.cell (g := 3) (by kernel_rfl) n.toNat a
  rw [b] at this
  exact this
theorem Tbl.cmp {w : World} (h : Tbl w) {n : Int} (h0 : 1 ≤ n) (h1 : n ≤ 3) : w.cell? ⟨5, n.toNat, none⟩ = some (.string ⟨(cmpW n).toArray⟩) := by
  obtain ⟨a, b⟩ := pick_at (ls := cmpL) (W := cmpW) (lo := 1) (by decide +kernel) (show ((1 : Nat) : Int) ≤ n by omega) (show n < ((4 : Nat) : Int) by omega)
  have := h.cmps.cell (g := 5) (by kernel_rfl) n.toNat a
  rw [b] at this
  exact this
end Go.Proofs.YtjpkemamfccfdaaGreatDoor
/- Tokens, plainly: what chapter 7 says of a text. -/
namespace Go.Proofs.YtjpkemamfccfdaaGreatDoor
set_option linter.unusedVariables false

def blk (c : UInt8) : Bool := decide (c.toNat = 32) || decide (c.toNat = 10)
def dgt (c : UInt8) : Bool := decide (48 ≤ c.toNat) && decide (c.toNat ≤ 57)
def inm (c : UInt8) : Bool := lett c || later c
/-- A digit to the base 16. -/
def hexv (c : UInt8) : Option Nat := if dgt c = true then some (c.toNat - 48) else if 97 ≤ c.toNat ∧ c.toNat ≤ 102 then some (c.toNat - 87) else none
def numD (l : List UInt8) : Nat := l.foldl (fun a c => 10 * a + (c.toNat - 48)) 0
/-- Digits as they may be written: how much they are, if it isn't more than so much. -/
def decD (most : Nat) (d : List UInt8) : Option Nat := if d = [] ∨ (d.head? = some 48 ∧ d ≠ [48]) ∨ most < numD d then none else some (numD d)
/-- Two digits to the base 16, for a byte that may not stand by itself. -/
def hexB (a b : Option Nat) : Option (UInt8 × Nat) :=
  match a, b with
  | some x, some y => if odd8 (UInt8.ofNat (16 * x + y)) = true then some (UInt8.ofNat (16 * x + y), 3) else none
  | _, _ => none
def escB : List UInt8 → Option (UInt8 × Nat)
  | a :: b :: _ => hexB (hexv a) (hexv b)
  | _ => none
/-- One byte of a text, and by how many it is written. -/
def oneB : List UInt8 → Option (UInt8 × Nat)
  | [] => none
  | c :: r => if odd8 c = false then some (c, 1) else if c = 92 then escB r else none
theorem oneB_cons (c : UInt8) (r : List UInt8) : oneB (c :: r) = if odd8 c = false then some (c, 1) else if c = 92 then escB r else none := rfl
theorem oneB_plain {c : UInt8} {r : List UInt8} (h : odd8 c = false) : oneB (c :: r) = some (c, 1) := by rw [oneB_cons, if_pos h]
theorem oneB_odd {c : UInt8} {r : List UInt8} (h : odd8 c = true) (h2 : c ≠ 92) : oneB (c :: r) = none := by rw [oneB_cons, if_neg (by rw [h]; simp), if_neg h2]
theorem oneB_esc (r : List UInt8) : oneB (92 :: r) = escB r := by rw [oneB_cons, if_neg (by decide), if_pos rfl]
theorem oneB_short {r : List UInt8} (h : r.length < 2) : oneB (92 :: r) = none := by
  rw [oneB_esc]
  match r, h with
  | [], _ => rfl
  | [a], _ => rfl
theorem oneB_hex (a b : UInt8) (r : List UInt8) : oneB (92 :: a :: b :: r) = hexB (hexv a) (hexv b) := by rw [oneB_esc]; rfl
theorem hexB_some (x y : Nat) : hexB (some x) (some y) = if odd8 (UInt8.ofNat (16 * x + y)) = true then some (UInt8.ofNat (16 * x + y), 3) else none := rfl
theorem hexB_none1 (b : Option Nat) : hexB none b = none := by cases b <;> rfl
theorem hexB_none2 (a : Option Nat) : hexB a none = none := by cases a <;> rfl
theorem hexB_three {a b : Option Nat} {x : UInt8} {k : Nat} (h : hexB a b = some (x, k)) : k = 3 := by
  cases a with
  | none => rw [hexB_none1] at h; cases h
  | some p => cases b with
    | none => rw [hexB_none2] at h; cases h
    | some q =>
      rw [hexB_some] at h
      split at h
      · cases h; rfl
      · cases h
/-- Behind a first quote: what is meant, and how many bytes it is with the last quote. -/
def qtB (l : List UInt8) : Option (List UInt8 × Nat) :=
  match l with
  | [] => none
  | c :: r => if c = 34 then some ([], 1) else
      match oneB (c :: r) with
      | none => none
      | some (x, k) => (qtB (r.drop (k - 1))).map fun p => (x :: p.1, k + p.2)
termination_by l.length
decreasing_by simp only [List.length_drop, List.length_cons]; omega
def mrk (c : UInt8) : Bool := c = 123 || c = 125 || c = 40 || c = 41 || c = 46 || c = 44 || c = 59 || c = 61 || c = 60 || c = 62 || c = 33
/-- The token that begins here: its kind, number, text, and how many bytes it is. -/
def tokB : List UInt8 → Option (Int × Int × List UInt8 × Nat)
  | [] => none
  | c :: r =>
    if lett c = true then (if Named ((c :: r).takeWhile inm) then some (1, 0, (c :: r).takeWhile inm, ((c :: r).takeWhile inm).length) else none)
    else if dgt c = true then (decD 9223372036854775807 ((c :: r).takeWhile dgt)).map fun (n : Nat) => (2, (n : Int), [], ((c :: r).takeWhile dgt).length)
    else if c = 45 then (decD 9223372036854775808 (r.takeWhile dgt)).bind fun (n : Nat) => if n = 0 then none else some (2, -(n : Int), [], (r.takeWhile dgt).length + 1)
    else if c = 64 then (decD 1099511627776 (r.takeWhile dgt)).map fun (n : Nat) => (3, (n : Int), [], (r.takeWhile dgt).length + 1)
    else if c = 35 then (if Named (r.takeWhile inm) then some (4, 0, r.takeWhile inm, (r.takeWhile inm).length + 1) else none)
    else if c = 34 then (qtB r).bind fun p => if p.1.length ≤ 64 then some (5, 0, p.1, p.2 + 1) else none
    else if mrk c = true then some (6, 0, [c], 1)
    else none

/-- A token: kind, place, number, text. -/
structure Tk where
  k : Int
  p : Int
  n : Int
  s : ByteArray
def Tk.l (t : Tk) : List UInt8 := t.s.data.toList
theorem Tk.ext' {a b : Tk} (h1 : a.k = b.k) (h2 : a.p = b.p) (h3 : a.n = b.n) (h4 : a.l = b.l) : a = b := by
  obtain ⟨k, p, n, s⟩ := a
  obtain ⟨k', p', n', s'⟩ := b
  obtain ⟨⟨x⟩⟩ := s
  obtain ⟨⟨y⟩⟩ := s'
  simp_all [Tk.l]
instance : DecidableEq Tk := fun a b => if h : a.k = b.k ∧ a.p = b.p ∧ a.n = b.n ∧ a.l = b.l then .isTrue (Tk.ext' h.1 h.2.1 h.2.2.1 h.2.2.2) else .isFalse (by rintro rfl; exact h ⟨rfl, rfl, rfl, rfl⟩)

def cat (ts : List Tk) : Except Nat (List Tk) → Except Nat (List Tk)
  | .error e => .error e
  | .ok l => .ok (ts ++ l)
theorem cat_nil (x : Except Nat (List Tk)) : cat [] x = x := by cases x <;> rfl
theorem cat_cat (a b : List Tk) (x : Except Nat (List Tk)) : cat a (cat b x) = cat (a ++ b) x := by cases x <;> simp [cat]

/-- P7.1, behind place p. -/
def lexB (l : List UInt8) (p : Nat) : Except Nat (List Tk) :=
  match l with
  | [] => .ok [⟨7, p, 0, ⟨#[]⟩⟩]
  | c :: r => if blk c = true then lexB r (p + 1) else
      match tokB (c :: r) with
      | none => .error p
      | some (k, n, s, m) => cat [⟨k, p, n, ⟨s.toArray⟩⟩] (lexB (r.drop (m - 1)) (p + m))
termination_by l.length
decreasing_by
  · simp
  · simp only [List.length_drop, List.length_cons]; omega

/-! ### Equations -/
theorem qtB_nil : qtB [] = none := by rw [qtB]
theorem qtB_end (r : List UInt8) : qtB (34 :: r) = some ([], 1) := by rw [qtB]; rfl
theorem oneB_pos {l : List UInt8} {x : UInt8} {k : Nat} (h : oneB l = some (x, k)) : 1 ≤ k ∧ k ≤ l.length := by
  cases l with
  | nil => cases h
  | cons c r =>
    rw [oneB_cons] at h
    split at h
    · cases h; simp
    · split at h
      · match r, h with
        | a :: b :: r', h => have := hexB_three h; subst this; simp
      · cases h
theorem drop_cons' {α : Type} {c : α} {r : List α} {k : Nat} (h : 1 ≤ k) : r.drop (k - 1) = (c :: r).drop k := by
  obtain ⟨j, rfl⟩ : ∃ j, k = j + 1 := ⟨k - 1, by omega⟩
  rfl
theorem qtB_one {c : UInt8} {r : List UInt8} {x : UInt8} {k : Nat} (hc : c ≠ 34) (h : oneB (c :: r) = some (x, k)) : qtB (c :: r) = (qtB ((c :: r).drop k)).map fun p => (x :: p.1, k + p.2) := by
  rw [qtB, if_neg hc, h]
  dsimp only
  rw [drop_cons' (oneB_pos h).1]
theorem qtB_bad {c : UInt8} {r : List UInt8} (hc : c ≠ 34) (h : oneB (c :: r) = none) : qtB (c :: r) = none := by
  rw [qtB, if_neg hc, h]
theorem lexB_nil (p : Nat) : lexB [] p = .ok [⟨7, p, 0, ⟨#[]⟩⟩] := by rw [lexB]
theorem lexB_blank {c : UInt8} {r : List UInt8} {p : Nat} (h : blk c = true) : lexB (c :: r) p = lexB r (p + 1) := by rw [lexB, if_pos h]
theorem lexB_bad {c : UInt8} {r : List UInt8} {p : Nat} (h : blk c = false) (ht : tokB (c :: r) = none) : lexB (c :: r) p = .error p := by
  rw [lexB, if_neg (by rw [h]; simp), ht]
theorem tk_len (p : UInt8 → Bool) (l : List UInt8) : (l.takeWhile p).length ≤ l.length := (List.takeWhile_sublist p).length_le
theorem qtB_le : ∀ (n : Nat) (l m : List UInt8) (j : Nat), l.length ≤ n → qtB l = some (m, j) → 1 ≤ j ∧ j ≤ l.length ∧ m.length ≤ j
  | n, [], m, j, _, h => by rw [qtB_nil] at h; cases h
  | 0, c :: r, m, j, hl, h => by simp at hl
  | n + 1, c :: r, m, j, hl, h => by
    by_cases hc : c = 34
    · subst hc; rw [qtB_end] at h; cases h; simp
    · cases ho : oneB (c :: r) with
      | none => rw [qtB_bad hc ho] at h; cases h
      | some xk =>
        obtain ⟨x, k⟩ := xk
        rw [qtB_one hc ho] at h
        obtain ⟨k1, k2⟩ := oneB_pos ho
        cases hq : qtB ((c :: r).drop k) with
        | none => rw [hq] at h; cases h
        | some q =>
          obtain ⟨m', j'⟩ := q
          rw [hq] at h
          simp only [Option.map_some, Option.some.injEq, Prod.mk.injEq] at h
          obtain ⟨rfl, rfl⟩ := h
          have := qtB_le n _ m' j' (by simp only [List.length_drop]; simp only [List.length_cons] at hl; simp only [List.length_cons]; omega) hq
          simp only [List.length_drop, List.length_cons] at this k2 ⊢
          omega
theorem tokB_pos {l : List UInt8} {k n : Int} {s : List UInt8} {m : Nat} (h : tokB l = some (k, n, s, m)) : 1 ≤ m ∧ m ≤ l.length ∧ s.length ≤ m := by
  cases l with
  | nil => cases h
  | cons c r =>
    have t1 := tk_len inm (c :: r)
    have t2 := tk_len dgt (c :: r)
    have t3 := tk_len dgt r
    have t4 := tk_len inm r
    simp only [List.length_cons] at t1 t2 t3 t4 ⊢
    rw [tokB] at h
    split at h
    · split at h
      · rename_i hn
        cases h
        have := hn.1
        omega
      · cases h
    · split at h
      · rename_i hd
        cases hq : decD 9223372036854775807 ((c :: r).takeWhile dgt) with
        | none => rw [hq] at h; cases h
        | some x =>
          rw [hq] at h
          cases h
          have : 1 ≤ ((c :: r).takeWhile dgt).length := by rw [List.takeWhile_cons, if_pos hd]; simp
          simp
          omega
      · split at h
        · cases hq : decD 9223372036854775808 (r.takeWhile dgt) with
          | none => rw [hq] at h; cases h
          | some x =>
            rw [hq] at h
            simp only [Option.bind_some] at h
            split at h
            · cases h
            · cases h; simp; omega
        · split at h
          · cases hq : decD 1099511627776 (r.takeWhile dgt) with
            | none => rw [hq] at h; cases h
            | some x => rw [hq] at h; cases h; simp; omega
          · split at h
            · split at h
              · cases h; simp; omega
              · cases h
            · split at h
              · cases hq : qtB r with
                | none => rw [hq] at h; cases h
                | some q =>
                  obtain ⟨m', j⟩ := q
                  rw [hq] at h
                  simp only [Option.bind_some] at h
                  split at h
                  · cases h
                    have := qtB_le _ _ _ _ (Nat.le_refl _) hq
                    omega
                  · cases h
              · split at h
                · cases h; simp
                · cases h
theorem lexB_tok {c : UInt8} {r : List UInt8} {p : Nat} {k n : Int} {s : List UInt8} {m : Nat} (h : blk c = false) (ht : tokB (c :: r) = some (k, n, s, m)) :
    lexB (c :: r) p = cat [⟨k, p, n, ⟨s.toArray⟩⟩] (lexB ((c :: r).drop m) (p + m)) := by
  rw [lexB, if_neg (by rw [h]; simp), ht]
  dsimp only
  rw [drop_cons' (tokB_pos ht).1]
theorem lexB_skip (l : List UInt8) (p : Nat) : lexB l p = lexB (l.drop (l.takeWhile blk).length) (p + (l.takeWhile blk).length) := by
  induction l generalizing p with
  | nil => simp
  | cons c r ih =>
    cases h : blk c with
    | true => rw [lexB_blank h, ih, List.takeWhile_cons, if_pos h]; simp only [List.length_cons, List.drop_succ_cons]; congr 1; omega
    | false => rw [List.takeWhile_cons, if_neg (by rw [h]; simp)]; simp
/-- How many bytes a row goes on with. -/
theorem drop_tw {p : UInt8 → Bool} {l : List UInt8} {c : UInt8} {r : List UInt8} (h : l.drop (l.takeWhile p).length = c :: r) : p c = false := by
  induction l with
  | nil => simp at h
  | cons d t ih =>
    cases hd : p d with
    | true => rw [List.takeWhile_cons, if_pos hd] at h; exact ih (by simpa using h)
    | false =>
      rw [List.takeWhile_cons, if_neg (by rw [hd]; simp)] at h
      simp at h
      rw [← h.1, hd]
end Go.Proofs.YtjpkemamfccfdaaGreatDoor
/- Tokens of texts set together, plainly. -/
namespace Go.Proofs.YtjpkemamfccfdaaGreatDoor
set_option linter.unusedVariables false

def shT (d : Nat) (t : Tk) : Tk := ⟨t.k, t.p + d, t.n, t.s⟩
/-- Places moved. -/
def shE (d : Nat) : Except Nat (List Tk) → Except Nat (List Tk)
  | .error e => .error (e + d)
  | .ok ts => .ok (ts.map (shT d))
theorem shE_cat (d : Nat) (ts : List Tk) (x : Except Nat (List Tk)) : shE d (cat ts x) = cat (ts.map (shT d)) (shE d x) := by cases x <;> simp [shE, cat]
theorem lexB_shift_n : ∀ (n : Nat) (l : List UInt8) (p d : Nat), l.length ≤ n → lexB l (p + d) = shE d (lexB l p)
  | _, [], p, d, _ => by rw [lexB_nil, lexB_nil]; simp [shE, shT]
  | 0, c :: r, p, d, h => by simp at h
  | n + 1, c :: r, p, d, h => by
    simp only [List.length_cons] at h
    cases hb : blk c with
    | true => rw [lexB_blank hb, lexB_blank hb, show p + d + 1 = p + 1 + d by omega, lexB_shift_n n r (p + 1) d (by omega)]
    | false =>
      cases ht : tokB (c :: r) with
      | none => rw [lexB_bad hb ht, lexB_bad hb ht]; rfl
      | some q =>
        obtain ⟨k, m, s, j⟩ := q
        have hj := tokB_pos ht
        rw [lexB_tok hb ht, lexB_tok hb ht, shE_cat, show p + d + j = p + j + d by omega, lexB_shift_n n _ (p + j) d (by rw [List.length_drop, List.length_cons]; omega)]
        simp [shT]
theorem lexB_shift (l : List UInt8) (p d : Nat) : lexB l (p + d) = shE d (lexB l p) := lexB_shift_n l.length l p d (Nat.le_refl _)
theorem lexB_from (l : List UInt8) (d : Nat) : lexB l d = shE d (lexB l 0) := by have := lexB_shift l 0 d; rwa [Nat.zero_add] at this

theorem tw_sep {p : UInt8 → Bool} {x : UInt8} (h : p x = false) (l y : List UInt8) : (l ++ x :: y).takeWhile p = l.takeWhile p := by
  induction l with
  | nil => simp [h]
  | cons c r ih =>
    rw [List.cons_append, List.takeWhile_cons, List.takeWhile_cons]
    cases p c <;> simp [ih]
theorem escB_app {r : List UInt8} {q : UInt8 × Nat} (h : escB r = some q) (y : List UInt8) : escB (r ++ y) = some q := by
  match r, h with
  | a :: b :: r, h => exact h
theorem oneB_app {l : List UInt8} {q : UInt8 × Nat} (h : oneB l = some q) (y : List UInt8) : oneB (l ++ y) = some q := by
  cases l with
  | nil => cases h
  | cons c r =>
    rw [oneB_cons] at h
    rw [List.cons_append, oneB_cons]
    split at h
    · rename_i h1; rw [if_pos h1]; exact h
    · rename_i h1
      rw [if_neg h1]
      split at h
      · rename_i h2; rw [if_pos h2]; exact escB_app h y
      · cases h
theorem hexv_ten : hexv 10 = none := by decide
theorem escB_nl {r : List UInt8} (h : escB r = none) (y : List UInt8) : escB (r ++ 10 :: y) = none := by
  match r, h with
  | [], _ => cases y with
    | nil => rfl
    | cons a y => show hexB (hexv 10) (hexv a) = none; rw [hexv_ten, hexB_none1]
  | [a], _ => show hexB (hexv a) (hexv 10) = none; rw [hexv_ten, hexB_none2]
  | a :: b :: r, h => exact h
theorem oneB_nl {c : UInt8} {r : List UInt8} (h : oneB (c :: r) = none) (y : List UInt8) : oneB (c :: r ++ 10 :: y) = none := by
  rw [oneB_cons] at h
  rw [List.cons_append, oneB_cons]
  split at h
  · cases h
  · rename_i h1
    rw [if_neg h1]
    split at h
    · rename_i h2; rw [if_pos h2]; exact escB_nl h y
    · rename_i h2; rw [if_neg h2]
theorem qtB_app : ∀ (n : Nat) (l : List UInt8) (q : List UInt8 × Nat) (y : List UInt8), l.length ≤ n → qtB l = some q → qtB (l ++ y) = some q
  | _, [], q, y, _, h => by rw [qtB_nil] at h; cases h
  | 0, c :: r, q, y, hl, h => by simp at hl
  | n + 1, c :: r, q, y, hl, h => by
    by_cases hc : c = 34
    · subst hc; rw [qtB_end] at h; rw [List.cons_append, qtB_end]; exact h
    · cases ho : oneB (c :: r) with
      | none => rw [qtB_bad hc ho] at h; cases h
      | some xk =>
        obtain ⟨x, k⟩ := xk
        have hk := oneB_pos ho
        rw [qtB_one hc ho] at h
        have ho' := oneB_app ho y
        rw [List.cons_append] at ho'
        rw [List.cons_append, qtB_one hc ho', ← List.cons_append, List.drop_append_of_le_length hk.2]
        cases hq : qtB ((c :: r).drop k) with
        | none => rw [hq] at h; cases h
        | some q' =>
          rw [hq] at h
          rw [qtB_app n _ q' y (by simp only [List.length_drop]; simp only [List.length_cons] at hl ⊢; omega) hq]
          exact h
theorem qtB_nl : ∀ (n : Nat) (l : List UInt8) (y : List UInt8), l.length ≤ n → qtB l = none → qtB (l ++ 10 :: y) = none
  | _, [], y, _, _ => qtB_bad (by decide) (oneB_odd (by decide) (by decide))
  | 0, c :: r, y, hl, h => by simp at hl
  | n + 1, c :: r, y, hl, h => by
    by_cases hc : c = 34
    · subst hc; rw [qtB_end] at h; cases h
    · cases ho : oneB (c :: r) with
      | none => rw [List.cons_append]; exact qtB_bad hc (oneB_nl ho y)
      | some xk =>
        obtain ⟨x, k⟩ := xk
        have hk := oneB_pos ho
        rw [qtB_one hc ho] at h
        have ho' := oneB_app ho (10 :: y)
        rw [List.cons_append] at ho'
        rw [List.cons_append, qtB_one hc ho', ← List.cons_append, List.drop_append_of_le_length hk.2]
        cases hq : qtB ((c :: r).drop k) with
        | some q' => rw [hq] at h; cases h
        | none =>
          rw [qtB_nl n _ y (by simp only [List.length_drop]; simp only [List.length_cons] at hl ⊢; omega) hq]
          rfl
theorem tokB_cons (c : UInt8) (r : List UInt8) : tokB (c :: r) =
    if lett c = true then (if Named ((c :: r).takeWhile inm) then some (1, 0, (c :: r).takeWhile inm, ((c :: r).takeWhile inm).length) else none)
    else if dgt c = true then (decD 9223372036854775807 ((c :: r).takeWhile dgt)).map fun (n : Nat) => (2, (n : Int), [], ((c :: r).takeWhile dgt).length)
    else if c = 45 then (decD 9223372036854775808 (r.takeWhile dgt)).bind fun (n : Nat) => if n = 0 then none else some (2, -(n : Int), [], (r.takeWhile dgt).length + 1)
    else if c = 64 then (decD 1099511627776 (r.takeWhile dgt)).map fun (n : Nat) => (3, (n : Int), [], (r.takeWhile dgt).length + 1)
    else if c = 35 then (if Named (r.takeWhile inm) then some (4, 0, r.takeWhile inm, (r.takeWhile inm).length + 1) else none)
    else if c = 34 then (qtB r).bind fun p => if p.1.length ≤ 64 then some (5, 0, p.1, p.2 + 1) else none
    else if mrk c = true then some (6, 0, [c], 1)
    else none := rfl
/-- What isn't a text's inside is the same ahead of a blank. -/
theorem tokB_sep {c x : UInt8} (hi : inm x = false) (hd : dgt x = false) (r y : List UInt8) (hq : c = 34 → qtB (r ++ x :: y) = qtB r) : tokB (c :: r ++ x :: y) = tokB (c :: r) := by
  have e1 : (c :: r ++ x :: y).takeWhile inm = (c :: r).takeWhile inm := tw_sep hi _ _
  have e2 : (c :: r ++ x :: y).takeWhile dgt = (c :: r).takeWhile dgt := tw_sep hd _ _
  rw [List.cons_append] at e1 e2 ⊢
  rw [tokB_cons, tokB_cons, e1, e2, tw_sep hi, tw_sep hd]
  by_cases h34 : c = 34
  · rw [hq h34]
  · simp only [if_neg h34]
theorem tokB_app {c x : UInt8} (hi : inm x = false) (hd : dgt x = false) (r y : List UInt8) {q : Int × Int × List UInt8 × Nat} (h : tokB (c :: r) = some q) : tokB (c :: r ++ x :: y) = some q := by
  rw [← h]
  by_cases h34 : c = 34
  · subst h34
    have hh := h
    rw [tokB_cons, if_neg (by decide), if_neg (by decide), if_neg (by decide), if_neg (by decide), if_neg (by decide), if_pos rfl] at hh
    cases hq : qtB r with
    | none => rw [hq] at hh; cases hh
    | some p => exact tokB_sep hi hd r y fun _ => by rw [hq]; exact qtB_app _ _ _ _ (Nat.le_refl _) hq
  · exact tokB_sep hi hd r y fun hc => absurd hc h34
theorem tokB_nl {c : UInt8} (r y : List UInt8) (h : tokB (c :: r) = none) : tokB (c :: r ++ 10 :: y) = none := by
  rw [← h]
  refine tokB_sep (by decide) (by decide) r y fun _ => ?_
  cases hq : qtB r with
  | none => exact qtB_nl _ _ _ (Nat.le_refl _) hq
  | some p => exact qtB_app _ _ _ _ (Nat.le_refl _) hq

theorem lexB_ne : ∀ (n : Nat) (l : List UInt8) (p : Nat) (ts : List Tk), l.length ≤ n → lexB l p = .ok ts → ∃ us, ts = us ++ [⟨7, ((p + l.length : Nat) : Int), 0, ⟨#[]⟩⟩] ∧ us.length ≤ l.length
  | _, [], p, ts, _, h => by rw [lexB_nil] at h; cases h; exact ⟨[], by simp, by simp⟩
  | 0, c :: r, p, ts, hl, h => by simp at hl
  | n + 1, c :: r, p, ts, hl, h => by
    simp only [List.length_cons] at hl
    cases hb : blk c with
    | true =>
      rw [lexB_blank hb] at h
      obtain ⟨us, rfl, h2⟩ := lexB_ne n r (p + 1) ts (by omega) h
      exact ⟨us, by rw [List.length_cons, show p + 1 + r.length = p + (r.length + 1) by omega], by rw [List.length_cons]; omega⟩
    | false =>
      cases ht : tokB (c :: r) with
      | none => rw [lexB_bad hb ht] at h; cases h
      | some q =>
        obtain ⟨k, m, s, j⟩ := q
        have hj := tokB_pos ht
        rw [lexB_tok hb ht] at h
        cases hx : lexB ((c :: r).drop j) (p + j) with
        | error e => rw [hx] at h; cases h
        | ok ts' =>
          rw [hx] at h
          cases h
          obtain ⟨us, rfl, h2⟩ := lexB_ne n _ _ _ (by rw [List.length_drop, List.length_cons]; omega) hx
          rw [List.length_drop] at h2 ⊢
          exact ⟨⟨k, p, m, ⟨s.toArray⟩⟩ :: us, by rw [show p + j + ((c :: r).length - j) = p + (c :: r).length by omega]; rfl, by simp only [List.length_cons] at h2 ⊢; omega⟩
theorem lexB_places : ∀ (n : Nat) (l : List UInt8) (p : Nat) (ts : List Tk), l.length ≤ n → lexB l p = .ok ts → ∀ t ∈ ts, (p : Int) ≤ t.p ∧ t.p ≤ ((p + l.length : Nat) : Int)
  | _, [], p, ts, _, h => by rw [lexB_nil] at h; cases h; intro t ht; simp at ht; subst ht; simp
  | 0, c :: r, p, ts, hl, h => by simp at hl
  | n + 1, c :: r, p, ts, hl, h => by
    simp only [List.length_cons] at hl ⊢
    cases hb : blk c with
    | true =>
      rw [lexB_blank hb] at h
      intro t ht
      have := lexB_places n r (p + 1) ts (by omega) h t ht
      omega
    | false =>
      cases htk : tokB (c :: r) with
      | none => rw [lexB_bad hb htk] at h; cases h
      | some q =>
        obtain ⟨k, m, s, j⟩ := q
        have hj := tokB_pos htk
        rw [lexB_tok hb htk] at h
        cases hx : lexB ((c :: r).drop j) (p + j) with
        | error e => rw [hx] at h; cases h
        | ok ts' =>
          rw [hx] at h
          cases h
          intro t ht
          rcases List.mem_cons.1 ht with rfl | ht
          · dsimp only; omega
          · have := lexB_places n _ _ _ (by rw [List.length_drop, List.length_cons]; omega) hx t ht
            rw [List.length_drop] at this
            simp only [List.length_cons] at this hj
            omega
theorem lexB_err_le : ∀ (n : Nat) (l : List UInt8) (p e : Nat), l.length ≤ n → lexB l p = .error e → e ≤ p + l.length
  | _, [], p, e, _, h => by rw [lexB_nil] at h; cases h
  | 0, c :: r, p, e, hl, h => by simp at hl
  | n + 1, c :: r, p, e, hl, h => by
    simp only [List.length_cons] at hl ⊢
    cases hb : blk c with
    | true =>
      rw [lexB_blank hb] at h
      have := lexB_err_le n r (p + 1) e (by omega) h
      omega
    | false =>
      cases htk : tokB (c :: r) with
      | none => rw [lexB_bad hb htk] at h; cases h; omega
      | some q =>
        obtain ⟨k, m, s, j⟩ := q
        have hj := tokB_pos htk
        rw [lexB_tok hb htk] at h
        cases hx : lexB ((c :: r).drop j) (p + j) with
        | ok ts' => rw [hx] at h; cases h
        | error e' =>
          rw [hx] at h
          cases h
          have := lexB_err_le n _ _ _ (by rw [List.length_drop, List.length_cons]; omega) hx
          rw [List.length_drop] at this
          simp only [List.length_cons] at this hj
          omega
theorem lexB_join_n {x : UInt8} (hx : blk x = true) (hi : inm x = false) (hd : dgt x = false) (y : List UInt8) : ∀ (n : Nat) (a : List UInt8) (p : Nat) (ts : List Tk), a.length ≤ n → lexB a p = .ok ts → lexB (a ++ x :: y) p = cat ts.dropLast (lexB y (p + a.length + 1))
  | _, [], p, ts, _, h => by rw [lexB_nil] at h; cases h; rw [List.nil_append, lexB_blank hx]; simp [cat_nil]
  | 0, c :: r, p, ts, hl, h => by simp at hl
  | n + 1, c :: r, p, ts, hl, h => by
    simp only [List.length_cons] at hl
    cases hb : blk c with
    | true =>
      rw [lexB_blank hb] at h
      rw [List.cons_append, lexB_blank hb, lexB_join_n hx hi hd y n r (p + 1) ts (by omega) h, List.length_cons, show p + 1 + r.length + 1 = p + (r.length + 1) + 1 by omega]
    | false =>
      cases ht : tokB (c :: r) with
      | none => rw [lexB_bad hb ht] at h; cases h
      | some q =>
        obtain ⟨k, m, s, j⟩ := q
        have hj := tokB_pos ht
        have ht' := tokB_app hi hd r y ht
        rw [List.cons_append] at ht'
        rw [lexB_tok hb ht] at h
        rw [List.cons_append, lexB_tok hb ht', ← List.cons_append, List.drop_append_of_le_length hj.2.1]
        cases hq : lexB ((c :: r).drop j) (p + j) with
        | error e => rw [hq] at h; cases h
        | ok ts' =>
          rw [hq] at h
          cases h
          obtain ⟨us, rfl, _⟩ := lexB_ne _ _ _ _ (Nat.le_refl _) hq
          rw [lexB_join_n hx hi hd y n _ (p + j) _ (by rw [List.length_drop, List.length_cons]; omega) hq, cat_cat, List.length_drop, show p + j + ((c :: r).length - j) + 1 = p + (c :: r).length + 1 by omega]
          congr 1
          rw [List.dropLast_concat, ← List.append_assoc, List.dropLast_concat]
theorem lexB_join {x : UInt8} (hx : x = 32 ∨ x = 10) {a y : List UInt8} {p : Nat} {ts : List Tk} (h : lexB a p = .ok ts) : lexB (a ++ x :: y) p = cat ts.dropLast (lexB y (p + a.length + 1)) := by
  rcases hx with rfl | rfl
  · exact lexB_join_n (by decide) (by decide) (by decide) y _ a p ts (Nat.le_refl _) h
  · exact lexB_join_n (by decide) (by decide) (by decide) y _ a p ts (Nat.le_refl _) h
theorem lexB_nl : ∀ (n : Nat) (a y : List UInt8) (p e : Nat), a.length ≤ n → lexB a p = .error e → lexB (a ++ 10 :: y) p = .error e
  | _, [], y, p, e, _, h => by rw [lexB_nil] at h; cases h
  | 0, c :: r, y, p, e, hl, h => by simp at hl
  | n + 1, c :: r, y, p, e, hl, h => by
    simp only [List.length_cons] at hl
    cases hb : blk c with
    | true =>
      rw [lexB_blank hb] at h
      rw [List.cons_append, lexB_blank hb]
      exact lexB_nl n r y _ _ (by omega) h
    | false =>
      cases ht : tokB (c :: r) with
      | none =>
        have ht' := tokB_nl r y ht
        rw [List.cons_append] at ht'
        rw [List.cons_append, lexB_bad hb ht']
        rw [lexB_bad hb ht] at h
        exact h
      | some q =>
        obtain ⟨k, m, s, j⟩ := q
        have hj := tokB_pos ht
        have ht' := tokB_app (x := 10) (by decide) (by decide) r y ht
        rw [List.cons_append] at ht'
        rw [lexB_tok hb ht] at h
        rw [List.cons_append, lexB_tok hb ht', ← List.cons_append, List.drop_append_of_le_length hj.2.1]
        cases hq : lexB ((c :: r).drop j) (p + j) with
        | ok ts' => rw [hq] at h; cases h
        | error e' =>
          rw [hq] at h
          rw [lexB_nl n _ y _ _ (by rw [List.length_drop, List.length_cons]; omega) hq]
          exact h
theorem lexB_ahead : ∀ (a l : List UInt8) (p : Nat), (∀ c ∈ a, blk c = true) → lexB (a ++ l) p = lexB l (p + a.length)
  | [], l, p, _ => rfl
  | c :: a, l, p, h => by
    rw [List.cons_append, lexB_blank (h c (List.mem_cons_self ..)), lexB_ahead a l (p + 1) (fun d hd => h d (List.mem_cons_of_mem _ hd)), List.length_cons, show p + 1 + a.length = p + (a.length + 1) by omega]
end Go.Proofs.YtjpkemamfccfdaaGreatDoor
/- The parser, plainly: its words, its state, and what each of its functions makes of it. -/
namespace Go.Proofs.YtjpkemamfccfdaaGreatDoor
set_option linter.unusedVariables false

abbrev w_policy : ByteArray := ⟨#[112, 111, 108, 105, 99, 121]⟩
abbrev w_set : ByteArray := ⟨#[115, 101, 116]⟩
abbrev w_denyover : ByteArray := ⟨#[100, 101, 110, 121, 111, 118, 101, 114]⟩
abbrev w_permitover : ByteArray := ⟨#[112, 101, 114, 109, 105, 116, 111, 118, 101, 114]⟩
abbrev w_first : ByteArray := ⟨#[102, 105, 114, 115, 116]⟩
abbrev w_only : ByteArray := ⟨#[111, 110, 108, 121]⟩
abbrev w_denyunless : ByteArray := ⟨#[100, 101, 110, 121, 117, 110, 108, 101, 115, 115]⟩
abbrev w_permitunless : ByteArray := ⟨#[112, 101, 114, 109, 105, 116, 117, 110, 108, 101, 115, 115]⟩
abbrev w_permit : ByteArray := ⟨#[112, 101, 114, 109, 105, 116]⟩
abbrev w_deny : ByteArray := ⟨#[100, 101, 110, 121]⟩
abbrev w_when : ByteArray := ⟨#[119, 104, 101, 110]⟩
abbrev w_and : ByteArray := ⟨#[97, 110, 100]⟩
abbrev w_or : ByteArray := ⟨#[111, 114]⟩
abbrev w_subject : ByteArray := ⟨#[115, 117, 98, 106, 101, 99, 116]⟩
abbrev w_action : ByteArray := ⟨#[97, 99, 116, 105, 111, 110]⟩
abbrev w_case : ByteArray := ⟨#[99, 97, 115, 101]⟩
abbrev w_env : ByteArray := ⟨#[101, 110, 118]⟩
abbrev w_false : ByteArray := ⟨#[102, 97, 108, 115, 101]⟩
abbrev w_true : ByteArray := ⟨#[116, 114, 117, 101]⟩
abbrev w_if : ByteArray := ⟨#[105, 102]⟩
abbrev w_one : ByteArray := ⟨#[111, 110, 101]⟩
abbrev w_size : ByteArray := ⟨#[115, 105, 122, 101]⟩
abbrev w_has : ByteArray := ⟨#[104, 97, 115]⟩
abbrev w_eq : ByteArray := ⟨#[101, 113]⟩
abbrev w_less : ByteArray := ⟨#[108, 101, 115, 115]⟩
abbrev w_add : ByteArray := ⟨#[97, 100, 100]⟩
abbrev w_sub : ByteArray := ⟨#[115, 117, 98]⟩
abbrev w_mul : ByteArray := ⟨#[109, 117, 108]⟩
abbrev w_not : ByteArray := ⟨#[110, 111, 116]⟩
abbrev w_on : ByteArray := ⟨#[111, 110]⟩
abbrev w_log : ByteArray := ⟨#[108, 111, 103]⟩
abbrev w_redact : ByteArray := ⟨#[114, 101, 100, 97, 99, 116]⟩
abbrev w_review : ByteArray := ⟨#[114, 101, 118, 105, 101, 119]⟩
abbrev w_notify : ByteArray := ⟨#[110, 111, 116, 105, 102, 121]⟩
abbrev m_lb : ByteArray := ⟨#[123]⟩
abbrev m_rb : ByteArray := ⟨#[125]⟩
abbrev m_lp : ByteArray := ⟨#[40]⟩
abbrev m_rp : ByteArray := ⟨#[41]⟩
abbrev m_dot : ByteArray := ⟨#[46]⟩
abbrev m_bang : ByteArray := ⟨#[33]⟩
abbrev m_eqm : ByteArray := ⟨#[61]⟩
abbrev m_lt : ByteArray := ⟨#[60]⟩
abbrev m_gt : ByteArray := ⟨#[62]⟩
abbrev m_semi : ByteArray := ⟨#[59]⟩
abbrev m_comma : ByteArray := ⟨#[44]⟩

/-- What is left of the tokens, how many rules there were, and what went wrong first. -/
structure Pz where
  rest : List Tk
  met : Nat
  err : Int
  at_ : Int
def Pz.hd (s : Pz) : Tk := s.rest.headD ⟨7, 0, 0, ⟨#[]⟩⟩
/-- What holds of it all along: an end is left, and numbers and texts are such as Go has. -/
def Pz.ok (L : Nat) (s : Pz) : Prop :=
  (∃ e, s.rest.getLast? = some e ∧ e.k = 7) ∧ (∀ t ∈ s.rest, InI t.k ∧ (0 ≤ t.p ∧ t.p ≤ (L : Int)) ∧ InI t.n ∧ t.s.size ≤ maxLen) ∧ (s.rest.length ≤ 5000 ∧ s.met + s.rest.length ≤ 6000 ∧ L ≤ 4096) ∧ (s.err = 0 ∨ s.err = 5 ∨ s.err = 6) ∧ 0 ≤ s.at_ ∧ s.at_ ≤ (L : Int)

def failR (e a : Int) (s : Pz) : Pz := if s.err = 0 then ⟨s.rest.drop (s.rest.length - 1), s.met, e, a⟩ else ⟨s.rest.drop (s.rest.length - 1), s.met, s.err, s.at_⟩
def wrongR (s : Pz) : Pz := failR 5 s.hd.p s
def mostR (n limit : Int) (s : Pz) : Pz := if limit < n then failR 6 s.hd.p s else s
/-- Which of these it is, from 1 on, or 0. -/
def idxW (x : ByteArray) : List ByteArray → Nat
  | [] => 0
  | y :: l => if x = y then 1 else if idxW x l = 0 then 0 else idxW x l + 1
def seesR (ws : List ByteArray) (s : Pz) : Nat := if s.hd.k = 1 ∨ s.hd.k = 6 then idxW s.hd.s ws else 0
def nextR (s : Pz) : Pz := ⟨s.rest.drop 1, s.met, s.err, s.at_⟩
def takeR (ws : List ByteArray) (s : Pz) : Nat × Pz := if seesR ws s = 0 then (0, s) else (seesR ws s, nextR s)
def mustR (ws : List ByteArray) (s : Pz) : Nat × Pz := if seesR ws s = 0 then (0, wrongR s) else (seesR ws s, nextR s)
def endR (s : Pz) : Pz := if s.hd.k = 7 then s else wrongR s
def nameR (s : Pz) : ByteArray × Pz := if s.hd.k = 1 then (s.hd.s, nextR s) else (⟨#[]⟩, wrongR s)
def catR (s : Pz) : Nat × Pz := takeR [w_subject, w_action, w_case, w_env] s
def attrR (cat : Int) (s : Pz) : Atr × Pz :=
  let s1 := if cat = 0 then wrongR s else s
  let s2 := (mustR [m_dot] s1).2
  let s3 := (nameR s2).2
  (⟨cat, (nameR s2).1, decide (0 < (takeR [m_bang] s3).1)⟩, (takeR [m_bang] s3).2)
def kindR (k : Int) : Int := if k = 2 then 2 else if k = 3 then 4 else if k = 4 then 5 else if k = 5 then 3 else 1
def valueR (s : Pz) : Vl × Pz :=
  if kindR s.hd.k = 1 then (⟨1, ((mustR [w_false, w_true] s).1 : Int) - 1, ⟨#[]⟩⟩, (mustR [w_false, w_true] s).2)
  else (⟨kindR s.hd.k, s.hd.n, s.hd.s⟩, nextR s)
def matchR (s : Pz) : Mat × Pz :=
  let c := catR s
  let a := attrR (c.1 : Int) c.2
  let o := mustR [m_eqm, m_lt, m_gt] a.2
  let v := valueR o.2
  (⟨a.1, (o.1 : Int), v.1⟩, v.2)
/-- One behind the other, parted by a word. -/
def rowR {α : Type} (one : Pz → α × Pz) (btw : ByteArray) : Nat → List α → Pz → List α × Pz
  | 0, l, s => (l, s)
  | n + 1, l, s =>
    let x := one s
    let t := takeR [btw] (mostR ((l ++ [x.1]).length : Int) 8 x.2)
    if t.1 = 0 then (l ++ [x.1], t.2) else rowR one btw n (l ++ [x.1]) t.2
def allOfR (s : Pz) : List Mat × Pz := rowR matchR m_comma s.rest.length [] s
def anyOfR (s : Pz) : List (List Mat) × Pz :=
  let a := mustR [m_lp] s
  let r := rowR allOfR w_or a.2.rest.length [] a.2
  (r.1, (mustR [m_rp] r.2).2)
def targetR (s : Pz) : Tgt × Pz :=
  if (takeR [w_when] s).1 = 0 then ([], (takeR [w_when] s).2) else rowR anyOfR w_and (takeR [w_when] s).2.rest.length [] (takeR [w_when] s).2
def dutiesR : Nat → List Dut → Pz → List Dut × Pz
  | 0, l, s => (l, s)
  | n + 1, l, s =>
    if (takeR [w_on] s).1 = 0 then (l, (takeR [w_on] s).2) else
    let a := mustR [w_permit, w_deny] (takeR [w_on] s).2
    let b := mustR [w_log, w_redact, w_review, w_notify] a.2
    let c := nameR b.2
    dutiesR n (l ++ [⟨(a.1 : Int), (b.1 : Int), c.1⟩]) (mostR ((l ++ [(⟨(a.1 : Int), (b.1 : Int), c.1⟩ : Dut)]).length : Int) 8 c.2)
def leafR (s : Pz) : Nod × Pz :=
  if 0 < (catR s).1 then (⟨2, zeroV, (attrR ((catR s).1 : Int) (catR s).2).1⟩, (attrR ((catR s).1 : Int) (catR s).2).2)
  else (⟨1, (valueR (catR s).2).1, zeroA⟩, (valueR (catR s).2).2)
def isBag (op : Int) : Bool := decide (op = 3) || decide (op = 4) || decide (op = 5)
def isTwo (op : Int) : Bool := !decide (op = 3) && !decide (op = 4) && !decide (op = 11)
def callR (ex : List Nod → Bool → Pz → List Nod × Pz) (l : List Nod) (s : Pz) : List Nod × Int × Pz :=
  let m := mustR [w_one, w_size, w_has, w_eq, w_less, w_add, w_sub, w_mul, w_not, w_and, w_or] s
  let op : Int := 2 + (m.1 : Int)
  let e := ex l (isBag op) m.2
  let f := if isTwo op = true then ex e.1 false e.2 else e
  (f.1, op, (mustR [m_rp] f.2).2)
/-- Behind a node: it is one too many, or not what must stand here. -/
def nodR (bag : Bool) (p : Int) (l : List Nod) (n : Nod) (s : Pz) : List Nod × Pz :=
  (l ++ [n], if bag != decide (n.op = 2) then failR 5 p (mostR ((l ++ [n]).length : Int) 32 s) else mostR ((l ++ [n]).length : Int) 32 s)
def exprR : Nat → List Nod → Bool → Pz → List Nod × Pz
  | 0, l, _, s => (l, s)
  | n + 1, l, bag, s =>
    if 0 < (takeR [m_lp] s).1 then
      let c := callR (exprR n) l (takeR [m_lp] s).2
      nodR bag s.hd.p c.1 ⟨c.2.1, zeroV, zeroA⟩ c.2.2
    else nodR bag s.hd.p l (leafR (takeR [m_lp] s).2).1 (leafR (takeR [m_lp] s).2).2
def condR (s : Pz) : List Nod × Pz :=
  if (takeR [w_if] s).1 = 0 then ([], (takeR [w_if] s).2) else exprR (takeR [w_if] s).2.rest.length [] false (takeR [w_if] s).2
def dutsR (s : Pz) : List Dut × Pz := dutiesR s.rest.length [] s
def ruleR (s : Pz) : Rul × Pz :=
  let a := mustR [w_permit, w_deny] s
  let b := nameR a.2
  let t := targetR b.2
  let c := condR t.2
  let d := dutsR c.2
  (⟨b.1, decide (a.1 = 2), t.1, c.1, d.1⟩, (mustR [m_semi] d.2).2)
def metR (s : Pz) : Pz := ⟨s.rest, s.met + 1, s.err, s.at_⟩
def rulesR : Nat → List Rul → Pz → List Rul × Pz
  | 0, l, s => (l, s)
  | n + 1, l, s =>
    if seesR [w_permit, w_deny] s = 0 then (l, s) else
    let s1 := mostR ((l.length : Int) + 1) 16 (metR s)
    let u := ruleR (mostR (s1.met : Int) 64 s1)
    rulesR n (l ++ [u.1]) u.2
def kidsR (po : Pz → Pol × Pz) : Nat → List Pol → Pz → List Pol × Pz
  | 0, l, s => (l, s)
  | n + 1, l, s =>
    if seesR [w_policy, w_set] s = 0 then (l, s) else
    let u := po (mostR ((l.length : Int) + 1) 16 s)
    kidsR po n (l ++ [u.1]) u.2
/-- A policy, where so many levels are left. -/
def polR : Nat → Pz → Pol × Pz
  | 0, s => (.mk ⟨#[]⟩ false 0 [] [] [] [], s)
  | f + 1, s =>
    let s0 := mostR (5 - (f : Int)) 4 s
    let a := mustR [w_policy, w_set] s0
    let b := nameR a.2
    let c := mustR [w_denyover, w_permitover, w_first, w_only, w_denyunless, w_permitunless] b.2
    let t := targetR c.2
    let d := mustR [m_lb] t.2
    let k := if a.1 = 2 then kidsR (polR f) d.2.rest.length [] d.2 else ([], d.2)
    let r := if a.1 = 2 then ([], k.2) else rulesR d.2.rest.length [] d.2
    let e := mustR [m_rb] r.2
    let o := dutsR e.2
    (.mk b.1 (decide (a.1 = 2)) (c.1 : Int) t.1 r.1 k.1 o.1, o.2)
def noPol : Pol := .mk ⟨#[]⟩ false 0 [] [] [] []
/-- P9: a text's policy, or the error and its place. -/
def parseR (s : ByteArray) : Pol × Int × Int :=
  if 4096 < s.size then (noPol, 6, 4096) else
  match lexB s.data.toList 0 with
  | .error p => (noPol, 5, (p : Int))
  | .ok ts =>
    let u := polR 5 ⟨ts, 0, 0, 0⟩
    let z := endR u.2
    if z.err = 0 then (if rightE u.1 = 0 then (u.1, 0, 0) else (noPol, 5, (s.size : Int))) else (noPol, z.err, z.at_)

/-! ### What holds all along -/
section
variable {L : Nat} {s : Pz}
theorem Pz.ok.ne (h : s.ok L) : s.rest ≠ [] := by
  obtain ⟨⟨e, he, _⟩, _⟩ := h
  intro h0
  rw [h0] at he
  cases he
theorem Pz.ok.pos (h : s.ok L) : 1 ≤ s.rest.length := List.length_pos_iff.2 h.ne
theorem Pz.ok.get0 (h : s.ok L) : s.rest[0]? = some s.hd := by
  have := h.ne
  unfold Pz.hd
  cases hr : s.rest with
  | nil => exact absurd hr this
  | cons t l => rfl
theorem Pz.ok.hd_ok (h : s.ok L) : InI s.hd.k ∧ (0 ≤ s.hd.p ∧ s.hd.p ≤ (L : Int)) ∧ InI s.hd.n ∧ s.hd.s.size ≤ maxLen := h.2.1 _ (List.mem_of_getElem? h.get0)
/-- What is not the end is not the last. -/
theorem Pz.ok.more (h : s.ok L) (hk : s.hd.k ≠ 7) : 2 ≤ s.rest.length := by
  have h0 := h.ne
  obtain ⟨⟨e, he, h7⟩, _⟩ := h
  unfold Pz.hd at hk
  rcases hr : s.rest with _ | ⟨t, _ | ⟨u, l⟩⟩
  · exact absurd hr h0
  · rw [hr] at he hk
    simp at he hk
    rw [he] at hk
    exact absurd h7 hk
  · simp
theorem Pz.ok.next (h : s.ok L) (hk : s.hd.k ≠ 7) : (nextR s).ok L := by
  have h2 := h.more hk
  obtain ⟨⟨e, he, h7⟩, ha, hl, hx⟩ := h
  rcases hr : s.rest with _ | ⟨t, l⟩
  · rw [hr] at h2; simp at h2
  · rw [hr] at h2
    simp at h2
    refine ⟨⟨e, ?_, h7⟩, fun t ht => ha t ?_, ?_, hx⟩
    · show (s.rest.drop 1).getLast? = _
      rw [hr] at he ⊢
      rcases l with _ | ⟨u, l⟩
      · simp at h2
      · simpa [List.getLast?_cons_cons] using he
    · exact List.mem_of_mem_drop ht
    · have e : (nextR s).rest.length = s.rest.length - 1 := List.length_drop
      have e2 : (nextR s).met = s.met := rfl
      omega
theorem Pz.ok.fail (h : s.ok L) {e p : Int} (he : e = 5 ∨ e = 6) (hp : 0 ≤ p ∧ p ≤ (L : Int)) : (failR e p s).ok L := by
  have h1 := h.pos
  have key : ∀ (x y : Int), (x = 0 ∨ x = 5 ∨ x = 6) → 0 ≤ y ∧ y ≤ (L : Int) → (⟨s.rest.drop (s.rest.length - 1), s.met, x, y⟩ : Pz).ok L := by
    intro x y hx hy
    obtain ⟨⟨z, hz, h7⟩, ha, hl, _⟩ := h
    refine ⟨⟨z, ?_, h7⟩, fun t ht => ha t (List.mem_of_mem_drop ht), ?_, hx, hy⟩
    · show (s.rest.drop (s.rest.length - 1)).getLast? = _
      rw [List.getLast?_drop, if_neg (by omega)]
      exact hz
    · show (s.rest.drop (s.rest.length - 1)).length ≤ _ ∧ s.met + (s.rest.drop (s.rest.length - 1)).length ≤ _ ∧ _
      rw [List.length_drop]
      omega
  unfold failR
  split
  · exact key _ _ (by omega) hp
  · exact key _ _ h.2.2.2.1 h.2.2.2.2
theorem Pz.ok.wrong (h : s.ok L) : (wrongR s).ok L := h.fail (by omega) h.hd_ok.2.1
theorem Pz.ok.most (h : s.ok L) (n l : Int) : (mostR n l s).ok L := by
  unfold mostR
  split
  · exact h.fail (by omega) h.hd_ok.2.1
  · exact h
theorem failR_len (e p : Int) (h : s.ok L) : (failR e p s).rest.length = 1 := by
  have := h.pos
  unfold failR
  split <;> (show (s.rest.drop (s.rest.length - 1)).length = 1; rw [List.length_drop]; omega)
theorem mostR_len (h : s.ok L) (n l : Int) : (mostR n l s).rest.length ≤ s.rest.length := by
  have := h.pos
  unfold mostR
  split
  · rw [failR_len _ _ h]; exact this
  · exact Nat.le_refl _
theorem seesR_more (h : s.ok L) {ws : List ByteArray} (h0 : seesR ws s ≠ 0) : s.hd.k ≠ 7 := by
  intro h7
  unfold seesR at h0
  rw [h7] at h0
  simp at h0
theorem nextR_len (s : Pz) : (nextR s).rest.length = s.rest.length - 1 := List.length_drop
theorem Pz.ok.take (h : s.ok L) (ws : List ByteArray) : (takeR ws s).2.ok L := by
  unfold takeR
  split
  · exact h
  · rename_i h0
    exact h.next (seesR_more h h0)
theorem Pz.ok.must (h : s.ok L) (ws : List ByteArray) : (mustR ws s).2.ok L := by
  unfold mustR
  split
  · exact h.wrong
  · rename_i h0
    exact h.next (seesR_more h h0)
theorem Pz.ok.name (h : s.ok L) : (nameR s).2.ok L := by
  unfold nameR
  split
  · rename_i h1
    exact h.next (by omega)
  · exact h.wrong
theorem Pz.ok.end_ (h : s.ok L) : (endR s).ok L := by
  unfold endR
  split
  · exact h
  · exact h.wrong
theorem takeR_len (h : s.ok L) (ws : List ByteArray) : (takeR ws s).2.rest.length + (if (takeR ws s).1 = 0 then 0 else 1) = s.rest.length := by
  have := h.pos
  unfold takeR
  split
  · simp
  · rename_i h0
    show (nextR s).rest.length + 1 = _
    rw [nextR_len]
    omega
theorem mustR_len (h : s.ok L) (ws : List ByteArray) : (mustR ws s).2.rest.length ≤ s.rest.length ∧ 1 ≤ (mustR ws s).2.rest.length := by
  have := h.pos
  refine ⟨?_, (h.must ws).pos⟩
  unfold mustR
  split
  · unfold wrongR; rw [failR_len _ _ h]; exact this
  · rw [nextR_len]; omega
theorem nameR_len (h : s.ok L) : (nameR s).2.rest.length ≤ s.rest.length := by
  have := h.pos
  unfold nameR
  split
  · rw [nextR_len]; omega
  · unfold wrongR; rw [failR_len _ _ h]; exact this
theorem idxW_le (x : ByteArray) : ∀ ws : List ByteArray, idxW x ws ≤ ws.length
  | [] => Nat.le_refl _
  | y :: l => by
    have := idxW_le x l
    unfold idxW
    split
    · simp
    · split
      · omega
      · simp; omega
theorem seesR_le (ws : List ByteArray) (s : Pz) : seesR ws s ≤ ws.length := by
  unfold seesR
  split
  · exact idxW_le _ _
  · omega
theorem takeR_le (ws : List ByteArray) (s : Pz) : (takeR ws s).1 ≤ ws.length := by
  unfold takeR
  split
  · exact Nat.zero_le _
  · exact seesR_le _ _
theorem mustR_le (ws : List ByteArray) (s : Pz) : (mustR ws s).1 ≤ ws.length := by
  unfold mustR
  split
  · exact Nat.zero_le _
  · exact seesR_le _ _
theorem nameR_size (h : s.ok L) : (nameR s).1.size ≤ maxLen := by
  unfold nameR
  split
  · exact h.hd_ok.2.2.2
  · exact Nat.zero_le _
end
end Go.Proofs.YtjpkemamfccfdaaGreatDoor
/- The parser, plainly: what is left only shrinks, and what is read is such as Go has. -/
namespace Go.Proofs.YtjpkemamfccfdaaGreatDoor
set_option linter.unusedVariables false

/-- It stays in order, and no more is left than was. -/
def Goes (L : Nat) (s s' : Pz) : Prop := s'.ok L ∧ s'.rest.length ≤ s.rest.length
section
variable {L : Nat} {s s1 s2 : Pz}
theorem Goes.refl (h : s.ok L) : Goes L s s := ⟨h, Nat.le_refl _⟩
theorem Goes.trans (h1 : Goes L s s1) (h2 : s1.ok L → Goes L s1 s2) : Goes L s s2 := ⟨(h2 h1.1).1, Nat.le_trans (h2 h1.1).2 h1.2⟩
theorem fail_go (h : s.ok L) {e p : Int} (he : e = 5 ∨ e = 6) (hp : 0 ≤ p ∧ p ≤ (L : Int)) : Goes L s (failR e p s) := ⟨h.fail he hp, by rw [failR_len e p h]; exact h.pos⟩
theorem wrong_go (h : s.ok L) : Goes L s (wrongR s) := fail_go h (.inl rfl) h.hd_ok.2.1
theorem most_go (h : s.ok L) (n l : Int) : Goes L s (mostR n l s) := ⟨h.most n l, mostR_len h n l⟩
theorem take_go (h : s.ok L) (ws : List ByteArray) : Goes L s (takeR ws s).2 := ⟨h.take ws, by have := takeR_len h ws; omega⟩
theorem must_go (h : s.ok L) (ws : List ByteArray) : Goes L s (mustR ws s).2 := ⟨h.must ws, (mustR_len h ws).1⟩
theorem name_go (h : s.ok L) : Goes L s (nameR s).2 := ⟨h.name, nameR_len h⟩
theorem next_go (h : s.ok L) (hk : s.hd.k ≠ 7) : Goes L s (nextR s) := ⟨h.next hk, by rw [nextR_len]; omega⟩
theorem end_go (h : s.ok L) : Goes L s (endR s) := by
  unfold endR
  split
  · exact .refl h
  · exact wrong_go h
theorem attr_go (h : s.ok L) (cat : Int) : Goes L s (attrR cat s).2 := by
  have h1 : Goes L s (if cat = 0 then wrongR s else s) := by
    split
    · exact wrong_go h
    · exact .refl h
  exact ((h1.trans fun h => must_go h _).trans fun h => name_go h).trans fun h => take_go h _
theorem value_go (h : s.ok L) : Goes L s (valueR s).2 := by
  unfold valueR
  split
  · exact must_go h _
  · rename_i hk
    exact next_go h (by intro e; rw [e] at hk; exact hk rfl)
theorem match_go (h : s.ok L) : Goes L s (matchR s).2 :=
  (((take_go h _).trans fun h => attr_go h _).trans fun h => must_go h _).trans fun h => value_go h
theorem leaf_go (h : s.ok L) : Goes L s (leafR s).2 := by
  unfold leafR
  split
  · exact (take_go h _).trans fun h => attr_go h _
  · exact (take_go h _).trans fun h => value_go h
theorem row_go {α : Type} {one : Pz → α × Pz} {btw : ByteArray} (ho : ∀ s, s.ok L → Goes L s (one s).2) : ∀ (n : Nat) (l : List α) (s : Pz), s.ok L → Goes L s (rowR one btw n l s).2
  | 0, l, s, h => .refl h
  | n + 1, l, s, h => by
    have h1 := ((ho s h).trans fun h => most_go h ((l ++ [(one s).1]).length : Int) 8).trans fun h => take_go h [btw]
    unfold rowR
    simp only
    split
    · exact h1
    · exact h1.trans fun h => row_go ho n _ _ h
theorem allOf_go (h : s.ok L) : Goes L s (allOfR s).2 := row_go (fun s h => match_go h) _ _ _ h
theorem anyOf_go (h : s.ok L) : Goes L s (anyOfR s).2 :=
  ((must_go h [m_lp]).trans fun h => row_go (fun s h => allOf_go h) _ _ _ h).trans fun h => must_go h _
theorem target_go (h : s.ok L) : Goes L s (targetR s).2 := by
  unfold targetR
  split
  · exact take_go h _
  · exact (take_go h _).trans fun h => row_go (fun s h => anyOf_go h) _ _ _ h
theorem duties_go : ∀ (n : Nat) (l : List Dut) (s : Pz), s.ok L → Goes L s (dutiesR n l s).2
  | 0, l, s, h => .refl h
  | n + 1, l, s, h => by
    unfold dutiesR
    split
    · exact take_go h _
    · exact (((((take_go h _).trans fun h => must_go h _).trans fun h => must_go h _).trans fun h => name_go h).trans fun h => most_go h _ _).trans fun h => duties_go n _ _ h
theorem duts_go (h : s.ok L) : Goes L s (dutsR s).2 := duties_go _ _ _ h
theorem nod_go (h : s.ok L) (bag : Bool) {p : Int} (hp : 0 ≤ p ∧ p ≤ (L : Int)) (l : List Nod) (n : Nod) : Goes L s (nodR bag p l n s).2 := by
  unfold nodR
  simp only
  split
  · exact (most_go h _ _).trans fun h => fail_go h (.inl rfl) hp
  · exact most_go h _ _
/-- What a call's parts add, and what they take. -/
theorem expr_go : ∀ (n : Nat) (l : List Nod) (bag : Bool) (s : Pz), s.ok L → s.rest.length ≤ n → Goes L s (exprR n l bag s).2 ∧ (exprR n l bag s).1.length + 2 * (exprR n l bag s).2.rest.length ≤ l.length + 2 * s.rest.length + 1
  | 0, l, bag, s, h, hn => by have := h.pos; omega
  | n + 1, l, bag, s, h, hn => by
    have ht := take_go h [m_lp]
    have hp := h.hd_ok.2.1
    unfold exprR
    split
    · rename_i h0
      have hl := takeR_len h [m_lp]
      rw [if_neg (by omega)] at hl
      simp only [callR]
      generalize (takeR [m_lp] s).2 = s1 at *
      have hm := must_go ht.1 [w_one, w_size, w_has, w_eq, w_less, w_add, w_sub, w_mul, w_not, w_and, w_or]
      generalize mustR [w_one, w_size, w_has, w_eq, w_less, w_add, w_sub, w_mul, w_not, w_and, w_or] s1 = m at *
      obtain ⟨i, s2⟩ := m
      simp only at hm ⊢
      obtain ⟨he, hel⟩ := expr_go n l (isBag (2 + (i : Int))) s2 hm.1 (by have := hm.2; omega)
      generalize exprR n l (isBag (2 + (i : Int))) s2 = e at *
      obtain ⟨l3, s3⟩ := e
      simp only at he hel ⊢
      have key : ∀ f : List Nod × Pz, f = (if isTwo (2 + (i : Int)) = true then exprR n l3 false s3 else (l3, s3)) → Goes L s3 f.2 ∧ f.1.length + 2 * f.2.rest.length ≤ l3.length + 2 * s3.rest.length + 1 := by
        intro f hf
        split at hf
        · subst hf
          exact expr_go n l3 false s3 he.1 (by have := hm.2; have := he.2; omega)
        · subst hf
          exact ⟨.refl he.1, by simp only; omega⟩
      obtain ⟨hf, hfl⟩ := key _ rfl
      generalize (if isTwo (2 + (i : Int)) = true then exprR n l3 false s3 else (l3, s3)) = f at *
      obtain ⟨l4, s4⟩ := f
      simp only at hf hfl ⊢
      have hr := must_go hf.1 [m_rp]
      have hN := nod_go hr.1 bag hp l4 ⟨2 + (i : Int), zeroV, zeroA⟩
      refine ⟨⟨hN.1, ?_⟩, ?_⟩
      · have := hN.2; have := hr.2; have := hf.2; have := he.2; have := hm.2; have := ht.2; omega
      · have e1 : (nodR bag s.hd.p l4 ⟨2 + (i : Int), zeroV, zeroA⟩ (mustR [m_rp] s4).2).1.length = l4.length + 1 := by simp [nodR]
        have := hN.2; have := hr.2; have := hf.2; have := he.2; have := hm.2
        omega
    · have hlf := leaf_go ht.1
      have hN := nod_go hlf.1 bag hp l (leafR (takeR [m_lp] s).2).1
      have hl := takeR_len h [m_lp]
      refine ⟨⟨hN.1, ?_⟩, ?_⟩
      · have := hN.2; have := hlf.2; have := ht.2; omega
      · have e1 : (nodR bag s.hd.p l (leafR (takeR [m_lp] s).2).1 (leafR (takeR [m_lp] s).2).2).1.length = l.length + 1 := by simp [nodR]
        have := hN.2; have := hlf.2
        omega
theorem cond_go (h : s.ok L) : Goes L s (condR s).2 := by
  unfold condR
  split
  · exact take_go h _
  · exact (take_go h _).trans fun h => (expr_go _ [] false _ h (Nat.le_refl _)).1
theorem rule_go (h : s.ok L) : Goes L s (ruleR s).2 := by
  have h1 := must_go h [w_permit, w_deny]
  have h2 := h1.trans fun h => name_go h
  have h3 := h2.trans fun h => target_go h
  have h4 := h3.trans fun h => cond_go h
  have h5 := h4.trans fun h => duts_go h
  have h6 := h5.trans fun h => must_go h [m_semi]
  unfold ruleR
  simp only
  exact h6

/-! ### What is read is such as Go has -/
theorem zeroV_ok : zeroV.ok := by decide
theorem zeroA_ok : zeroA.ok := by decide
theorem attr_ok (h : s.ok L) {cat : Int} (hc : InI cat) : (attrR cat s).1.ok := by
  have h1 : Goes L s (if cat = 0 then wrongR s else s) := by
    split
    · exact wrong_go h
    · exact .refl h
  exact ⟨hc, nameR_size (h1.trans fun h => must_go h [m_dot]).1⟩
theorem in_small {n : Int} (h1 : -100 ≤ n) (h2 : n ≤ 100) : InI n := by unfold InI; omega
theorem kindR_in (k : Int) : InI (kindR k) := by
  unfold kindR
  repeat' split
  all_goals exact in_small (by omega) (by omega)
theorem value_ok (h : s.ok L) : (valueR s).1.ok := by
  unfold valueR
  split
  · have := mustR_le [w_false, w_true] s
    have : (mustR [w_false, w_true] s).1 ≤ 2 := this
    exact ⟨in_small (by show -100 ≤ (1 : Int); omega) (by show (1 : Int) ≤ 100; omega), in_small (by show -100 ≤ ((mustR [w_false, w_true] s).1 : Int) - 1; omega) (by show ((mustR [w_false, w_true] s).1 : Int) - 1 ≤ 100; omega), Nat.zero_le _⟩
  · exact ⟨kindR_in _, h.hd_ok.2.2.1, h.hd_ok.2.2.2⟩
theorem cat_in (s : Pz) : InI ((catR s).1 : Int) := by
  have : (catR s).1 ≤ 4 := takeR_le _ _
  exact in_small (by omega) (by omega)
theorem match_ok (h : s.ok L) : (matchR s).1.ok := by
  have h1 : (catR s).2.ok L := h.take _
  have h2 := attr_go h1 ((catR s).1 : Int)
  have h3 : (mustR [m_eqm, m_lt, m_gt] (attrR ((catR s).1 : Int) (catR s).2).2).1 ≤ 3 := mustR_le _ _
  exact ⟨attr_ok h1 (cat_in s), in_small (by show -100 ≤ ((mustR [m_eqm, m_lt, m_gt] (attrR ((catR s).1 : Int) (catR s).2).2).1 : Int); omega) (by show ((mustR [m_eqm, m_lt, m_gt] (attrR ((catR s).1 : Int) (catR s).2).2).1 : Int) ≤ 100; omega), value_ok (h2.trans fun h => must_go h _).1⟩
theorem leaf_ok (h : s.ok L) : (leafR s).1.ok := by
  have h1 : (catR s).2.ok L := h.take _
  unfold leafR
  split
  · exact ⟨in_small (by show -100 ≤ (2 : Int); omega) (by show (2 : Int) ≤ 100; omega), zeroV_ok, attr_ok h1 (cat_in s)⟩
  · exact ⟨in_small (by show -100 ≤ (1 : Int); omega) (by show (1 : Int) ≤ 100; omega), value_ok h1, zeroA_ok⟩
end
end Go.Proofs.YtjpkemamfccfdaaGreatDoor
/- The parser, plainly: who counts rules; what takes a token. -/
namespace Go.Proofs.YtjpkemamfccfdaaGreatDoor
set_option linter.unusedVariables false

section
variable {L : Nat} {s s1 s2 : Pz}
theorem failR_met (e p : Int) (s : Pz) : (failR e p s).met = s.met := by unfold failR; split <;> rfl
theorem wrongR_met (s : Pz) : (wrongR s).met = s.met := failR_met _ _ _
theorem mostR_met (n l : Int) (s : Pz) : (mostR n l s).met = s.met := by
  unfold mostR
  split
  · exact failR_met _ _ _
  · rfl
theorem takeR_met (ws : List ByteArray) (s : Pz) : (takeR ws s).2.met = s.met := by unfold takeR; split <;> rfl
theorem mustR_met (ws : List ByteArray) (s : Pz) : (mustR ws s).2.met = s.met := by
  unfold mustR
  split
  · exact wrongR_met _
  · rfl
theorem nameR_met (s : Pz) : (nameR s).2.met = s.met := by
  unfold nameR
  split
  · rfl
  · exact wrongR_met _
theorem attrR_met (cat : Int) (s : Pz) : (attrR cat s).2.met = s.met := by
  unfold attrR
  simp only
  rw [takeR_met, nameR_met, mustR_met]
  split
  · exact wrongR_met _
  · rfl
theorem valueR_met (s : Pz) : (valueR s).2.met = s.met := by
  unfold valueR
  split
  · exact mustR_met _ _
  · rfl
theorem catR_met (s : Pz) : (catR s).2.met = s.met := takeR_met _ _
theorem matchR_met (s : Pz) : (matchR s).2.met = s.met := by
  unfold matchR
  simp only
  rw [valueR_met, mustR_met, attrR_met, catR_met]
theorem leafR_met (s : Pz) : (leafR s).2.met = s.met := by
  unfold leafR
  split
  · simp only; rw [attrR_met, catR_met]
  · simp only; rw [valueR_met, catR_met]
theorem rowR_met {α : Type} {one : Pz → α × Pz} {btw : ByteArray} (ho : ∀ s, (one s).2.met = s.met) : ∀ (n : Nat) (l : List α) (s : Pz), (rowR one btw n l s).2.met = s.met
  | 0, _, _ => rfl
  | n + 1, l, s => by
    unfold rowR
    simp only
    split
    · rw [takeR_met, mostR_met, ho]
    · rw [rowR_met ho n, takeR_met, mostR_met, ho]
theorem allOfR_met (s : Pz) : (allOfR s).2.met = s.met := rowR_met matchR_met _ _ _
theorem anyOfR_met (s : Pz) : (anyOfR s).2.met = s.met := by
  unfold anyOfR
  simp only
  rw [mustR_met, rowR_met allOfR_met, mustR_met]
theorem targetR_met (s : Pz) : (targetR s).2.met = s.met := by
  unfold targetR
  split
  · exact takeR_met _ _
  · rw [rowR_met anyOfR_met, takeR_met]
theorem dutiesR_met : ∀ (n : Nat) (l : List Dut) (s : Pz), (dutiesR n l s).2.met = s.met
  | 0, _, _ => rfl
  | n + 1, l, s => by
    unfold dutiesR
    split
    · exact takeR_met _ _
    · simp only
      rw [dutiesR_met n, mostR_met, nameR_met, mustR_met, mustR_met, takeR_met]
theorem dutsR_met (s : Pz) : (dutsR s).2.met = s.met := dutiesR_met _ _ _
theorem nodR_met (bag : Bool) (p : Int) (l : List Nod) (n : Nod) (s : Pz) : (nodR bag p l n s).2.met = s.met := by
  unfold nodR
  simp only
  split
  · rw [failR_met, mostR_met]
  · rw [mostR_met]
theorem callR_met {ex : List Nod → Bool → Pz → List Nod × Pz} (he : ∀ l b s, (ex l b s).2.met = s.met) (l : List Nod) (s : Pz) : (callR ex l s).2.2.met = s.met := by
  unfold callR
  simp only
  rw [mustR_met]
  split
  · rw [he, he, mustR_met]
  · rw [he, mustR_met]
theorem exprR_met : ∀ (n : Nat) (l : List Nod) (b : Bool) (s : Pz), (exprR n l b s).2.met = s.met
  | 0, _, _, _ => rfl
  | n + 1, l, b, s => by
    unfold exprR
    split
    · simp only
      rw [nodR_met, callR_met (exprR_met n), takeR_met]
    · rw [nodR_met, leafR_met, takeR_met]
theorem condR_met (s : Pz) : (condR s).2.met = s.met := by
  unfold condR
  split
  · exact takeR_met _ _
  · rw [exprR_met, takeR_met]
theorem ruleR_met (s : Pz) : (ruleR s).2.met = s.met := by
  unfold ruleR
  simp only
  rw [mustR_met, dutsR_met, condR_met, targetR_met, nameR_met, mustR_met]

/-- Either nothing was too many, or the end alone is left. -/
theorem most_or (h : s.ok L) (n l : Int) : mostR n l s = s ∨ (mostR n l s).rest.length = 1 := by
  unfold mostR
  split
  · exact .inr (failR_len _ _ h)
  · exact .inl rfl
theorem sees_more (h : s.ok L) {ws : List ByteArray} (h0 : seesR ws s ≠ 0) : 2 ≤ s.rest.length := h.more (seesR_more h h0)
theorem sees_one (h : s.ok L) (h1 : s.rest.length = 1) (ws : List ByteArray) : seesR ws s = 0 := by
  apply Decidable.byContradiction
  intro h0
  have := sees_more h h0
  omega
theorem must_one (h : s.ok L) (h1 : s.rest.length = 1) (ws : List ByteArray) : (mustR ws s).1 = 0 := by
  unfold mustR
  rw [if_pos (sees_one h h1 ws)]
theorem must_less (h : s.ok L) {ws : List ByteArray} (h0 : seesR ws s ≠ 0) : (mustR ws s).2.rest.length + 1 = s.rest.length := by
  have := sees_more h h0
  unfold mustR
  rw [if_neg h0]
  show (nextR s).rest.length + 1 = _
  rw [nextR_len]
  omega
theorem rule_less (h : s.ok L) (h0 : seesR [w_permit, w_deny] s ≠ 0) : (ruleR s).2.rest.length < s.rest.length := by
  have h1 := must_less h h0
  have h2 := (((((Goes.refl (h.must [w_permit, w_deny])).trans fun h => name_go h).trans fun h => target_go h).trans fun h => cond_go h).trans fun h => duts_go h).trans fun h => must_go h [m_semi]
  have h3 : (ruleR s).2.rest.length ≤ (mustR [w_permit, w_deny] s).2.rest.length := by unfold ruleR; simp only; exact h2.2
  omega
/-- One more rule is met. -/
theorem met_ok (h : s.ok L) (hm : s.met + s.rest.length ≤ 5990) : (metR s).ok L := by
  obtain ⟨h1, h2, h3, h4⟩ := h
  exact ⟨h1, h2, ⟨h3.1, by show s.met + 1 + s.rest.length ≤ 6000; omega, h3.2.2⟩, h4⟩
theorem metR_sees (ws : List ByteArray) (s : Pz) : seesR ws (metR s) = seesR ws s := rfl
/-- What a round of rules leaves. -/
theorem round_rule (h : s.ok L) (hm : s.met + s.rest.length ≤ 5990) (h0 : seesR [w_permit, w_deny] s ≠ 0) (n : Int) :
    (mostR n 16 (metR s)).ok L ∧ (mostR ((mostR n 16 (metR s)).met : Int) 64 (mostR n 16 (metR s))).ok L ∧ (mostR n 16 (metR s)).met = s.met + 1 ∧
    Goes L s (ruleR (mostR ((mostR n 16 (metR s)).met : Int) 64 (mostR n 16 (metR s)))).2 ∧ (ruleR (mostR ((mostR n 16 (metR s)).met : Int) 64 (mostR n 16 (metR s)))).2.rest.length < s.rest.length ∧
    (ruleR (mostR ((mostR n 16 (metR s)).met : Int) 64 (mostR n 16 (metR s)))).2.met = s.met + 1 := by
  have k0 := met_ok h hm
  have k1 := k0.most n 16
  have e1 : (mostR n 16 (metR s)).met = s.met + 1 := mostR_met _ _ _
  have k2 := k1.most ((mostR n 16 (metR s)).met : Int) 64
  have hr : (metR s).rest.length = s.rest.length := rfl
  have l2 := sees_more h h0
  have lr := rule_go k2
  have key : (ruleR (mostR ((mostR n 16 (metR s)).met : Int) 64 (mostR n 16 (metR s)))).2.rest.length < s.rest.length := by
    rcases most_or k1 ((mostR n 16 (metR s)).met : Int) 64 with e | e
    · rcases most_or k0 n 16 with e' | e'
      · rw [e, e']
        have := rule_less k0 (by rw [metR_sees]; exact h0)
        omega
      · have := lr.2
        rw [e] at this ⊢
        omega
    · have := lr.2
      omega
  refine ⟨k1, k2, e1, ⟨lr.1, by omega⟩, key, ?_⟩
  rw [ruleR_met, mostR_met, e1]
theorem rules_go : ∀ (n : Nat) (l : List Rul) (s : Pz), s.ok L → s.met + s.rest.length ≤ 5990 → Goes L s (rulesR n l s).2 ∧ (rulesR n l s).2.met + (rulesR n l s).2.rest.length ≤ s.met + s.rest.length
  | 0, l, s, h, hm => ⟨.refl h, Nat.le_refl _⟩
  | n + 1, l, s, h, hm => by
    unfold rulesR
    split
    · exact ⟨.refl h, Nat.le_refl _⟩
    · rename_i h0
      obtain ⟨k1, k2, e1, g, hl, hmt⟩ := round_rule h hm h0 ((l.length : Int) + 1)
      simp only
      obtain ⟨a, b⟩ := rules_go n (l ++ [(ruleR (mostR ((mostR ((l.length : Int) + 1) 16 (metR s)).met : Int) 64 (mostR ((l.length : Int) + 1) 16 (metR s)))).1]) _ g.1 (by omega)
      exact ⟨g.trans fun _ => a, by omega⟩
/-- A policy's reader: what it leaves. -/
def PoGo (L : Nat) (po : Pz → Pol × Pz) : Prop := ∀ s : Pz, s.ok L → s.met + s.rest.length ≤ 5990 → Goes L s (po s).2 ∧ (po s).2.met + (po s).2.rest.length ≤ s.met + s.rest.length ∧ (seesR [w_policy, w_set] s ≠ 0 → (po s).2.rest.length < s.rest.length)
theorem most_sum (h : s.ok L) (n l : Int) : (mostR n l s).met + (mostR n l s).rest.length ≤ s.met + s.rest.length := by
  have := mostR_len h n l
  rw [mostR_met]
  omega
theorem round_kid {po : Pz → Pol × Pz} (hp : PoGo L po) (h : s.ok L) (hm : s.met + s.rest.length ≤ 5990) (h0 : seesR [w_policy, w_set] s ≠ 0) (n : Int) :
    Goes L s (po (mostR n 16 s)).2 ∧ (po (mostR n 16 s)).2.rest.length < s.rest.length ∧ (po (mostR n 16 s)).2.met + (po (mostR n 16 s)).2.rest.length ≤ s.met + s.rest.length := by
  have k1 := h.most n 16
  have l1 := mostR_len h n 16
  have m1 := most_sum h n 16
  have l2 := sees_more h h0
  obtain ⟨a, b, c⟩ := hp _ k1 (by omega)
  refine ⟨⟨a.1, Nat.le_trans a.2 l1⟩, ?_, by omega⟩
  rcases most_or h n 16 with e | e
  · rw [e] at c ⊢
    exact c h0
  · have := a.2
    omega
theorem kids_go {po : Pz → Pol × Pz} (hp : PoGo L po) : ∀ (n : Nat) (l : List Pol) (s : Pz), s.ok L → s.met + s.rest.length ≤ 5990 → Goes L s (kidsR po n l s).2 ∧ (kidsR po n l s).2.met + (kidsR po n l s).2.rest.length ≤ s.met + s.rest.length
  | 0, l, s, h, hm => ⟨.refl h, Nat.le_refl _⟩
  | n + 1, l, s, h, hm => by
    unfold kidsR
    split
    · exact ⟨.refl h, Nat.le_refl _⟩
    · rename_i h0
      obtain ⟨g, hl, hmt⟩ := round_kid hp h hm h0 ((l.length : Int) + 1)
      simp only
      obtain ⟨a, b⟩ := kids_go hp n (l ++ [(po (mostR ((l.length : Int) + 1) 16 s)).1]) _ g.1 (by omega)
      exact ⟨g.trans fun _ => a, by omega⟩
/-- .. and the rules are not more than the tokens. -/
def Go2 (L : Nat) (s s' : Pz) : Prop := Goes L s s' ∧ s'.met + s'.rest.length ≤ s.met + s.rest.length
theorem Go2.of (g : Goes L s s1) (m : s1.met = s.met) : Go2 L s s1 := ⟨g, by have := g.2; omega⟩
theorem Go2.trans (h1 : Go2 L s s1) (h2 : s1.ok L → Go2 L s1 s2) : Go2 L s s2 := ⟨h1.1.trans fun h => (h2 h).1, Nat.le_trans (h2 h1.1.1).2 h1.2⟩
abbrev w_algs : List ByteArray := [w_denyover, w_permitover, w_first, w_only, w_denyunless, w_permitunless]
/-- What stands in a policy's brackets. -/
def inR (f : Nat) (a : Nat) (s : Pz) : List Rul × List Pol × Pz :=
  if a = 2 then ([], kidsR (polR f) s.rest.length [] s) else ((rulesR s.rest.length [] s).1, [], (rulesR s.rest.length [] s).2)
theorem polR_eq (f : Nat) (s : Pz) {s0 s1 s2 s3 s4 s5 s6 s7 s8 : Pz} {a c d e : Nat} {b : ByteArray} {t : Tgt} {r : List Rul} {k : List Pol} {o : List Dut} (h0 : mostR (5 - (f : Int)) 4 s = s0) (h1 : mustR [w_policy, w_set] s0 = (a, s1)) (h2 : nameR s1 = (b, s2)) (h3 : mustR w_algs s2 = (c, s3))
    (h4 : targetR s3 = (t, s4)) (h5 : mustR [m_lb] s4 = (d, s5)) (h6 : inR f a s5 = (r, k, s6)) (h7 : mustR [m_rb] s6 = (e, s7)) (h8 : dutsR s7 = (o, s8)) :
    polR (f + 1) s = (.mk b (decide (a = 2)) (c : Int) t r k o, s8) := by
  unfold polR
  simp only [h0, h1, h2, h3, h4, h5]
  unfold inR at h6
  split at h6
  · rename_i ha
    have e1 : ((kidsR (polR f) s5.rest.length [] s5).1, (kidsR (polR f) s5.rest.length [] s5).2) = (k, s6) := by injection h6
    have e2 : ([] : List Rul) = r := by injection h6
    injection e1 with e3 e4
    subst e2 e3 e4
    simp only [if_pos ha, h7, h8]
  · rename_i ha
    injection h6 with e1 e2
    injection e2 with e2 e3
    subst e1 e2 e3
    simp only [if_neg ha, h7, h8]
theorem pol_step (f : Nat) (ih : ∀ f', f = f' + 1 → PoGo L (polR f)) : ∀ s : Pz, s.ok L → s.met + s.rest.length ≤ 5990 → ∀ {a : Nat} {s1 : Pz}, mustR [w_policy, w_set] (mostR (5 - (f : Int)) 4 s) = (a, s1) →
    ∀ s5 : Pz, Go2 L s1 s5 → s5.ok L → s5.met + s5.rest.length ≤ 5990 → Go2 L s5 (inR f a s5).2.2 := by
  intro s h hm a s1 h1 s5 g5 k5 m5
  unfold inR
  split
  · rename_i ha
    match f, ih with
    | 0, ih =>
      have h5 : (mostR (5 - ((0 : Nat) : Int)) 4 s).rest.length = 1 := by
        unfold mostR
        rw [if_pos (by omega)]
        exact failR_len _ _ h
      have := must_one (h.most (5 - ((0 : Nat) : Int)) 4) h5 [w_policy, w_set]
      rw [h1] at this
      simp only at this
      omega
    | f' + 1, ih => exact kids_go (ih f' rfl) _ _ _ k5 m5
  · exact rules_go _ _ _ k5 m5
theorem pol_key (f : Nat) (ih : ∀ f', f = f' + 1 → PoGo L (polR f)) : PoGo L (polR (f + 1)) := by
  intro s h hm
  obtain ⟨s0, h0⟩ : ∃ t, mostR (5 - (f : Int)) 4 s = t := ⟨_, rfl⟩
  obtain ⟨a, s1, h1⟩ : ∃ a t, mustR [w_policy, w_set] s0 = (a, t) := ⟨_, _, rfl⟩
  obtain ⟨b, s2, h2⟩ : ∃ a t, nameR s1 = (a, t) := ⟨_, _, rfl⟩
  obtain ⟨c, s3, h3⟩ : ∃ a t, mustR w_algs s2 = (a, t) := ⟨_, _, rfl⟩
  obtain ⟨t, s4, h4⟩ : ∃ a t, targetR s3 = (a, t) := ⟨_, _, rfl⟩
  obtain ⟨d, s5, h5⟩ : ∃ a t, mustR [m_lb] s4 = (a, t) := ⟨_, _, rfl⟩
  obtain ⟨r, k, s6, h6⟩ : ∃ x y z, inR f a s5 = (x, y, z) := ⟨_, _, _, rfl⟩
  obtain ⟨e, s7, h7⟩ : ∃ a t, mustR [m_rb] s6 = (a, t) := ⟨_, _, rfl⟩
  obtain ⟨o, s8, h8⟩ : ∃ a t, dutsR s7 = (a, t) := ⟨_, _, rfl⟩
  have G0 : Go2 L s s0 := .of (h0 ▸ most_go h _ _) (h0 ▸ mostR_met _ _ _)
  have k0 := G0.1.1
  have G1 : Go2 L s0 s1 := .of (by have := must_go k0 [w_policy, w_set]; rwa [h1] at this) (by have := mustR_met [w_policy, w_set] s0; rwa [h1] at this)
  have k1 := G1.1.1
  have G2 : Go2 L s1 s2 := .of (by have := name_go k1; rwa [h2] at this) (by have := nameR_met s1; rwa [h2] at this)
  have k2 := G2.1.1
  have G3 : Go2 L s2 s3 := .of (by have := must_go k2 w_algs; rwa [h3] at this) (by have := mustR_met w_algs s2; rwa [h3] at this)
  have k3 := G3.1.1
  have G4 : Go2 L s3 s4 := .of (by have := target_go k3; rwa [h4] at this) (by have := targetR_met s3; rwa [h4] at this)
  have k4 := G4.1.1
  have G5 : Go2 L s4 s5 := .of (by have := must_go k4 [m_lb]; rwa [h5] at this) (by have := mustR_met [m_lb] s4; rwa [h5] at this)
  have k5 := G5.1.1
  have G15 : Go2 L s1 s5 := ((G2.trans fun _ => G3).trans fun _ => G4).trans fun _ => G5
  have G6 : Go2 L s5 s6 := by
    have := pol_step f ih s h hm (by rw [h0]; exact h1) s5 G15 k5 (by have := G0.2; have := G1.2; have := G15.2; omega)
    rwa [h6] at this
  have k6 := G6.1.1
  have G7 : Go2 L s6 s7 := .of (by have := must_go k6 [m_rb]; rwa [h7] at this) (by have := mustR_met [m_rb] s6; rwa [h7] at this)
  have k7 := G7.1.1
  have G8 : Go2 L s7 s8 := .of (by have := duts_go k7; rwa [h8] at this) (by have := dutsR_met s7; rwa [h8] at this)
  have G18 : Go2 L s1 s8 := ((G15.trans fun _ => G6).trans fun _ => G7).trans fun _ => G8
  have G08 := G0.trans fun _ => G1.trans fun _ => G18
  rw [polR_eq f s h0 h1 h2 h3 h4 h5 h6 h7 h8]
  refine ⟨G08.1, G08.2, fun hs => ?_⟩
  have l2 := sees_more h hs
  have := G18.1.2
  rcases most_or h (5 - (f : Int)) 4 with e | e
  · rw [h0] at e
    subst e
    have := must_less k0 hs
    rw [h1] at this
    simp only at this ⊢
    omega
  · rw [h0] at e
    have := G1.1.2
    simp only
    omega
theorem pol_go : ∀ f : Nat, PoGo L (polR (f + 1))
  | 0 => pol_key 0 (fun f' e => by omega)
  | f + 1 => pol_key (f + 1) (fun f' e => by obtain rfl : f = f' := by omega
                                             exact pol_go f)
end
end Go.Proofs.YtjpkemamfccfdaaGreatDoor
/- The parser, plainly: the tokens it begins with; what it answers. -/
namespace Go.Proofs.YtjpkemamfccfdaaGreatDoor
set_option linter.unusedVariables false

theorem decD_le {most : Nat} {d : List UInt8} {x : Nat} (h : decD most d = some x) : x ≤ most := by
  unfold decD at h
  split at h
  · cases h
  · rename_i hn
    cases h
    exact Nat.le_of_not_lt fun h => hn (.inr (.inr h))
/-- A token's numbers are such as Go has. -/
theorem tokB_in {l : List UInt8} {k n : Int} {s : List UInt8} {m : Nat} (h : tokB l = some (k, n, s, m)) : (1 ≤ k ∧ k ≤ 6) ∧ InI n := by
  cases l with
  | nil => cases h
  | cons c r =>
    rw [tokB] at h
    have z : InI 0 := by unfold InI; omega
    split at h
    · split at h
      · cases h; exact ⟨by omega, z⟩
      · cases h
    · split at h
      · cases hq : decD 9223372036854775807 ((c :: r).takeWhile dgt) with
        | none => rw [hq] at h; cases h
        | some x =>
          have := decD_le hq
          rw [hq] at h
          cases h
          exact ⟨by omega, by unfold InI; omega⟩
      · split at h
        · cases hq : decD 9223372036854775808 (r.takeWhile dgt) with
          | none => rw [hq] at h; cases h
          | some x =>
            have := decD_le hq
            rw [hq] at h
            simp only [Option.bind_some] at h
            split at h
            · cases h
            · cases h; exact ⟨by omega, by unfold InI; omega⟩
        · split at h
          · cases hq : decD 1099511627776 (r.takeWhile dgt) with
            | none => rw [hq] at h; cases h
            | some x =>
              have := decD_le hq
              rw [hq] at h; cases h; exact ⟨by omega, by unfold InI; omega⟩
          · split at h
            · split at h
              · cases h; exact ⟨by omega, z⟩
              · cases h
            · split at h
              · cases hq : qtB r with
                | none => rw [hq] at h; cases h
                | some q =>
                  rw [hq] at h
                  simp only [Option.bind_some] at h
                  split at h
                  · cases h; exact ⟨by omega, z⟩
                  · cases h
              · split at h
                · cases h; exact ⟨by omega, z⟩
                · cases h
theorem lexB_in : ∀ (n : Nat) (l : List UInt8) (p : Nat) (ts : List Tk), l.length ≤ n → lexB l p = .ok ts → ∀ t ∈ ts, InI t.k ∧ InI t.n ∧ t.s.size ≤ l.length
  | n, [], p, ts, _, h => by
    rw [lexB_nil] at h
    cases h
    intro t ht
    simp at ht
    subst ht
    refine ⟨by unfold InI; simp, by unfold InI; simp, Nat.zero_le _⟩
  | 0, c :: r, p, ts, hl, h => by simp at hl
  | n + 1, c :: r, p, ts, hl, h => by
    cases hb : blk c with
    | true =>
      rw [lexB_blank hb] at h
      intro t ht
      obtain ⟨a, b, c⟩ := lexB_in n r (p + 1) ts (by simpa using hl) h t ht
      exact ⟨a, b, by simp only [List.length_cons]; omega⟩
    | false =>
      cases hq : tokB (c :: r) with
      | none => rw [lexB_bad hb hq] at h; cases h
      | some q =>
        obtain ⟨k, m, s, j⟩ := q
        rw [lexB_tok hb hq] at h
        obtain ⟨j1, j2, j3⟩ := tokB_pos hq
        obtain ⟨⟨k1, k2⟩, hn⟩ := tokB_in hq
        cases hr : lexB ((c :: r).drop j) (p + j) with
        | error e => rw [hr] at h; cases h
        | ok us =>
          rw [hr] at h
          simp only [cat, Except.ok.injEq] at h
          subst h
          intro t ht
          rcases List.mem_append.1 ht with ht | ht
          · simp at ht
            subst ht
            exact ⟨in_small (by show -100 ≤ k; omega) (by show k ≤ 100; omega), hn, by show s.toArray.size ≤ _; simp only [List.size_toArray]; omega⟩
          · obtain ⟨a, b, d⟩ := lexB_in n _ _ us (by simp only [List.length_drop]; simp only [List.length_cons] at hl ⊢; omega) hr t ht
            exact ⟨a, b, by simp only [List.length_drop] at d; omega⟩
/-- The state that the parser begins with. -/
theorem start_ok {s : ByteArray} {ts : List Tk} (hs : s.size ≤ 4096) (h : lexB s.data.toList 0 = .ok ts) : (⟨ts, 0, 0, 0⟩ : Pz).ok s.size ∧ ts.length ≤ 4097 := by
  have hl : s.data.toList.length = s.size := rfl
  obtain ⟨us, e, hu⟩ := lexB_ne _ _ 0 ts (Nat.le_refl _) h
  have hp := lexB_places _ _ 0 ts (Nat.le_refl _) h
  have hi := lexB_in _ _ 0 ts (Nat.le_refl _) h
  rw [hl] at hu hp hi
  have hlen : ts.length ≤ 4097 := by rw [e]; simp; omega
  refine ⟨⟨⟨_, by rw [e]; exact List.getLast?_concat, rfl⟩, fun t ht => ?_, ⟨by show ts.length ≤ 5000; omega, by show 0 + ts.length ≤ 6000; omega, hs⟩, .inl rfl, Int.le_refl _, by show (0 : Int) ≤ (s.size : Int); omega⟩, hlen⟩
  obtain ⟨a, b, c⟩ := hi t ht
  obtain ⟨d, f⟩ := hp t ht
  exact ⟨a, ⟨by omega, by omega⟩, b, by unfold maxLen; omega⟩
theorem pair_eq {α β : Type} (x : α × β) : ∃ a b, x = (a, b) := ⟨x.1, x.2, rfl⟩
/-- What parseR comes to. -/
theorem parseR_big {s : ByteArray} (h : 4096 < s.size) : parseR s = (noPol, 6, 4096) := by unfold parseR; rw [if_pos h]
theorem parseR_bad {s : ByteArray} {p : Nat} (h : s.size ≤ 4096) (hl : lexB s.data.toList 0 = .error p) : parseR s = (noPol, 5, (p : Int)) := by unfold parseR; rw [if_neg (by omega), hl]
theorem parseR_ok {s : ByteArray} {ts : List Tk} {p : Pol} {s1 z : Pz} (h : s.size ≤ 4096) (hl : lexB s.data.toList 0 = .ok ts) (hp : polR 5 ⟨ts, 0, 0, 0⟩ = (p, s1)) (hz : endR s1 = z) :
    parseR s = if z.err = 0 then (if rightE p = 0 then (p, 0, 0) else (noPol, 5, (s.size : Int))) else (noPol, z.err, z.at_) := by
  unfold parseR
  rw [if_neg (by omega), hl]
  simp only [hp, hz]
/-- An error is one of the two, and its place is in the text. -/
theorem parseR_err (s : ByteArray) (hs : s.size ≤ 4096) : (parseR s).2.1 = 0 ∧ (parseR s).2.2 = 0 ∧ rightE (parseR s).1 = 0 ∨ ((parseR s).2.1 = 5 ∨ (parseR s).2.1 = 6) ∧ (parseR s).1 = noPol ∧ 0 ≤ (parseR s).2.2 ∧ (parseR s).2.2 ≤ (s.size : Int) := by
  cases hl : lexB s.data.toList 0 with
  | error p =>
    rw [parseR_bad hs hl]
    have := lexB_err_le _ _ 0 p (Nat.le_refl _) hl
    have e : s.data.toList.length = s.size := rfl
    exact .inr ⟨.inl rfl, rfl, by show (0 : Int) ≤ (p : Int); omega, by show (p : Int) ≤ _; omega⟩
  | ok ts =>
    obtain ⟨h0, hlen⟩ := start_ok hs hl
    have g := (pol_go (L := s.size) 4 ⟨ts, 0, 0, 0⟩ h0 (by show 0 + ts.length ≤ 5990; omega)).1
    obtain ⟨q, s1, hq⟩ := pair_eq (polR 5 ⟨ts, 0, 0, 0⟩)
    change Goes _ _ (polR 5 _).2 at g
    rw [hq] at g
    have k := (end_go g.1).1
    obtain ⟨z, hz⟩ : ∃ z, endR s1 = z := ⟨_, rfl⟩
    rw [parseR_ok hs hl hq hz]
    change (endR s1).ok _ at k
    rw [hz] at k
    split
    · split
      · rename_i hr
        exact .inl ⟨rfl, rfl, hr⟩
      · exact .inr ⟨.inl rfl, rfl, by show (0 : Int) ≤ (s.size : Int); omega, Int.le_refl _⟩
    · rename_i he
      exact .inr ⟨k.2.2.2.1.resolve_left he, rfl, k.2.2.2.2.1, k.2.2.2.2.2⟩
end Go.Proofs.YtjpkemamfccfdaaGreatDoor
/- The parser, plainly: places don't matter to what is read. -/
namespace Go.Proofs.YtjpkemamfccfdaaGreatDoor
set_option linter.unusedVariables false

/-- A token without its place; a state without places. -/
def Tk.z (t : Tk) : Tk := ⟨t.k, 0, t.n, t.s⟩
def Pz.st (s : Pz) : Pz := ⟨s.rest.map Tk.z, s.met, s.err, 0⟩
section
variable {s : Pz}
theorem st_hd : s.st.hd = s.hd.z := by
  unfold Pz.hd Pz.st
  cases s.rest <;> rfl
theorem st_len : s.st.rest.length = s.rest.length := List.length_map ..
theorem st_fail (e a : Int) (s : Pz) : failR e 0 s.st = (failR e a s).st := by
  unfold failR
  show (if s.err = 0 then _ else _) = _
  split <;> simp [Pz.st, List.map_drop]
theorem st_wrong : wrongR s.st = (wrongR s).st := by
  unfold wrongR
  rw [st_hd]
  exact st_fail 5 _ s
theorem st_most (n l : Int) : mostR n l s.st = (mostR n l s).st := by
  unfold mostR
  split
  · rw [st_hd]
    exact st_fail 6 _ s
  · rfl
theorem st_sees (ws : List ByteArray) : seesR ws s.st = seesR ws s := by
  unfold seesR
  rw [st_hd]
  rfl
theorem st_next : nextR s.st = (nextR s).st := by
  unfold nextR
  simp [Pz.st]
theorem st_take (ws : List ByteArray) : takeR ws s.st = ((takeR ws s).1, (takeR ws s).2.st) := by
  unfold takeR
  rw [st_sees]
  split
  · rfl
  · rw [st_next]
theorem st_must (ws : List ByteArray) : mustR ws s.st = ((mustR ws s).1, (mustR ws s).2.st) := by
  unfold mustR
  rw [st_sees]
  split
  · rw [st_wrong]
  · rw [st_next]
theorem st_end : endR s.st = (endR s).st := by
  unfold endR
  rw [st_hd]
  show (if s.hd.k = 7 then _ else _) = _
  split
  · rfl
  · exact st_wrong
theorem st_name : nameR s.st = ((nameR s).1, (nameR s).2.st) := by
  unfold nameR
  rw [st_hd]
  show (if s.hd.k = 1 then _ else _) = _
  split
  · rw [st_next]; rfl
  · rw [st_wrong]
theorem st_cat : catR s.st = ((catR s).1, (catR s).2.st) := st_take _
theorem st_attr (cat : Int) (s : Pz) : attrR cat s.st = ((attrR cat s).1, (attrR cat s).2.st) := by
  have h0 : (if cat = 0 then wrongR s.st else s.st) = (if cat = 0 then wrongR s else s).st := by
    split
    · exact st_wrong
    · rfl
  unfold attrR
  simp only
  rw [h0, st_must]
  simp only
  rw [st_name]
  simp only
  rw [st_take]
theorem st_value (s : Pz) : valueR s.st = ((valueR s).1, (valueR s).2.st) := by
  unfold valueR
  rw [st_hd, st_must, st_next]
  show (if kindR s.hd.k = 1 then _ else _) = _
  split <;> rfl
theorem st_match (s : Pz) : matchR s.st = ((matchR s).1, (matchR s).2.st) := by
  unfold matchR
  simp only
  rw [st_cat]
  simp only
  rw [st_attr]
  simp only
  rw [st_must]
  simp only
  rw [st_value]
theorem st_leaf (s : Pz) : leafR s.st = ((leafR s).1, (leafR s).2.st) := by
  unfold leafR
  rw [st_cat]
  simp only
  rw [st_attr, st_value]
  split <;> rfl
theorem st_row {α : Type} {one : Pz → α × Pz} {btw : ByteArray} (ho : ∀ s : Pz, one s.st = ((one s).1, (one s).2.st)) : ∀ (n : Nat) (l : List α) (s : Pz), rowR one btw n l s.st = ((rowR one btw n l s).1, (rowR one btw n l s).2.st)
  | 0, l, s => rfl
  | n + 1, l, s => by
    unfold rowR
    simp only
    rw [ho]
    simp only
    rw [st_most, st_take]
    simp only
    split
    · rfl
    · exact st_row ho n _ _
theorem st_allOf (s : Pz) : allOfR s.st = ((allOfR s).1, (allOfR s).2.st) := by
  unfold allOfR
  rw [st_len]
  exact st_row st_match _ _ _
theorem st_anyOf (s : Pz) : anyOfR s.st = ((anyOfR s).1, (anyOfR s).2.st) := by
  unfold anyOfR
  simp only
  rw [st_must]
  simp only
  rw [st_len, st_row st_allOf]
  simp only
  rw [st_must]
theorem st_target (s : Pz) : targetR s.st = ((targetR s).1, (targetR s).2.st) := by
  unfold targetR
  rw [st_take]
  simp only
  split
  · rfl
  · rw [st_len, st_row st_anyOf]
theorem st_duties : ∀ (n : Nat) (l : List Dut) (s : Pz), dutiesR n l s.st = ((dutiesR n l s).1, (dutiesR n l s).2.st)
  | 0, l, s => rfl
  | n + 1, l, s => by
    unfold dutiesR
    rw [st_take]
    simp only
    split
    · rfl
    · rw [st_must]
      simp only
      rw [st_must]
      simp only
      rw [st_name]
      simp only
      rw [st_most]
      exact st_duties n _ _
theorem st_duts (s : Pz) : dutsR s.st = ((dutsR s).1, (dutsR s).2.st) := by
  unfold dutsR
  rw [st_len]
  exact st_duties _ _ _
theorem st_nod (bag : Bool) (p : Int) (l : List Nod) (n : Nod) (s : Pz) : nodR bag 0 l n s.st = ((nodR bag p l n s).1, (nodR bag p l n s).2.st) := by
  unfold nodR
  rw [st_most]
  split
  · rw [st_fail 5 p]
  · rfl
theorem st_call {ex : List Nod → Bool → Pz → List Nod × Pz} (he : ∀ l b s, ex l b (Pz.st s) = ((ex l b s).1, (ex l b s).2.st)) (l : List Nod) (s : Pz) : callR ex l s.st = ((callR ex l s).1, (callR ex l s).2.1, (callR ex l s).2.2.st) := by
  unfold callR
  simp only
  rw [st_must]
  simp only
  rw [he]
  simp only
  rw [he]
  split
  · simp only
    rw [st_must]
  · simp only
    rw [st_must]
theorem st_expr : ∀ (n : Nat) (l : List Nod) (b : Bool) (s : Pz), exprR n l b s.st = ((exprR n l b s).1, (exprR n l b s).2.st)
  | 0, _, _, _ => rfl
  | n + 1, l, b, s => by
    unfold exprR
    rw [st_take, st_hd]
    simp only
    split
    · rw [st_call (st_expr n)]
      exact st_nod b s.hd.p _ _ _
    · rw [st_leaf]
      exact st_nod b s.hd.p _ _ _
theorem st_cond (s : Pz) : condR s.st = ((condR s).1, (condR s).2.st) := by
  unfold condR
  rw [st_take]
  simp only
  split
  · rfl
  · rw [st_len, st_expr]
theorem st_rule (s : Pz) : ruleR s.st = ((ruleR s).1, (ruleR s).2.st) := by
  unfold ruleR
  simp only
  rw [st_must]
  simp only
  rw [st_name]
  simp only
  rw [st_target]
  simp only
  rw [st_cond]
  simp only
  rw [st_duts]
  simp only
  rw [st_must]
theorem st_met : metR s.st = (metR s).st := rfl
theorem st_rules : ∀ (n : Nat) (l : List Rul) (s : Pz), rulesR n l s.st = ((rulesR n l s).1, (rulesR n l s).2.st)
  | 0, _, _ => rfl
  | n + 1, l, s => by
    unfold rulesR
    rw [st_sees]
    split
    · rfl
    · simp only
      rw [st_met, st_most]
      have e : ∀ x : Pz, x.st.met = x.met := fun _ => rfl
      rw [e, st_most, st_rule]
      simp only
      exact st_rules n _ _
theorem st_kids {po : Pz → Pol × Pz} (hp : ∀ s : Pz, po s.st = ((po s).1, (po s).2.st)) : ∀ (n : Nat) (l : List Pol) (s : Pz), kidsR po n l s.st = ((kidsR po n l s).1, (kidsR po n l s).2.st)
  | 0, _, _ => rfl
  | n + 1, l, s => by
    unfold kidsR
    rw [st_sees]
    split
    · rfl
    · simp only
      rw [st_most, hp]
      simp only
      exact st_kids hp n _ _
theorem st_in {f : Nat} (hp : ∀ s : Pz, polR f s.st = ((polR f s).1, (polR f s).2.st)) (a : Nat) (s : Pz) : inR f a s.st = ((inR f a s).1, (inR f a s).2.1, (inR f a s).2.2.st) := by
  unfold inR
  split
  · rw [st_len, st_kids hp]
  · rw [st_len, st_rules]
theorem st_pol : ∀ (f : Nat) (s : Pz), polR f s.st = ((polR f s).1, (polR f s).2.st)
  | 0, s => rfl
  | f + 1, s => by
    obtain ⟨s0, h0⟩ : ∃ t, mostR (5 - (f : Int)) 4 s = t := ⟨_, rfl⟩
    obtain ⟨a, s1, h1⟩ := pair_eq (mustR [w_policy, w_set] s0)
    obtain ⟨b, s2, h2⟩ := pair_eq (nameR s1)
    obtain ⟨c, s3, h3⟩ := pair_eq (mustR w_algs s2)
    obtain ⟨t, s4, h4⟩ := pair_eq (targetR s3)
    obtain ⟨d, s5, h5⟩ := pair_eq (mustR [m_lb] s4)
    obtain ⟨r, ks, h6⟩ := pair_eq (inR f a s5)
    obtain ⟨k, s6⟩ := ks
    obtain ⟨e, s7, h7⟩ := pair_eq (mustR [m_rb] s6)
    obtain ⟨o, s8, h8⟩ := pair_eq (dutsR s7)
    rw [polR_eq f s h0 h1 h2 h3 h4 h5 h6 h7 h8]
    exact polR_eq f s.st (by rw [st_most, h0]) (by rw [st_must, h1]) (by rw [st_name, h2]) (by rw [st_must, h3]) (by rw [st_target, h4]) (by rw [st_must, h5]) (by rw [st_in (st_pol f), h6]) (by rw [st_must, h7]) (by rw [st_duts, h8])
/-- Tokens that are the same but for their places are read as the same. -/
theorem read_same {a b : List Tk} (h : a.map Tk.z = b.map Tk.z) : (polR 5 ⟨a, 0, 0, 0⟩).1 = (polR 5 ⟨b, 0, 0, 0⟩).1 ∧ (endR (polR 5 ⟨a, 0, 0, 0⟩).2).err = (endR (polR 5 ⟨b, 0, 0, 0⟩).2).err := by
  have ha := st_pol 5 ⟨a, 0, 0, 0⟩
  have hb := st_pol 5 ⟨b, 0, 0, 0⟩
  have e : (⟨a, 0, 0, 0⟩ : Pz).st = (⟨b, 0, 0, 0⟩ : Pz).st := by
    show (⟨a.map Tk.z, 0, 0, 0⟩ : Pz) = ⟨b.map Tk.z, 0, 0, 0⟩
    rw [h]
  rw [e, hb] at ha
  obtain ⟨p, sa, hpa⟩ := pair_eq (polR 5 ⟨a, 0, 0, 0⟩)
  obtain ⟨q, sb, hpb⟩ := pair_eq (polR 5 ⟨b, 0, 0, 0⟩)
  rw [hpa, hpb] at ha ⊢
  simp only [Prod.mk.injEq] at ha
  refine ⟨ha.1.symm, ?_⟩
  have h1 : (endR sa.st).err = (endR sa).err := by rw [st_end]; rfl
  have h2 : (endR sb.st).err = (endR sb).err := by rw [st_end]; rfl
  rw [← h1, ← h2, ha.2]
end
end Go.Proofs.YtjpkemamfccfdaaGreatDoor
/- ParseBlanks, plainly: blanks ahead and behind change nothing. -/
namespace Go.Proofs.YtjpkemamfccfdaaGreatDoor
set_option linter.unusedVariables false

/-- What is read without an error. -/
theorem parseR_fine {s : ByteArray} {p : Pol} {i : Int} (hs : s.size ≤ 4096) (h : parseR s = (p, 0, i)) : ∃ ts, lexB s.data.toList 0 = .ok ts ∧ (polR 5 ⟨ts, 0, 0, 0⟩).1 = p ∧ (endR (polR 5 ⟨ts, 0, 0, 0⟩).2).err = 0 ∧ rightE p = 0 ∧ i = 0 := by
  cases hl : lexB s.data.toList 0 with
  | error q => rw [parseR_bad hs hl] at h; simp at h
  | ok ts =>
    obtain ⟨q, s1, hq⟩ := pair_eq (polR 5 ⟨ts, 0, 0, 0⟩)
    obtain ⟨z, hz⟩ : ∃ z, endR s1 = z := ⟨_, rfl⟩
    rw [parseR_ok hs hl hq hz] at h
    split at h
    · rename_i he
      split at h
      · rename_i hr
        simp only [Prod.mk.injEq] at h
        obtain ⟨rfl, _, hi⟩ := h
        exact ⟨ts, rfl, by rw [hq], by rw [hq, hz]; exact he, hr, hi.symm⟩
      · simp at h
    · rename_i he
      simp only [Prod.mk.injEq] at h
      exact absurd h.2.1 he
theorem parseR_of {s : ByteArray} {ts : List Tk} {p : Pol} (hs : s.size ≤ 4096) (hl : lexB s.data.toList 0 = .ok ts) (hp : (polR 5 ⟨ts, 0, 0, 0⟩).1 = p) (he : (endR (polR 5 ⟨ts, 0, 0, 0⟩).2).err = 0) (hr : rightE p = 0) : parseR s = (p, 0, 0) := by
  obtain ⟨q, s1, hq⟩ := pair_eq (polR 5 ⟨ts, 0, 0, 0⟩)
  obtain ⟨z, hz⟩ : ∃ z, endR s1 = z := ⟨_, rfl⟩
  rw [hq] at hp he
  simp only at hp
  subst hp
  change (endR s1).err = 0 at he
  rw [hz] at he
  rw [parseR_ok hs hl hq hz, if_pos he, if_pos hr]
theorem z_sh (d : Nat) (t : Tk) : (shT d t).z = t.z := rfl
theorem lexB_blanks : ∀ (g : List UInt8) (p : Nat), (∀ c ∈ g, blk c = true) → lexB g p = .ok [⟨7, ((p + g.length : Nat) : Int), 0, ⟨#[]⟩⟩] := by
  intro g p hg
  have := lexB_ahead g [] p hg
  rw [List.append_nil] at this
  rw [this, lexB_nil]
/-- .. and what stands there is the same but for its places. -/
theorem blanks_toks {g a : List UInt8} {ts : List Tk} (hg : ∀ c ∈ g, blk c = true) (h : lexB a 0 = .ok ts) : ∃ us, lexB ((10 :: g) ++ (a ++ (10 :: g))) 0 = .ok us ∧ us.map Tk.z = ts.map Tk.z := by
  have hg' : ∀ c ∈ (10 :: g), blk c = true := by
    intro c hc
    rcases List.mem_cons.1 hc with rfl | hc
    · decide
    · exact hg c hc
  rw [lexB_ahead _ _ _ hg', lexB_from, lexB_join (.inr rfl) h, lexB_blanks g _ hg]
  refine ⟨_, rfl, ?_⟩
  obtain ⟨us, e, _⟩ := lexB_ne _ _ 0 ts (Nat.le_refl _) h
  rw [e]
  simp [Tk.z, shT]
theorem blanks_read {s t : ByteArray} {p : Pol} {i : Int} {g : List UInt8} (hs : s.size ≤ 600) (h : parseR s = (p, 0, i)) (hg : ∀ c ∈ g, blk c = true) (hgl : g.length ≤ 10) (ht : t.data.toList = (10 :: g) ++ (s.data.toList ++ (10 :: g))) : parseR t = (p, 0, 0) := by
  obtain ⟨ts, hl, hp, he, hr, _⟩ := parseR_fine (by omega) h
  obtain ⟨us, hu, hz⟩ := blanks_toks hg hl
  have e := read_same hz
  have hsz : t.size = (10 :: g).length + (s.size + (10 :: g).length) := by
    have : t.size = t.data.toList.length := rfl
    rw [this, ht, List.length_append, List.length_append]
    rfl
  refine parseR_of (by simp only [List.length_cons] at hsz; omega) (by rw [ht]; exact hu) (e.1.trans hp) (e.2.trans he) hr
end Go.Proofs.YtjpkemamfccfdaaGreatDoor
/- The parser, plainly: closed texts are read by reckoning. -/
namespace Go.Proofs.YtjpkemamfccfdaaGreatDoor
set_option linter.unusedVariables false

/-- lexB, by how many steps it may go. -/
def lexF : Nat → List UInt8 → Nat → Except Nat (List Tk)
  | 0, _, _ => .error 0
  | n + 1, [], p => .ok [⟨7, p, 0, ⟨#[]⟩⟩]
  | n + 1, c :: r, p => if blk c = true then lexF n r (p + 1) else
      match tokB (c :: r) with
      | none => .error p
      | some (k, m, s, j) => cat [⟨k, p, m, ⟨s.toArray⟩⟩] (lexF n ((c :: r).drop j) (p + j))
theorem lexF_eq : ∀ (n : Nat) (l : List UInt8) (p : Nat), l.length < n → lexF n l p = lexB l p
  | 0, _, _, h => by omega
  | n + 1, [], p, h => by rw [lexB_nil]; rfl
  | n + 1, c :: r, p, h => by
    simp only [List.length_cons] at h
    unfold lexF
    cases hb : blk c with
    | true => rw [if_pos rfl, lexB_blank hb, lexF_eq n r (p + 1) (by omega)]
    | false =>
      rw [if_neg (by simp)]
      cases hq : tokB (c :: r) with
      | none => rw [lexB_bad hb hq]
      | some q =>
        obtain ⟨k, m, s, j⟩ := q
        have := (tokB_pos hq).1
        rw [lexB_tok hb hq]
        simp only
        rw [lexF_eq n _ (p + j) (by simp only [List.length_drop, List.length_cons]; omega)]
def parseF (n : Nat) (l : List UInt8) : Pol × Int × Int :=
  if 4096 < l.length then (noPol, 6, 4096) else
  match lexF n l 0 with
  | .error p => (noPol, 5, (p : Int))
  | .ok ts =>
    let u := polR 5 ⟨ts, 0, 0, 0⟩
    let z := endR u.2
    if z.err = 0 then (if rightE u.1 = 0 then (u.1, 0, 0) else (noPol, 5, (l.length : Int))) else (noPol, z.err, z.at_)
theorem parseF_eq (s : ByteArray) : parseR s = parseF (s.data.toList.length + 1) s.data.toList := by
  unfold parseR parseF
  rw [lexF_eq _ _ 0 (Nat.lt_succ_self _)]
  rfl
theorem parse_eval {s : ByteArray} {n : Nat} {x : Pol × Int × Int} (h : parseF (n + 1) s.data.toList = x) (hn : s.data.toList.length = n) : parseR s = x := by
  rw [parseF_eq, hn, h]
theorem run_b : parseR ⟨#[112, 111, 108, 105, 99, 121, 32, 112, 32, 111, 110, 108, 121, 32, 123, 32, 125]⟩ = (noPol, 5, 17) := parse_eval (n := 17) (by kernel_rfl) (by kernel_rfl)
end Go.Proofs.YtjpkemamfccfdaaGreatDoor
/- The parser, plainly: texts as rows of tokens, places aside. -/
namespace Go.Proofs.YtjpkemamfccfdaaGreatDoor
set_option linter.unusedVariables false

/-- The tokens of a text, places aside. -/
def Zx (l : List UInt8) (zs : List Tk) : Prop := ∃ ts, lexB l 0 = .ok ts ∧ ts.map Tk.z = zs
def tEnd : Tk := ⟨7, 0, 0, ⟨#[]⟩⟩
def tName (s : ByteArray) : Tk := ⟨1, 0, 0, s⟩
def tMark (c : UInt8) : Tk := ⟨6, 0, 0, ⟨#[c]⟩⟩
theorem Zx.nil : Zx [] [tEnd] := ⟨_, lexB_nil 0, rfl⟩
theorem map_sh (d : Nat) (ts : List Tk) : (ts.map (shT d)).map Tk.z = ts.map Tk.z := by simp [Tk.z, shT]
theorem Zx.at_ {l : List UInt8} {zs : List Tk} (h : Zx l zs) (p : Nat) : ∃ ts, lexB l p = .ok ts ∧ ts.map Tk.z = zs := by
  obtain ⟨ts, h1, h2⟩ := h
  exact ⟨ts.map (shT p), by rw [lexB_from, h1]; rfl, by rw [map_sh, h2]⟩
theorem Zx.blank {c : UInt8} {r : List UInt8} {zs : List Tk} (hc : blk c = true) (h : Zx r zs) : Zx (c :: r) zs := by
  obtain ⟨ts, h1, h2⟩ := h.at_ (0 + 1)
  exact ⟨ts, by rw [lexB_blank hc, h1], h2⟩
theorem Zx.sp {r : List UInt8} {zs : List Tk} (h : Zx r zs) : Zx (32 :: r) zs := h.blank (by decide)
theorem Zx.tok {c : UInt8} {r : List UInt8} {zs : List Tk} {k n : Int} {s : List UInt8} {m : Nat} (hc : blk c = false) (ht : tokB (c :: r) = some (k, n, s, m)) (h : Zx ((c :: r).drop m) zs) : Zx (c :: r) (⟨k, 0, n, ⟨s.toArray⟩⟩ :: zs) := by
  obtain ⟨ts, h1, h2⟩ := h.at_ (0 + m)
  refine ⟨_, by rw [lexB_tok hc ht, h1]; rfl, ?_⟩
  rw [← h2]
  rfl
theorem lett_blk {a : UInt8} (h : lett a = true) : blk a = false := by
  unfold lett at h
  unfold blk
  simp at h ⊢
  omega
theorem take_name {l : List UInt8} (hl : ∀ b ∈ l, inm b = true) {c : UInt8} (hc : inm c = false) (r : List UInt8) : (l ++ c :: r).takeWhile inm = l := by
  induction l with
  | nil => simp [hc]
  | cons a l ih =>
    rw [List.cons_append, List.takeWhile_cons, if_pos (hl a (by simp)), ih (fun b hb => hl b (by simp [hb]))]
theorem Named.inm {l : List UInt8} (h : Named l) : ∀ b ∈ l, inm b = true := by
  intro b hb
  obtain ⟨j, hj, rfl⟩ := List.mem_iff_getElem.1 hb
  have := h.2 j hj
  unfold okAt at this
  unfold Go.Proofs.YtjpkemamfccfdaaGreatDoor.inm
  simp at this ⊢
  rcases this with h | h
  · exact .inl h
  · exact .inr h.2
theorem Zx.name {nm : List UInt8} (hn : Named nm) {c : UInt8} (hc : inm c = false) {r : List UInt8} {zs : List Tk} (h : Zx (c :: r) zs) : Zx (nm ++ c :: r) (tName ⟨nm.toArray⟩ :: zs) := by
  have hi := hn.inm
  have ht := take_name hi hc r
  cases nm with
  | nil => exact absurd hn.1.1 (by simp)
  | cons a l =>
    have ha : lett a = true := by
      have := hn.2 0 (by simp)
      unfold okAt at this
      simpa using this
    refine Zx.tok (k := 1) (n := 0) (s := a :: l) (m := (a :: l).length) (lett_blk ha) ?_ ?_
    · show tokB ((a :: l) ++ c :: r) = _
      rw [List.cons_append, tokB, if_pos ha, ← List.cons_append, ht, if_pos hn]
    · show Zx (((a :: l) ++ c :: r).drop (a :: l).length) zs
      rw [List.drop_left]
      exact h
theorem Zx.mark {c : UInt8} (hb : blk c = false) (ht : ∀ r, tokB (c :: r) = some (6, 0, [c], 1)) {r : List UInt8} {zs : List Tk} (h : Zx r zs) : Zx (c :: r) (tMark c :: zs) :=
  Zx.tok (k := 6) (n := 0) (s := [c]) (m := 1) hb (ht r) h
theorem markT (c : UInt8) (h : lett c = false ∧ dgt c = false ∧ c ≠ 45 ∧ c ≠ 64 ∧ c ≠ 35 ∧ c ≠ 34 ∧ mrk c = true) : ∀ r, tokB (c :: r) = some (6, 0, [c], 1) := by
  intro r
  obtain ⟨h1, h2, h3, h4, h5, h6, h7⟩ := h
  rw [tokB, if_neg (by rw [h1]; simp), if_neg (by rw [h2]; simp), if_neg h3, if_neg h4, if_neg h5, if_neg h6, if_pos h7]
theorem Zx.m123 {r : List UInt8} {zs : List Tk} (h : Zx r zs) : Zx (123 :: r) (tMark 123 :: zs) := h.mark (by decide) (markT _ (by decide))
theorem Zx.m125 {r : List UInt8} {zs : List Tk} (h : Zx r zs) : Zx (125 :: r) (tMark 125 :: zs) := h.mark (by decide) (markT _ (by decide))
theorem Zx.m40 {r : List UInt8} {zs : List Tk} (h : Zx r zs) : Zx (40 :: r) (tMark 40 :: zs) := h.mark (by decide) (markT _ (by decide))
theorem Zx.m41 {r : List UInt8} {zs : List Tk} (h : Zx r zs) : Zx (41 :: r) (tMark 41 :: zs) := h.mark (by decide) (markT _ (by decide))
theorem Zx.m46 {r : List UInt8} {zs : List Tk} (h : Zx r zs) : Zx (46 :: r) (tMark 46 :: zs) := h.mark (by decide) (markT _ (by decide))
theorem Zx.m44 {r : List UInt8} {zs : List Tk} (h : Zx r zs) : Zx (44 :: r) (tMark 44 :: zs) := h.mark (by decide) (markT _ (by decide))
theorem Zx.m59 {r : List UInt8} {zs : List Tk} (h : Zx r zs) : Zx (59 :: r) (tMark 59 :: zs) := h.mark (by decide) (markT _ (by decide))
theorem Zx.m61 {r : List UInt8} {zs : List Tk} (h : Zx r zs) : Zx (61 :: r) (tMark 61 :: zs) := h.mark (by decide) (markT _ (by decide))
theorem Zx.m60 {r : List UInt8} {zs : List Tk} (h : Zx r zs) : Zx (60 :: r) (tMark 60 :: zs) := h.mark (by decide) (markT _ (by decide))
theorem Zx.m62 {r : List UInt8} {zs : List Tk} (h : Zx r zs) : Zx (62 :: r) (tMark 62 :: zs) := h.mark (by decide) (markT _ (by decide))
theorem Zx.m33 {r : List UInt8} {zs : List Tk} (h : Zx r zs) : Zx (33 :: r) (tMark 33 :: zs) := h.mark (by decide) (markT _ (by decide))
/-- What is read, of a text whose tokens are known. -/
theorem Zx.read {s : ByteArray} {zs : List Tk} {p : Pol} {z : Pz} (hs : s.size ≤ 4096) (h : Zx s.data.toList zs) (hp : polR 5 ⟨zs, 0, 0, 0⟩ = (p, z)) (he : (endR z).err = 0) (hr : rightE p = 0) : parseR s = (p, 0, 0) := by
  obtain ⟨ts, h1, h2⟩ := h
  have hz : zs.map Tk.z = zs := by rw [← h2, List.map_map]; rfl
  have e := read_same (h2.trans hz.symm)
  rw [hp] at e
  exact parseR_of hs h1 e.1 (e.2.trans he) hr
end Go.Proofs.YtjpkemamfccfdaaGreatDoor
/- Digits, plainly. -/
namespace Go.Proofs.YtjpkemamfccfdaaGreatDoor
set_option linter.unusedVariables false

def AllD (l : List UInt8) : Prop := ∀ c ∈ l, dgt c = true
theorem numD_app (l : List UInt8) (c : UInt8) : numD (l ++ [c]) = 10 * numD l + (c.toNat - 48) := by unfold numD; rw [List.foldl_append]; rfl
theorem numD_mono (l m : List UInt8) : numD l ≤ numD (l ++ m) := by
  induction m generalizing l with
  | nil => simp
  | cons c m ih =>
    have h1 := ih (l ++ [c])
    have h2 := numD_app l c
    rw [List.append_assoc] at h1
    simp only [List.cons_append, List.nil_append] at h1
    omega
end Go.Proofs.YtjpkemamfccfdaaGreatDoor
/- The texts of values, plainly: which text a right value has; two have the same just if they are the same. -/
namespace Go.Proofs.YtjpkemamfccfdaaGreatDoor
set_option linter.unusedVariables false

/-! ### Texts -/
def valD (l : List UInt8) : Nat := l.foldl (fun a c => 10 * a + (c.toNat - 48)) 0
theorem valD_dec (u : Nat) : valD (Lib.decDigits u) = u := by
  induction u using Nat.strongRecOn with
  | _ u ih =>
    rw [Lib.decDigits]
    split
    · rename_i h
      have := ofNat_toNat (show 48 + u < 256 by omega)
      simp only [valD, List.foldl_cons, List.foldl_nil, this]; omega
    · rename_i h
      have := ofNat_toNat (show 48 + u % 10 < 256 by omega)
      have ih := ih (u / 10) (by omega)
      unfold valD at *
      rw [List.foldl_append, ih]
      simp only [List.foldl_cons, List.foldl_nil, this]; omega
theorem dec_head (u : Nat) : ∃ c r, Lib.decDigits u = c :: r ∧ 48 ≤ c.toNat ∧ c.toNat ≤ 57 := by
  induction u using Nat.strongRecOn with
  | _ u ih =>
    rw [Lib.decDigits]
    split
    · rename_i h
      exact ⟨_, _, rfl, by rw [ofNat_toNat (by omega)]; omega, by rw [ofNat_toNat (by omega)]; omega⟩
    · rename_i h
      obtain ⟨c, r, e, h1⟩ := ih (u / 10) (by omega)
      exact ⟨c, r ++ [_], by rw [e]; rfl, h1⟩
theorem itoa_head (n : Int) : ∃ c r, Lib.itoa n = c :: r ∧ (c.toNat = 45 ∨ 48 ≤ c.toNat ∧ c.toNat ≤ 57) := by
  unfold Lib.itoa
  split
  · exact ⟨45, _, rfl, .inl rfl⟩
  · obtain ⟨c, r, e, h⟩ := dec_head n.toNat
    exact ⟨c, r, e, .inr h⟩
theorem itoa_inj {m n : Int} (h : Lib.itoa m = Lib.itoa n) : m = n := by
  unfold Lib.itoa at h
  have key : ∀ a b : Nat, Lib.decDigits a = Lib.decDigits b → a = b := fun a b e => by rw [← valD_dec a, ← valD_dec b, e]
  have hd : ∀ (u : Nat) (r : List UInt8), 45 :: r ≠ Lib.decDigits u := fun u r e => by
    obtain ⟨c, r', e2, h1, _⟩ := dec_head u
    rw [e2] at e
    injection e with e _
    subst e
    have : (45 : UInt8).toNat = 45 := rfl
    omega
  split at h
  · split at h
    · injection h with _ h
      have := key _ _ h
      omega
    · exact absurd h (hd _ _)
  · split at h
    · exact absurd h.symm (hd _ _)
    · have := key _ _ h
      omega

theorem hexd_inj : ∀ x y : Fin 16, hexd x.val = hexd y.val → x = y := by decide
theorem quoteC_inj {c d : UInt8} {x y : List UInt8} (h : quoteC c ++ x = quoteC d ++ y) : c = d ∧ x = y := by
  have plain : ∀ e : UInt8, odd8 e = false → e ≠ 92 := fun e he hh => by subst hh; revert he; decide
  unfold quoteC at h
  cases hc : odd8 c <;> cases hd : odd8 d <;> simp only [hc, hd, if_true, Bool.false_eq_true, if_false, List.cons_append, List.nil_append] at h
  · injection h with h1 h2; exact ⟨h1, h2⟩
  · injection h with h1 _; exact absurd h1 (plain c hc)
  · injection h with h1 _; exact absurd h1.symm (plain d hd)
  · injection h with _ h
    injection h with h1 h
    injection h with h2 h3
    have l1 := c.toNat_lt
    have l2 := d.toNat_lt
    have e1 := hexd_inj ⟨c.toNat / 16, by omega⟩ ⟨d.toNat / 16, by omega⟩ h1
    have e2 := hexd_inj ⟨c.toNat % 16, by omega⟩ ⟨d.toNat % 16, by omega⟩ h2
    injection e1 with e1
    injection e2 with e2
    exact ⟨UInt8.toNat_inj.1 (by omega), h3⟩
theorem quoteC_ne (c : UInt8) (x : List UInt8) : ∃ d r, quoteC c ++ x = d :: r ∧ (d = 34 → False) := by
  unfold quoteC
  cases hc : odd8 c
  · refine ⟨c, x, rfl, fun e => ?_⟩
    subst e; revert hc; decide
  · exact ⟨92, _, rfl, by decide⟩
theorem quoteL_inj : ∀ (l m : List UInt8), quoteL l ++ [34] = quoteL m ++ [34] → l = m
  | [], [], _ => rfl
  | [], d :: m, h => by
    obtain ⟨e, r, h1, h2⟩ := quoteC_ne d (quoteL m ++ [34])
    simp only [quoteL, List.nil_append, List.append_assoc] at h
    rw [h1] at h
    injection h with h _
    exact (h2 h.symm).elim
  | c :: l, [], h => by
    obtain ⟨e, r, h1, h2⟩ := quoteC_ne c (quoteL l ++ [34])
    simp only [quoteL, List.nil_append, List.append_assoc] at h
    rw [h1] at h
    injection h with h _
    exact (h2 h).elim
  | c :: l, d :: m, h => by
    simp only [quoteL, List.append_assoc] at h
    obtain ⟨rfl, h2⟩ := quoteC_inj h
    rw [quoteL_inj l m h2]
theorem quoteB_inj {l m : List UInt8} (h : quoteB l = quoteB m) : l = m := by
  unfold quoteB at h
  simp only [List.cons_append, List.nil_append] at h
  injection h with _ h
  exact quoteL_inj _ _ h

/-- A right value's text, by its kind. -/
theorem show_cases {v : Vl} (h : v.right) : (v.k = 1 ∧ v.l = [] ∧ (v.n = 0 ∧ showB v = [102, 97, 108, 115, 101] ∨ v.n = 1 ∧ showB v = [116, 114, 117, 101])) ∨ (v.k = 2 ∧ v.l = [] ∧ showB v = Lib.itoa v.n) ∨
    (v.k = 3 ∧ v.n = 0 ∧ showB v = quoteB v.l) ∨ (v.k = 4 ∧ v.l = [] ∧ showB v = 64 :: Lib.itoa v.n) ∨ (v.k = 5 ∧ v.n = 0 ∧ showB v = 35 :: v.l) := by
  have hr := h
  unfold Vl.right RightV at h
  unfold showB
  rw [if_pos hr]
  rcases h with ⟨hk, hl, hn⟩ | ⟨hk, hl⟩ | ⟨hk, hn, _⟩ | ⟨hk, hl, _⟩ | ⟨hk, hn, _⟩ <;> rw [hk]
  · refine .inl ⟨rfl, hl, ?_⟩
    rcases hn with hn | hn <;> rw [hn] <;> simp
  · exact .inr (.inl ⟨rfl, hl, by simp⟩)
  · exact .inr (.inr (.inl ⟨rfl, hn, by simp⟩))
  · exact .inr (.inr (.inr (.inl ⟨rfl, hl, by simp⟩)))
  · exact .inr (.inr (.inr (.inr ⟨rfl, hn, by simp⟩)))
theorem show_ne {v : Vl} (h : v.right) : showB v ≠ [] := by
  obtain ⟨c, r, e, _⟩ := itoa_head v.n
  rcases show_cases h with ⟨_, _, ⟨_, h⟩ | ⟨_, h⟩⟩ | ⟨_, _, h⟩ | ⟨_, _, h⟩ | ⟨_, _, h⟩ | ⟨_, _, h⟩ <;> rw [h]
  · simp
  · simp
  · rw [e]; simp
  · simp [quoteB]
  · simp
  · simp
theorem head_ne {c d : UInt8} {r s : List UInt8} (h : c :: r = d :: s) (hne : c.toNat ≠ d.toNat) : False := by
  injection h with h _
  subst h
  exact hne rfl
theorem show_inj {a b : Vl} (ha : a.right) (hb : b.right) (h : showB a = showB b) : a = b := by
  obtain ⟨c, r, ec, hc⟩ := itoa_head a.n
  obtain ⟨d, s, ed, hd⟩ := itoa_head b.n
  have q : ∀ l, quoteB l = 34 :: (quoteL l ++ [34]) := fun _ => rfl
  rcases show_cases ha with ⟨ka, la, ⟨na, h1⟩ | ⟨na, h1⟩⟩ | ⟨ka, la, h1⟩ | ⟨ka, na, h1⟩ | ⟨ka, la, h1⟩ | ⟨ka, na, h1⟩ <;>
  rcases show_cases hb with ⟨kb, lb, ⟨nb, h2⟩ | ⟨nb, h2⟩⟩ | ⟨kb, lb, h2⟩ | ⟨kb, nb, h2⟩ | ⟨kb, lb, h2⟩ | ⟨kb, nb, h2⟩ <;>
  rw [h1, h2] at h
  all_goals first
    | exact Vl.ext' (by omega) (by omega) (by rw [la, lb])
    | exact Vl.ext' (by omega) (itoa_inj h) (by rw [la, lb])
    | exact Vl.ext' (by omega) (by omega) (quoteB_inj h)
    | exact Vl.ext' (by omega) (itoa_inj ((List.cons.inj h).2)) (by rw [la, lb])
    | exact Vl.ext' (by omega) (by omega) ((List.cons.inj h).2)
    | (exfalso; exact head_ne h (by decide))
    | (exfalso; rw [ec] at h; exact head_ne h (by simp; omega))
    | (exfalso; rw [ed] at h; exact head_ne h (by simp; omega))
    | (exfalso; rw [q] at h; exact head_ne h (by decide))
    | (exfalso; rw [ec, q] at h; exact head_ne h (by simp; omega))
    | (exfalso; rw [ed, q] at h; exact head_ne h (by simp; omega))
end Go.Proofs.YtjpkemamfccfdaaGreatDoor
/- A right value's text as a token, plainly. -/
namespace Go.Proofs.YtjpkemamfccfdaaGreatDoor
set_option linter.unusedVariables false

theorem tw_self {p : UInt8 → Bool} {l : List UInt8} (h : ∀ c ∈ l, p c = true) : l.takeWhile p = l := by
  induction l with
  | nil => rfl
  | cons c r ih => rw [List.takeWhile_cons, if_pos (h c (List.mem_cons_self ..)), ih fun d hd => h d (List.mem_cons_of_mem _ hd)]
theorem numD_dec (u : Nat) : numD (Lib.decDigits u) = u := valD_dec u
theorem dec_digs (u : Nat) : AllD (Lib.decDigits u) := by
  induction u using Nat.strongRecOn with
  | _ u ih =>
    intro c hc
    rw [Lib.decDigits] at hc
    split at hc
    · rename_i h
      simp at hc
      subst hc
      have := ofNat_toNat (show 48 + u < 256 by omega)
      unfold dgt
      simp
      omega
    · rename_i h
      rcases List.mem_append.1 hc with hc | hc
      · exact ih (u / 10) (by omega) c hc
      · simp at hc
        subst hc
        have := ofNat_toNat (show 48 + u % 10 < 256 by omega)
        unfold dgt
        simp
        omega
theorem dec_zero (u : Nat) : ∀ r, Lib.decDigits u = 48 :: r → r = [] := by
  induction u using Nat.strongRecOn with
  | _ u ih =>
    intro r hr
    rw [Lib.decDigits] at hr
    split at hr
    · injection hr with _ h; exact h.symm
    · rename_i h
      obtain ⟨c, r', e, _⟩ := dec_head (u / 10)
      rw [e] at hr
      injection hr with h1 h2
      subst h1
      have h0 := ih (u / 10) (by omega) r' e
      subst h0
      have := valD_dec (u / 10)
      rw [e] at this
      simp [valD] at this
      omega
theorem decD_dec {most u : Nat} (h : u ≤ most) : decD most (Lib.decDigits u) = some u := by
  obtain ⟨c, r, e, _⟩ := dec_head u
  unfold decD
  rw [if_neg, numD_dec]
  rintro (h1 | ⟨h1, h2⟩ | h1)
  · rw [e] at h1; cases h1
  · rw [e] at h1 h2
    simp at h1
    subst h1
    exact h2 (by rw [dec_zero u r e])
  · rw [numD_dec] at h1; omega
/-- A number's text is a token. -/
theorem tok_itoa {n : Int} (h1 : -9223372036854775808 ≤ n) (h2 : n ≤ 9223372036854775807) : tokB (Lib.itoa n) = some (2, n, [], (Lib.itoa n).length) := by
  unfold Lib.itoa
  split
  · rename_i hn
    rw [tokB_cons, if_neg (by decide), if_neg (by decide), if_pos rfl, tw_self (dec_digs _), decD_dec (show n.natAbs ≤ 9223372036854775808 by omega), Option.bind_some, if_neg (by omega)]
    simp
    omega
  · rename_i hn
    obtain ⟨c, r, e, h48, h57⟩ := dec_head n.toNat
    have hd := dec_digs n.toNat
    have ht := tw_self hd
    have hv := decD_dec (most := 9223372036854775807) (u := n.toNat) (by omega)
    rw [e] at hd ht hv ⊢
    have hl : lett c = false := by unfold lett; simp; omega
    rw [tokB_cons, if_neg (by rw [hl]; simp), if_pos (hd c (List.mem_cons_self ..)), ht, hv]
    simp
    omega
theorem tok_tick {n : Int} (h1 : 0 ≤ n) (h2 : n ≤ 1099511627776) : tokB (64 :: Lib.itoa n) = some (3, n, [], (Lib.itoa n).length + 1) := by
  unfold Lib.itoa
  rw [if_neg (by omega), tokB_cons, if_neg (by decide), if_neg (by decide), if_neg (by decide), if_pos rfl, tw_self (dec_digs _), decD_dec (show n.toNat ≤ 1099511627776 by omega)]
  simp
  omega
theorem named_inm {l : List UInt8} (h : Named l) : ∀ c ∈ l, inm c = true := by
  intro c hc
  obtain ⟨j, hj, rfl⟩ := List.getElem_of_mem hc
  have := h.2 j hj
  unfold okAt at this
  unfold inm
  cases hl : lett l[j] with
  | true => rfl
  | false => rw [hl] at this; simp at this; simp [this.2]
theorem tok_id {l : List UInt8} (h : Named l) : tokB (35 :: l) = some (4, 0, l, l.length + 1) := by
  rw [tokB_cons, if_neg (by decide), if_neg (by decide), if_neg (by decide), if_neg (by decide), if_pos rfl, tw_self (named_inm h), if_pos h]
theorem hexv_hexd : ∀ x : Fin 16, hexv (hexd x.val) = some x.val := by decide
theorem qt_quote : ∀ (l : List UInt8), qtB (quoteL l ++ [34]) = some (l, (quoteL l).length + 1)
  | [] => by show qtB [34] = _; rw [qtB_end]; rfl
  | c :: r => by
    have ih := qt_quote r
    show qtB (quoteC c ++ quoteL r ++ [34]) = some (c :: r, (quoteC c ++ quoteL r).length + 1)
    unfold quoteC
    cases ho : odd8 c with
    | true =>
      rw [if_pos rfl]
      have hlt := c.toNat_lt
      have e1 := hexv_hexd ⟨c.toNat / 16, by omega⟩
      have e2 := hexv_hexd ⟨c.toNat % 16, by omega⟩
      dsimp only at e1 e2
      have hc : UInt8.ofNat (16 * (c.toNat / 16) + c.toNat % 16) = c := by
        rw [show 16 * (c.toNat / 16) + c.toNat % 16 = c.toNat by omega]
        simp
      have hone : oneB (92 :: hexd (c.toNat / 16) :: hexd (c.toNat % 16) :: (quoteL r ++ [34])) = some (c, 3) := by
        rw [oneB_hex, e1, e2, hexB_some, hc, if_pos ho]
      show qtB (92 :: hexd (c.toNat / 16) :: hexd (c.toNat % 16) :: (quoteL r ++ [34])) = _
      rw [qtB_one (by decide) hone]
      show (qtB (quoteL r ++ [34])).map _ = _
      rw [ih]
      simp
      omega
    | false =>
      rw [if_neg (by simp)]
      have h34 : c ≠ 34 := by rintro rfl; revert ho; decide
      show qtB (c :: (quoteL r ++ [34])) = _
      rw [qtB_one h34 (oneB_plain ho)]
      show (qtB (quoteL r ++ [34])).map _ = _
      rw [ih]
      simp
      omega
theorem tok_text {l : List UInt8} (h : l.length ≤ 64) : tokB (quoteB l) = some (5, 0, l, (quoteB l).length) := by
  show tokB (34 :: (quoteL l ++ [34])) = some (5, 0, l, (34 :: (quoteL l ++ [34])).length)
  rw [tokB_cons, if_neg (by decide), if_neg (by decide), if_neg (by decide), if_neg (by decide), if_neg (by decide), if_pos rfl, qt_quote, Option.bind_some, if_pos h]
  simp
/-- A text that is one token, and nothing else. -/
theorem lex_one {l s : List UInt8} {k n : Int} (h : tokB l = some (k, n, s, l.length)) (hb : ∀ c r, l = c :: r → blk c = false) (p : Nat) : lexB l p = .ok [⟨k, p, n, ⟨s.toArray⟩⟩, ⟨7, ((p + l.length : Nat) : Int), 0, ⟨#[]⟩⟩] := by
  cases l with
  | nil => cases h
  | cons c r =>
    rw [lexB_tok (hb c r rfl) h, List.drop_length, lexB_nil]
    rfl
/-- What a right value's text is as tokens: the kind, the number, the text of the first. -/
theorem lex_show {v : Vl} (h : v.right) (hn : -9223372036854775808 ≤ v.n ∧ v.n ≤ 9223372036854775807) :
    ∃ (k n : Int) (s : List UInt8), lexB (showB v) 0 = .ok [⟨k, 0, n, ⟨s.toArray⟩⟩, ⟨7, (((showB v).length : Nat) : Int), 0, ⟨#[]⟩⟩] ∧
      (v.k = 1 ∧ k = 1 ∧ (v.n = 1 ∧ s = [116, 114, 117, 101] ∨ v.n = 0 ∧ s = [102, 97, 108, 115, 101]) ∨ v.k = 2 ∧ k = 2 ∧ n = v.n ∨ v.k = 3 ∧ k = 5 ∧ s = v.l ∨ v.k = 4 ∧ k = 3 ∧ n = v.n ∨ v.k = 5 ∧ k = 4 ∧ s = v.l) := by
  have hr := h
  unfold Vl.right RightV at hr
  obtain ⟨c0, r0, e0, h0⟩ := itoa_head v.n
  have hbi : ∀ c r, Lib.itoa v.n = c :: r → blk c = false := fun c r e => by
    rw [e0] at e
    injection e with e1 _
    subst e1
    unfold blk
    simp
    omega
  rcases show_cases h with ⟨hk, _, ⟨hn0, hs⟩ | ⟨hn0, hs⟩⟩ | ⟨hk, _, hs⟩ | ⟨hk, _, hs⟩ | ⟨hk, _, hs⟩ | ⟨hk, _, hs⟩
  all_goals rw [hs]
  · refine ⟨1, 0, [102, 97, 108, 115, 101], ?_, .inl ⟨hk, rfl, .inr ⟨hn0, rfl⟩⟩⟩
    have := lex_one (show tokB [102, 97, 108, 115, 101] = some (1, 0, [102, 97, 108, 115, 101], ([102, 97, 108, 115, 101] : List UInt8).length) by decide +kernel) (fun c r e => by injection e with e1 _; subst e1; decide) 0
    rwa [Nat.zero_add] at this
  · refine ⟨1, 0, [116, 114, 117, 101], ?_, .inl ⟨hk, rfl, .inl ⟨hn0, rfl⟩⟩⟩
    have := lex_one (show tokB [116, 114, 117, 101] = some (1, 0, [116, 114, 117, 101], ([116, 114, 117, 101] : List UInt8).length) by decide +kernel) (fun c r e => by injection e with e1 _; subst e1; decide) 0
    rwa [Nat.zero_add] at this
  · refine ⟨2, v.n, [], ?_, .inr (.inl ⟨hk, rfl, rfl⟩)⟩
    have := lex_one (tok_itoa hn.1 hn.2) hbi 0
    rwa [Nat.zero_add] at this
  · refine ⟨5, 0, v.l, ?_, .inr (.inr (.inl ⟨hk, rfl, rfl⟩))⟩
    have hl : v.l.length ≤ 64 := by rcases hr with h | h | h | h | h <;> omega
    have := lex_one (tok_text hl) (fun c r e => by injection e with e1 _; subst e1; decide) 0
    rwa [Nat.zero_add] at this
  · refine ⟨3, v.n, [], ?_, .inr (.inr (.inr (.inl ⟨hk, rfl, rfl⟩)))⟩
    have hb : 0 ≤ v.n ∧ v.n ≤ 1099511627776 := by rcases hr with h | h | h | h | h <;> omega
    have := lex_one (l := 64 :: Lib.itoa v.n) (tok_tick hb.1 hb.2) (fun c r e => by injection e with e1 _; subst e1; decide) 0
    rwa [Nat.zero_add] at this
  · refine ⟨4, 0, v.l, ?_, .inr (.inr (.inr (.inr ⟨hk, rfl, rfl⟩)))⟩
    have hnm : Named v.l := by rcases hr with h | h | h | h | h <;> first | exact h.2.2 | omega
    have := lex_one (l := 35 :: v.l) (tok_id hnm) (fun c r e => by injection e with e1 _; subst e1; decide) 0
    rwa [Nat.zero_add] at this
end Go.Proofs.YtjpkemamfccfdaaGreatDoor
/- Policies as text, plainly: the tokens of such a text. -/
namespace Go.Proofs.YtjpkemamfccfdaaGreatDoor
set_option linter.unusedVariables false

/-- What stands behind ends a name, and a number. -/
def Stp (r : List UInt8) : Prop := ∀ c r', r = c :: r' → inm c = false
theorem Stp.nil : Stp [] := fun c r' h => by cases h
theorem Stp.cons {c : UInt8} {r : List UInt8} (h : inm c = false) : Stp (c :: r) := fun d r' e => by injection e with e _; exact e ▸ h
theorem dgt_inm {c : UInt8} (h : inm c = false) : dgt c = false := by
  unfold inm later at h
  unfold dgt
  simp at h ⊢
  omega
theorem Stp.name {nm r : List UInt8} {zs : List Tk} (hn : Named nm) (hs : Stp r) (h : Zx r zs) : Zx (nm ++ r) (tName ⟨nm.toArray⟩ :: zs) := by
  cases r with
  | cons c r => exact Zx.name hn (hs c r rfl) h
  | nil =>
    rw [List.append_nil]
    have ht := tw_self (named_inm hn)
    cases nm with
    | nil => exact absurd hn.1.1 (by simp)
    | cons a l =>
      have ha : lett a = true := by
        have := hn.2 0 (by simp)
        unfold okAt at this
        simpa using this
      refine Zx.tok (k := 1) (n := 0) (s := a :: l) (m := (a :: l).length) (lett_blk ha) ?_ ?_
      · rw [tokB, if_pos ha, ht, if_pos hn]
      · rw [List.drop_length]
        exact h
/-- A text is these tokens, wherever it stands. -/
def One (t : List UInt8) (z : List Tk) : Prop := ∀ r zs, Stp r → Zx r zs → Zx (t ++ r) (z ++ zs)
theorem one_name {nm : List UInt8} (hn : Named nm) : One nm [tName ⟨nm.toArray⟩] := fun _ _ hs h => hs.name hn h
theorem One.sp {a b : List UInt8} {x y : List Tk} (ha : One a x) (hb : One b y) : One (a ++ 32 :: b) (x ++ y) := fun r zs hs h => by
  rw [List.append_assoc, List.append_assoc]
  exact ha _ _ (Stp.cons (by decide)) (Zx.sp (hb r zs hs h))
/-- A mark behind. -/
theorem One.behind {a : List UInt8} {x : List Tk} {c : UInt8} {t : Tk} (ha : One a x) (hc : inm c = false) (hm : ∀ {r : List UInt8} {zs : List Tk}, Zx r zs → Zx (c :: r) (t :: zs)) : One (a ++ [c]) (x ++ [t]) := fun r zs hs h => by
  rw [List.append_assoc, List.append_assoc]
  exact ha _ _ (Stp.cons hc) (hm h)
/-- A mark ahead. -/
theorem One.ahead {a : List UInt8} {x : List Tk} {c : UInt8} {t : Tk} (ha : One a x) (hm : ∀ {r : List UInt8} {zs : List Tk}, Zx r zs → Zx (c :: r) (t :: zs)) : One (c :: a) (t :: x) := fun r zs hs h => hm (ha r zs hs h)
theorem one_mark {c : UInt8} {t : Tk} (hm : ∀ {r : List UInt8} {zs : List Tk}, Zx r zs → Zx (c :: r) (t :: zs)) : One [c] [t] := fun r zs hs h => hm h

def vZ (v : Vl) : Tk :=
  if v.k = 1 then tName (if v.n = 1 then w_true else w_false) else if v.k = 2 then ⟨2, 0, v.n, ⟨#[]⟩⟩ else if v.k = 3 then ⟨5, 0, 0, v.s⟩ else if v.k = 4 then ⟨3, 0, v.n, ⟨#[]⟩⟩ else ⟨4, 0, 0, v.s⟩
theorem one_tok {l s : List UInt8} {k n : Int} (hb : ∃ c r, l = c :: r ∧ blk c = false) (h : tokB l = some (k, n, s, l.length)) : One l [⟨k, 0, n, ⟨s.toArray⟩⟩] := fun r zs hs hz => by
  obtain ⟨c, l', rfl, hc⟩ := hb
  show Zx (c :: (l' ++ r)) (_ :: zs)
  have hd : ((c :: (l' ++ r)).drop (c :: l').length) = r := by
    rw [← List.cons_append, List.drop_left]
  cases r with
  | nil =>
    refine Zx.tok hc (by rw [List.append_nil]; exact h) ?_
    rw [hd]; exact hz
  | cons x y =>
    have hx := hs x y rfl
    refine Zx.tok hc (by rw [← List.cons_append]; exact tokB_app hx (dgt_inm hx) _ _ h) ?_
    rw [hd]; exact hz
theorem mk_bl (v : Vl) : (⟨v.l.toArray⟩ : ByteArray) = v.s := by
  obtain ⟨k, n, ⟨⟨l⟩⟩⟩ := v
  rfl
theorem one_val {v : Vl} (h : v.right) (hn : InI v.n) : One (showB v) [vZ v] := by
  obtain ⟨c0, r0, e0, h0⟩ := itoa_head v.n
  have hbi : ∃ c r, Lib.itoa v.n = c :: r ∧ blk c = false := ⟨c0, r0, e0, by unfold blk; simp; omega⟩
  have hr := h
  unfold Vl.right RightV at hr
  rcases show_cases h with ⟨hk, hl, ⟨hn0, hs⟩ | ⟨hn0, hs⟩⟩ | ⟨hk, hl, hs⟩ | ⟨hk, hn0, hs⟩ | ⟨hk, hl, hs⟩ | ⟨hk, hn0, hs⟩ <;> rw [hs]
  · rw [show vZ v = tName w_false by unfold vZ; rw [if_pos hk, if_neg (by omega)]]
    exact one_name (nm := [102, 97, 108, 115, 101]) (by decide)
  · rw [show vZ v = tName w_true by unfold vZ; rw [if_pos hk, if_pos hn0]]
    exact one_name (nm := [116, 114, 117, 101]) (by decide)
  · rw [show vZ v = ⟨2, 0, v.n, ⟨#[]⟩⟩ by unfold vZ; rw [if_neg (by omega), if_pos hk]]
    exact one_tok hbi (tok_itoa hn.1 hn.2)
  · rw [show vZ v = ⟨5, 0, 0, ⟨v.l.toArray⟩⟩ by unfold vZ; rw [if_neg (by omega), if_neg (by omega), if_pos hk, mk_bl]]
    exact one_tok ⟨34, _, rfl, by decide⟩ (tok_text (by omega))
  · rw [show vZ v = ⟨3, 0, v.n, ⟨#[]⟩⟩ by unfold vZ; rw [if_neg (by omega), if_neg (by omega), if_neg (by omega), if_pos hk]]
    refine one_tok ⟨64, _, rfl, by decide⟩ ?_
    rw [tok_tick (by omega) (by omega)]; rfl
  · rw [show vZ v = ⟨4, 0, 0, ⟨v.l.toArray⟩⟩ by unfold vZ; rw [if_neg (by omega), if_neg (by omega), if_neg (by omega), if_neg (by omega), mk_bl]]
    refine one_tok ⟨35, _, rfl, by decide⟩ ?_
    have hnm : Named v.l := by
      rcases hr with ⟨a, _⟩ | ⟨a, _⟩ | ⟨a, _⟩ | ⟨a, _⟩ | ⟨_, _, b⟩
      · omega
      · omega
      · omega
      · omega
      · exact b
    rw [tok_id hnm]; rfl

def wTk (l : List UInt8) : Tk := tName ⟨l.toArray⟩
theorem catW_named (n : Int) : Named (catW n) := by
  unfold catW
  repeat' split
  all_goals decide
theorem algW_named (n : Int) : Named (algW n) := by
  unfold algW
  repeat' split
  all_goals decide
theorem fnW_named (n : Int) : Named (fnW n) := by
  unfold fnW
  repeat' split
  all_goals decide
theorem doW_named (n : Int) : Named (doW n) := by
  unfold doW
  repeat' split
  all_goals decide
theorem effW_named (b : Bool) : Named (effW b) := by cases b <;> decide
theorem headW_named (p : Pol) : Named (headW p) := by
  unfold headW
  split <;> decide
def bangZ (b : Bool) : List Tk := if b = true then [tMark 33] else []
def restZ (a : Atr) : List Tk := tMark 46 :: tName a.name :: bangZ a.must
def attrZ (a : Atr) : List Tk := wTk (catW a.cat) :: restZ a
theorem attrB_all {a : Atr} (h : attrB a = true) : (a.cat = 1 ∨ a.cat = 2 ∨ a.cat = 3 ∨ a.cat = 4) ∧ Named (bl a.name) := by
  unfold attrB at h
  simp only [Bool.and_eq_true, decide_eq_true_eq] at h
  exact ⟨by omega, h.2⟩
theorem bl_toArray (s : ByteArray) : (⟨(bl s).toArray⟩ : ByteArray) = s := by
  obtain ⟨⟨l⟩⟩ := s
  rfl
theorem one_id {s : ByteArray} (h : Named (bl s)) : One (bl s) [tName s] := by
  have := one_name h
  rwa [bl_toArray] at this
theorem one_attr {a : Atr} (h : attrB a = true) : One (attrT a) (attrZ a) := fun r zs hs hz => by
  obtain ⟨_, hn⟩ := attrB_all h
  have e : attrT a ++ r = catW a.cat ++ 46 :: (bl a.name ++ ((if a.must = true then [33] else []) ++ r)) := by simp [attrT]
  rw [e]
  refine (Stp.cons (by decide)).name (catW_named _) (Zx.m46 ?_)
  have := one_id hn
  refine this _ (bangZ a.must ++ zs) ?_ ?_
  · cases a.must
    · exact hs
    · exact Stp.cons (by decide)
  · cases a.must
    · exact hz
    · exact Zx.m33 hz
theorem one_attrS {a : Atr} (h : attrB a = true) : One (attrS a) (attrZ a) := by
  unfold attrS
  rw [if_pos h]
  exact one_attr h
def cmpZ (op : Int) : Tk := tMark (if op = 1 then 61 else if op = 2 then 60 else 62)
def matZ (m : Mat) : List Tk := attrZ m.a ++ [cmpZ m.op, vZ m.v]
theorem one_cmp (n : Int) : One (cmpW n) [cmpZ n] := by
  unfold cmpW cmpZ
  split
  · exact one_mark Zx.m61
  · split
    · exact one_mark Zx.m60
    · exact one_mark Zx.m62
theorem one_mat {m : Mat} (h : matE m = 0) (hok : m.ok) : One (matT m) (matZ m) := by
  unfold matE at h
  split at h
  · rename_i hh
    exact (one_attrS hh.1).sp ((one_cmp m.op).sp (one_val hh.2.2.2 hok.2.2.2.1))
  · cases h

/-- A row of things with a mark or a word between. -/
def tailZ {α : Type} (Z : α → List Tk) (b : Tk) : List α → List Tk
  | [] => []
  | x :: l => b :: (Z x ++ tailZ Z b l)
def rowZ {α : Type} (Z : α → List Tk) (b : Tk) : List α → List Tk
  | [] => []
  | x :: l => Z x ++ tailZ Z b l
theorem one_tail {α : Type} {T : α → List UInt8} {Z : α → List Tk} {sep : List UInt8} {b : Tk} (hsep : ∀ {r : List UInt8} {zs : List Tk}, Zx r zs → Zx (sep ++ r) (b :: zs)) (hst : ∀ r, Stp (sep ++ r)) :
    ∀ (l : List α), (∀ x ∈ l, One (T x) (Z x)) → ∀ r zs, Stp r → Zx r zs → Zx (Lib.joinTail sep (l.map T) ++ r) (tailZ Z b l ++ zs) ∧ Stp (Lib.joinTail sep (l.map T) ++ r)
  | [], _, r, zs, hs, hz => ⟨hz, hs⟩
  | x :: l, h, r, zs, hs, hz => by
    obtain ⟨i1, i2⟩ := one_tail hsep hst l (fun y hy => h y (by simp [hy])) r zs hs hz
    have e : Lib.joinTail sep ((x :: l).map T) ++ r = sep ++ (T x ++ (Lib.joinTail sep (l.map T) ++ r)) := by simp [Lib.joinTail]
    rw [e]
    have e2 : tailZ Z b (x :: l) ++ zs = b :: (Z x ++ (tailZ Z b l ++ zs)) := by simp [tailZ]
    rw [e2]
    exact ⟨hsep (h x (by simp) _ _ i2 i1), hst _⟩
theorem one_row {α : Type} {T : α → List UInt8} {Z : α → List Tk} {sep : List UInt8} {b : Tk} (hsep : ∀ {r : List UInt8} {zs : List Tk}, Zx r zs → Zx (sep ++ r) (b :: zs)) (hst : ∀ r, Stp (sep ++ r)) {l : List α} (h : ∀ x ∈ l, One (T x) (Z x)) :
    One (Lib.join (l.map T) sep) (rowZ Z b l) := fun r zs hs hz => by
  cases l with
  | nil => exact hz
  | cons x l =>
    obtain ⟨i1, i2⟩ := one_tail hsep hst l (fun y hy => h y (by simp [hy])) r zs hs hz
    rw [List.map_cons, Lib.join_cons, List.append_assoc]
    show Zx _ ((Z x ++ tailZ Z b l) ++ zs)
    rw [List.append_assoc]
    exact h x (by simp) _ _ i2 i1
def allZ (l : List Mat) : List Tk := rowZ matZ (tMark 44) l
def anyZ (l : List (List Mat)) : List Tk := tMark 40 :: (rowZ allZ (tName w_or) l ++ [tMark 41])
def tgZ (t : Tgt) : List Tk := if t = [] then [] else tName w_when :: rowZ anyZ (tName w_and) t
theorem first_all {α : Type} {f : α → Int} : ∀ {l : List α}, firstE f l = 0 → ∀ x ∈ l, f x = 0
  | [], _, x, hx => by cases hx
  | y :: l, h, x, hx => by
    simp only [firstE] at h
    split at h
    · rename_i h0; exact absurd h h0
    · rename_i h0
      rcases List.mem_cons.1 hx with rfl | hx
      · simpa using h0
      · exact first_all h x hx
theorem allE_all {l : List Mat} (h : allE l = 0) : (1 ≤ l.length ∧ l.length ≤ 8) ∧ ∀ x ∈ l, matE x = 0 := by
  unfold allE at h
  split at h
  · rename_i h0; exact absurd h h0
  · rename_i h0
    refine ⟨?_, first_all h⟩
    unfold partsE at h0
    split at h0
    · simp at h0
    · split at h0
      · simp at h0
      · omega
theorem anyE_all {l : List (List Mat)} (h : anyE l = 0) : (1 ≤ l.length ∧ l.length ≤ 8) ∧ ∀ x ∈ l, allE x = 0 := by
  unfold anyE at h
  split at h
  · rename_i h0; exact absurd h h0
  · rename_i h0
    refine ⟨?_, first_all h⟩
    unfold partsE at h0
    split at h0
    · simp at h0
    · split at h0
      · simp at h0
      · omega
theorem tgE_all {t : Tgt} (h : tgE t = 0) : t.length ≤ 8 ∧ ∀ x ∈ t, anyE x = 0 := by
  unfold tgE at h
  split at h
  · cases h
  · exact ⟨by omega, first_all h⟩
def Tgt.oks (t : Tgt) : Prop := ∀ a ∈ t, ∀ l ∈ a, ∀ m ∈ l, m.ok
theorem one_all {l : List Mat} (h : allE l = 0) (hok : ∀ m ∈ l, m.ok) : One (allT l) (allZ l) :=
  one_row (sep := [44, 32]) (fun h => Zx.m44 (Zx.sp h)) (fun r => Stp.cons (by decide)) fun x hx => one_mat ((allE_all h).2 x hx) (hok x hx)
theorem sep_name {nm : List UInt8} (hn : Named nm) {r : List UInt8} {zs : List Tk} (h : Zx r zs) : Zx ((32 :: (nm ++ [32])) ++ r) (tName ⟨nm.toArray⟩ :: zs) := by
  show Zx (32 :: ((nm ++ [32]) ++ r)) _
  rw [List.append_assoc]
  exact Zx.sp ((Stp.cons (by decide)).name hn (Zx.sp h))
theorem one_anyZ {l : List (List Mat)} (h : anyE l = 0) (hok : ∀ a ∈ l, ∀ m ∈ a, m.ok) : One (anyT l) (anyZ l) :=
  ((one_row (sep := [32, 111, 114, 32]) (b := tName w_or) (fun h => sep_name (nm := [111, 114]) (by decide) h) (fun r => Stp.cons (by decide)) fun x hx => one_all ((anyE_all h).2 x hx) (hok x hx)).behind (by decide) Zx.m41).ahead Zx.m40
theorem one_tg {t : Tgt} (h : tgE t = 0) (hok : Tgt.oks t) : One (tgT t) (rowZ anyZ (tName w_and) t) :=
  one_row (sep := [32, 97, 110, 100, 32]) (b := tName w_and) (fun h => sep_name (nm := [97, 110, 100]) (by decide) h) (fun r => Stp.cons (by decide)) fun x hx => one_anyZ ((tgE_all h).2 x hx) (hok x hx)

/-- Words with one blank between. -/
inductive Wz : List (List UInt8) → List Tk → Prop
  | nil : Wz [] []
  | cons {t : List UInt8} {z : List Tk} {ts : List (List UInt8)} {zs : List Tk} : One t z → Wz ts zs → Wz (t :: ts) (z ++ zs)
theorem Wz.app {a b : List (List UInt8)} {x y : List Tk} (ha : Wz a x) (hb : Wz b y) : Wz (a ++ b) (x ++ y) := by
  induction ha with
  | nil => exact hb
  | cons h _ ih => rw [List.append_assoc]; exact .cons h ih
theorem Wz.one {t : List UInt8} {z : List Tk} (h : One t z) : Wz [t] z := by
  have := Wz.cons h .nil
  rwa [List.append_nil] at this
theorem Wz.map {α : Type} {T : α → List UInt8} {Z : α → List Tk} : ∀ {l : List α}, (∀ x ∈ l, One (T x) (Z x)) → Wz (l.map T) (l.flatMap Z)
  | [], _ => .nil
  | x :: l, h => by
    rw [List.map_cons, List.flatMap_cons]
    exact .cons (h x (by simp)) (Wz.map fun y hy => h y (by simp [hy]))
theorem Wz.flat {α : Type} {T : α → List (List UInt8)} {Z : α → List Tk} : ∀ {l : List α}, (∀ x ∈ l, Wz (T x) (Z x)) → Wz (l.map T).flatten (l.flatMap Z)
  | [], _ => .nil
  | x :: l, h => by
    rw [List.map_cons, List.flatMap_cons, List.flatten_cons]
    exact (h x (by simp)).app (Wz.flat fun y hy => h y (by simp [hy]))
theorem Wz.tail {ws : List (List UInt8)} {z : List Tk} (h : Wz ws z) : ∀ r zs, Stp r → Zx r zs → Zx (Lib.joinTail [32] ws ++ r) (z ++ zs) ∧ Stp (Lib.joinTail [32] ws ++ r) := by
  induction h with
  | nil => exact fun r zs hs hz => ⟨hz, hs⟩
  | @cons t z ts zs' h _ ih =>
    intro r zs hs hz
    obtain ⟨i1, i2⟩ := ih r zs hs hz
    have e : Lib.joinTail [32] (t :: ts) ++ r = 32 :: (t ++ (Lib.joinTail [32] ts ++ r)) := by simp [Lib.joinTail]
    rw [e, List.append_assoc]
    exact ⟨Zx.sp (h _ _ i2 i1), Stp.cons (by decide)⟩
theorem Wz.join {ws : List (List UInt8)} {z : List Tk} (h : Wz ws z) : One (Lib.join ws [32]) z := by
  cases h with
  | nil => exact fun r zs hs hz => hz
  | cons h1 h2 =>
    intro r zs hs hz
    obtain ⟨i1, i2⟩ := h2.tail r zs hs hz
    rw [Lib.join_cons, List.append_assoc, List.append_assoc]
    exact h1 _ _ i2 i1
theorem wz_tg {t : Tgt} (h : tgE t = 0) (hok : Tgt.oks t) : Wz (tgW t) (tgZ t) := by
  unfold tgW tgZ
  split
  · exact .nil
  · exact .cons (z := [tName w_when]) (one_name (nm := [119, 104, 101, 110]) (by decide)) (.one (one_tg h hok))
def dutZ (o : Dut) : List Tk := [tName w_on, wTk (effW (decide (o.on = 2))), wTk (doW o.kind), tName o.arg]
theorem dutE_all {o : Dut} (h : dutE o = 0) : (o.on = 1 ∨ o.on = 2) ∧ (o.kind = 1 ∨ o.kind = 2 ∨ o.kind = 3 ∨ o.kind = 4) ∧ Named (bl o.arg) := by
  unfold dutE at h
  split at h
  · rename_i hh; exact ⟨hh.1, by omega, hh.2.2.2⟩
  · cases h
theorem one_dut {o : Dut} (h : dutE o = 0) : One (dutT o) (dutZ o) := by
  have hn := (dutE_all h).2.2
  have : One ([111, 110] ++ 32 :: (effW (decide (o.on = 2)) ++ 32 :: (doW o.kind ++ 32 :: bl o.arg))) _ := (one_name (nm := [111, 110]) (by decide)).sp ((one_name (effW_named _)).sp ((one_name (doW_named o.kind)).sp (one_id hn)))
  exact this
theorem obE_all {l : List Dut} (h : obE l = 0) : l.length ≤ 8 ∧ ∀ x ∈ l, dutE x = 0 := by
  unfold obE at h
  split at h
  · cases h
  · exact ⟨by omega, first_all h⟩
theorem wz_ob {l : List Dut} (h : obE l = 0) : Wz (l.map dutT) (l.flatMap dutZ) := .map fun x hx => one_dut ((obE_all h).2 x hx)
end Go.Proofs.YtjpkemamfccfdaaGreatDoor
/- Policies as text, plainly: what is read of such tokens. -/
namespace Go.Proofs.YtjpkemamfccfdaaGreatDoor
set_option linter.unusedVariables false

/-- A state without errors and places. -/
abbrev St (zs : List Tk) (m : Nat) : Pz := ⟨zs, m, 0, 0⟩
/-- None of these words stands ahead. -/
def Nx (ws : List ByteArray) (zs : List Tk) : Prop := seesR ws (St zs 0) = 0
theorem Nx.at_ {ws : List ByteArray} {zs : List Tk} (h : Nx ws zs) (m : Nat) : seesR ws (St zs m) = 0 := h
theorem take_no {ws : List ByteArray} {zs : List Tk} (h : Nx ws zs) (m : Nat) : takeR ws (St zs m) = (0, St zs m) := by
  unfold takeR
  rw [if_pos (h.at_ m)]
theorem take_yes {ws : List ByteArray} {t : Tk} {i : Nat} (h : seesR ws (St [t] 0) = i) (hi : i ≠ 0) (zs : List Tk) (m : Nat) : takeR ws (St (t :: zs) m) = (i, St zs m) := by
  have e : seesR ws (St (t :: zs) m) = i := h
  unfold takeR
  rw [if_neg (by rw [e]; exact hi), e]
  rfl
theorem must_yes {ws : List ByteArray} {t : Tk} {i : Nat} (h : seesR ws (St [t] 0) = i) (hi : i ≠ 0) (zs : List Tk) (m : Nat) : mustR ws (St (t :: zs) m) = (i, St zs m) := by
  have e : seesR ws (St (t :: zs) m) = i := h
  unfold mustR
  rw [if_neg (by rw [e]; exact hi), e]
  rfl
theorem nx_of {ws : List ByteArray} {t : Tk} (h : seesR ws (St [t] 0) = 0) (zs : List Tk) : Nx ws (t :: zs) := h
theorem name_read (s : ByteArray) (zs : List Tk) (m : Nat) : nameR (St (tName s :: zs) m) = (s, St zs m) := rfl

theorem cat_read {n : Int} (h : n = 1 ∨ n = 2 ∨ n = 3 ∨ n = 4) (zs : List Tk) (m : Nat) : catR (St (wTk (catW n) :: zs) m) = (n.toNat, St zs m) := by
  unfold catR
  rcases h with rfl | rfl | rfl | rfl <;> exact take_yes (by decide +kernel) (by decide) zs m
theorem attr_read {a : Atr} (h : a.cat ≠ 0) {zs : List Tk} (hb : Nx [m_bang] zs) (m : Nat) : attrR a.cat (St (restZ a ++ zs) m) = (a, St zs m) := by
  obtain ⟨c, nm, must⟩ := a
  have e : restZ ⟨c, nm, must⟩ ++ zs = tMark 46 :: tName nm :: (bangZ must ++ zs) := rfl
  rw [e]
  unfold attrR
  simp only
  rw [if_neg h, must_yes (i := 1) (by decide +kernel) (by decide)]
  simp only
  rw [name_read]
  simp only
  cases must with
  | true =>
    have : bangZ true ++ zs = tMark 33 :: zs := rfl
    rw [this, take_yes (i := 1) (by decide +kernel) (by decide)]
    rfl
  | false =>
    have : bangZ false ++ zs = zs := rfl
    rw [this, take_no hb]
    rfl
theorem val_read {v : Vl} (h : v.right) (zs : List Tk) (m : Nat) : valueR (St (vZ v :: zs) m) = (v, St zs m) := by
  have fin : ∀ (k : Int) (t : Tk), kindR t.k = k → k ≠ 1 → valueR (St (t :: zs) m) = (⟨k, t.n, t.s⟩, St zs m) := by
    intro k t hk h1
    unfold valueR
    have e : (St (t :: zs) m).hd = t := rfl
    rw [e, hk, if_neg h1]
    rfl
  rcases show_cases h with ⟨hk, hl, ⟨hn0, hs⟩ | ⟨hn0, hs⟩⟩ | ⟨hk, hl, hs⟩ | ⟨hk, hn0, hs⟩ | ⟨hk, hl, hs⟩ | ⟨hk, hn0, hs⟩
  · rw [show vZ v = tName w_false by unfold vZ; rw [if_pos hk, if_neg (by omega)]]
    unfold valueR
    have e : (St (tName w_false :: zs) m).hd = tName w_false := rfl
    rw [e, if_pos (by decide), must_yes (i := 1) (by decide +kernel) (by decide)]
    exact Prod.ext (Vl.ext' hk.symm (by rw [hn0]; rfl) (by rw [hl]; rfl)) rfl
  · rw [show vZ v = tName w_true by unfold vZ; rw [if_pos hk, if_pos hn0]]
    unfold valueR
    have e : (St (tName w_true :: zs) m).hd = tName w_true := rfl
    rw [e, if_pos (by decide), must_yes (i := 2) (by decide +kernel) (by decide)]
    exact Prod.ext (Vl.ext' hk.symm (by rw [hn0]; rfl) (by rw [hl]; rfl)) rfl
  · rw [show vZ v = ⟨2, 0, v.n, ⟨#[]⟩⟩ by unfold vZ; rw [if_neg (by omega), if_pos hk], fin 2 _ (show kindR 2 = 2 by decide) (by decide)]
    exact Prod.ext (Vl.ext' hk.symm rfl (by rw [hl]; rfl)) rfl
  · rw [show vZ v = ⟨5, 0, 0, v.s⟩ by unfold vZ; rw [if_neg (by omega), if_neg (by omega), if_pos hk], fin 3 _ (show kindR 5 = 3 by decide) (by decide)]
    exact Prod.ext (Vl.ext' hk.symm hn0.symm rfl) rfl
  · rw [show vZ v = ⟨3, 0, v.n, ⟨#[]⟩⟩ by unfold vZ; rw [if_neg (by omega), if_neg (by omega), if_neg (by omega), if_pos hk], fin 4 _ (show kindR 3 = 4 by decide) (by decide)]
    exact Prod.ext (Vl.ext' hk.symm rfl (by rw [hl]; rfl)) rfl
  · rw [show vZ v = ⟨4, 0, 0, v.s⟩ by unfold vZ; rw [if_neg (by omega), if_neg (by omega), if_neg (by omega), if_neg (by omega)], fin 5 _ (show kindR 4 = 5 by decide) (by decide)]
    exact Prod.ext (Vl.ext' hk.symm hn0.symm rfl) rfl
theorem matE_all {x : Mat} (h : matE x = 0) : attrB x.a = true ∧ (x.op = 1 ∨ x.op = 2 ∨ x.op = 3) ∧ x.v.right := by
  unfold matE at h
  split at h
  · rename_i hh; exact ⟨hh.1, by omega, hh.2.2.2⟩
  · cases h
theorem toNat_cat {n : Int} (h : n = 1 ∨ n = 2 ∨ n = 3 ∨ n = 4) : ((n.toNat : Nat) : Int) = n := by omega
theorem match_read {x : Mat} (h : matE x = 0) (zs : List Tk) (m : Nat) : matchR (St (matZ x ++ zs) m) = (x, St zs m) := by
  obtain ⟨ha, ho, hv⟩ := matE_all h
  obtain ⟨hc, _⟩ := attrB_all ha
  have e : matZ x ++ zs = wTk (catW x.a.cat) :: (restZ x.a ++ cmpZ x.op :: vZ x.v :: zs) := by simp [matZ, attrZ]
  rw [e]
  unfold matchR
  simp only
  rw [cat_read hc]
  simp only
  rw [toNat_cat hc, attr_read (by omega) (by rcases ho with h | h | h <;> (rw [h]; exact nx_of (by decide +kernel) _))]
  simp only
  rw [must_yes (t := cmpZ x.op) (i := x.op.toNat) (by rcases ho with h | h | h <;> (rw [h]; decide +kernel)) (by omega)]
  simp only
  rw [val_read hv]
  have e2 : ((x.op.toNat : Nat) : Int) = x.op := by omega
  rw [e2]

/-- A row is read as it stands. -/
theorem tail_len {α : Type} (Z : α → List Tk) (b : Tk) : ∀ l : List α, l.length ≤ (tailZ Z b l).length
  | [] => Nat.zero_le _
  | x :: l => by
    have := tail_len Z b l
    simp only [tailZ, List.length_cons, List.length_append]
    omega
theorem most_no {n l : Int} (h : ¬ l < n) (s : Pz) : mostR n l s = s := by
  unfold mostR
  rw [if_neg h]
theorem row_read {α : Type} {one : Pz → α × Pz} {btw : ByteArray} {Z : α → List Tk} {b : Tk} (hb : seesR [btw] (St [b] 0) = 1) (Q : List Tk → Prop) (hQ : ∀ zs, Q (b :: zs)) :
    ∀ (l : List α) (x : α) (n : Nat) (acc : List α) (zs : List Tk) (m : Nat), (∀ y ∈ x :: l, ∀ zs m, Q zs → one (St (Z y ++ zs) m) = (y, St zs m)) → acc.length + (x :: l).length ≤ 8 → (x :: l).length ≤ n → Q zs → Nx [btw] zs →
      rowR one btw n acc (St (Z x ++ (tailZ Z b l ++ zs)) m) = (acc ++ x :: l, St zs m)
  | [], x, 0, _, _, _, _, _, hn, _, _ => by simp at hn
  | [], x, n + 1, acc, zs, m, h, hlen, _, hz, hx => by
    unfold rowR
    simp only
    rw [show tailZ Z b [] ++ zs = zs from rfl, h x (by simp) zs m hz]
    simp only
    rw [most_no (by simp at hlen ⊢; omega), take_no hx]
    rfl
  | y :: l, x, 0, _, _, _, _, _, hn, _, _ => by simp at hn
  | y :: l, x, n + 1, acc, zs, m, h, hlen, hn, hz, hx => by
    have e : tailZ Z b (y :: l) ++ zs = b :: (Z y ++ (tailZ Z b l ++ zs)) := by simp [tailZ]
    unfold rowR
    simp only
    rw [e, h x (by simp) _ m (hQ _)]
    simp only
    rw [most_no (by simp at hlen ⊢; omega), take_yes hb (by decide)]
    simp only
    rw [if_neg (by decide), row_read hb Q hQ l y n (acc ++ [x]) zs m (fun z hz => h z (by simp [hz])) (by simp at hlen ⊢; omega) (by simp at hn ⊢; omega) hz hx, List.append_assoc]
    rfl
theorem row_all {α : Type} {one : Pz → α × Pz} {btw : ByteArray} {Z : α → List Tk} {b : Tk} (hb : seesR [btw] (St [b] 0) = 1) (Q : List Tk → Prop) (hQ : ∀ zs, Q (b :: zs))
    {l : List α} (h1 : 1 ≤ l.length) (h8 : l.length ≤ 8) (h : ∀ y ∈ l, ∀ zs m, Q zs → one (St (Z y ++ zs) m) = (y, St zs m)) (hz1 : ∀ y ∈ l, 1 ≤ (Z y).length) {zs : List Tk} (hz : Q zs) (hx : Nx [btw] zs) (m : Nat) :
    rowR one btw (rowZ Z b l ++ zs).length [] (St (rowZ Z b l ++ zs) m) = (l, St zs m) := by
  cases l with
  | nil => simp at h1
  | cons x l =>
    have e : rowZ Z b (x :: l) ++ zs = Z x ++ (tailZ Z b l ++ zs) := by simp [rowZ]
    have hl : (x :: l).length ≤ (rowZ Z b (x :: l) ++ zs).length := by
      have := tail_len Z b l
      have := hz1 x (by simp)
      rw [e]
      simp only [List.length_append, List.length_cons]
      omega
    generalize (rowZ Z b (x :: l) ++ zs).length = n at *
    rw [e]
    exact row_read hb Q hQ l x n [] zs m h (by simpa using h8) hl hz hx
theorem matZ_len (x : Mat) : 1 ≤ (matZ x).length := by simp [matZ, attrZ]
theorem all_read {l : List Mat} (h : allE l = 0) {zs : List Tk} (hz : Nx [m_comma] zs) (m : Nat) : allOfR (St (allZ l ++ zs) m) = (l, St zs m) :=
  row_all (by decide +kernel) (fun _ => True) (fun _ => trivial) (allE_all h).1.1 (allE_all h).1.2 (fun y hy zs m _ => match_read ((allE_all h).2 y hy) zs m) (fun y _ => matZ_len y) trivial hz m
theorem allZ_len {l : List Mat} (h : 1 ≤ l.length) : 1 ≤ (allZ l).length := by
  cases l with
  | nil => simp at h
  | cons x l =>
    have := matZ_len x
    simp only [allZ, rowZ, List.length_append]
    omega
theorem any_read {l : List (List Mat)} (h : anyE l = 0) (zs : List Tk) (m : Nat) : anyOfR (St (anyZ l ++ zs) m) = (l, St zs m) := by
  obtain ⟨⟨h1, h8⟩, hl⟩ := anyE_all h
  have e : anyZ l ++ zs = tMark 40 :: (rowZ allZ (tName w_or) l ++ tMark 41 :: zs) := by simp [anyZ]
  rw [e]
  unfold anyOfR
  simp only
  rw [must_yes (i := 1) (by decide +kernel) (by decide)]
  simp only
  rw [row_all (by decide +kernel) (Nx [m_comma]) (fun zs => nx_of (by decide +kernel) zs) h1 h8 (fun y hy zs m hz => all_read (hl y hy) hz m) (fun y hy => allZ_len (allE_all (hl y hy)).1.1) (nx_of (by decide +kernel) _) (nx_of (by decide +kernel) _) m]
  simp only
  rw [must_yes (i := 1) (by decide +kernel) (by decide)]
theorem anyZ_len (l : List (List Mat)) : 1 ≤ (anyZ l).length := by simp [anyZ]
theorem target_read {t : Tgt} (h : tgE t = 0) {zs : List Tk} (h1 : Nx [w_when] zs) (h2 : Nx [w_and] zs) (m : Nat) : targetR (St (tgZ t ++ zs) m) = (t, St zs m) := by
  obtain ⟨h8, hl⟩ := tgE_all h
  unfold tgZ targetR
  split
  · rename_i h0
    rw [h0, List.nil_append, take_no h1]
    rfl
  · rename_i h0
    rw [List.cons_append, take_yes (i := 1) (by decide +kernel) (by decide)]
    simp only
    rw [if_neg (by decide)]
    exact row_all (by decide +kernel) (fun _ => True) (fun _ => trivial) (List.length_pos_iff.2 h0) h8 (fun y hy zs m _ => any_read (hl y hy) zs m) (fun y _ => anyZ_len y) trivial h2 m
theorem duts_read : ∀ (l : List Dut) (n : Nat) (acc : List Dut) (zs : List Tk) (m : Nat), (∀ o ∈ l, dutE o = 0) → acc.length + l.length ≤ 8 → l.length < n → Nx [w_on] zs → dutiesR n acc (St (l.flatMap dutZ ++ zs) m) = (acc ++ l, St zs m)
  | [], 0, _, _, _, _, _, hn, _ => by simp at hn
  | [], n + 1, acc, zs, m, _, _, _, hx => by
    unfold dutiesR
    rw [show List.flatMap dutZ [] ++ zs = zs from rfl, take_no hx]
    simp
  | o :: l, 0, _, _, _, _, _, hn, _ => by simp at hn
  | o :: l, n + 1, acc, zs, m, h, h8, hn, hx => by
    obtain ⟨h1, h2, h3⟩ := dutE_all (h o (by simp))
    have e : (o :: l).flatMap dutZ ++ zs = tName w_on :: wTk (effW (decide (o.on = 2))) :: wTk (doW o.kind) :: tName o.arg :: (l.flatMap dutZ ++ zs) := by simp [dutZ]
    unfold dutiesR
    rw [e, take_yes (i := 1) (by decide +kernel) (by decide)]
    simp only
    rw [if_neg (by decide), must_yes (t := wTk (effW (decide (o.on = 2)))) (i := o.on.toNat) (by rcases h1 with h | h <;> (rw [h]; decide +kernel)) (by omega)]
    simp only
    rw [must_yes (t := wTk (doW o.kind)) (i := o.kind.toNat) (by rcases h2 with h | h | h | h <;> (rw [h]; decide +kernel)) (by omega)]
    simp only
    rw [name_read]
    simp only
    have e1 : ((o.on.toNat : Nat) : Int) = o.on := by omega
    have e2 : ((o.kind.toNat : Nat) : Int) = o.kind := by omega
    rw [e1, e2, most_no (by simp at h8 ⊢; omega), duts_read l n (acc ++ [o]) zs m (fun x hx => h x (by simp [hx])) (by simp at h8 ⊢; omega) (by simp at hn ⊢; omega) hx, List.append_assoc]
    rfl
theorem ob_read {l : List Dut} (h : obE l = 0) {zs : List Tk} (hz : 1 ≤ zs.length) (hx : Nx [w_on] zs) (m : Nat) : dutsR (St (l.flatMap dutZ ++ zs) m) = (l, St zs m) := by
  have hl : ∀ l : List Dut, l.length ≤ (l.flatMap dutZ).length := by
    intro l
    induction l with
    | nil => simp
    | cons o l ih => simp only [List.flatMap_cons, List.length_append, List.length_cons]; have : (dutZ o).length = 4 := rfl; omega
  unfold dutsR
  exact duts_read l _ [] zs m (obE_all h).2 (by simpa using (obE_all h).1) (by have := hl l; simp only [List.length_append]; omega) hx
end Go.Proofs.YtjpkemamfccfdaaGreatDoor
/- Expressions as text, plainly: as trees; their tokens; what is read of them. -/
namespace Go.Proofs.YtjpkemamfccfdaaGreatDoor
set_option linter.unusedVariables false

inductive Xt where
  | leaf (n : Nod)
  | one (n : Nod) (x : Xt)
  | two (n : Nod) (x y : Xt)
def Xt.flat : Xt → List Nod
  | .leaf n => [n]
  | .one n x => x.flat ++ [n]
  | .two n x y => x.flat ++ (y.flat ++ [n])
def Xt.bag : Xt → Bool
  | .leaf n => decide (n.op = 2)
  | _ => false
def twoOp (op : Int) : Prop := op = 6 ∨ op = 7 ∨ op = 8 ∨ op = 9 ∨ op = 10 ∨ op = 12 ∨ op = 13
def Xt.fits : Xt → Prop
  | .leaf n => (n.op = 1 ∨ n.op = 2) ∧ holdsB n = true
  | .one n x => holdsB n = true ∧ ((n.op = 3 ∨ n.op = 4) ∧ x.bag = true ∨ n.op = 11 ∧ x.bag = false) ∧ x.fits
  | .two n x y => holdsB n = true ∧ (n.op = 5 ∧ x.bag = true ∨ twoOp n.op ∧ x.bag = false) ∧ y.bag = false ∧ x.fits ∧ y.fits
def Xt.txt : Xt → List UInt8
  | .leaf n => nodeT n []
  | .one n x => nodeT n [x.txt]
  | .two n x y => nodeT n [x.txt, y.txt]

theorem stepT_app (S P : List (List UInt8)) (n : Nod) (h : P.length = takesN n.op) : stepT (S ++ P) n = S ++ [nodeT n P] := by
  unfold stepT
  have e : (S ++ P).length - takesN n.op = S.length := by rw [List.length_append]; omega
  rw [e, List.take_left, List.drop_left]
/-- The stack, the last one first. -/
def flats (ts : List Xt) : List Nod := (ts.reverse.map Xt.flat).flatten
def txts (ts : List Xt) : List (List UInt8) := ts.reverse.map Xt.txt
theorem flats_cons (x : Xt) (ts : List Xt) : flats (x :: ts) = flats ts ++ x.flat := by simp [flats]
theorem txts_cons (x : Xt) (ts : List Xt) : txts (x :: ts) = txts ts ++ [x.txt] := by simp [txts]
theorem popX_cases {op : Int} {st st' : List Bool} (h : popX op st = some st') :
    (op = 1 ∨ op = 2) ∧ st' = decide (op = 2) :: st ∨ (∃ r, ((op = 3 ∨ op = 4) ∧ st = true :: r ∨ op = 11 ∧ st = false :: r) ∧ st' = false :: r) ∨ (∃ r, (op = 5 ∧ st = false :: true :: r ∨ twoOp op ∧ st = false :: false :: r) ∧ st' = false :: r) := by
  rcases ops_cases op with rfl | rfl | rfl | rfl | rfl | rfl | rfl | rfl | rfl | rfl | rfl | rfl | rfl | hh
  case inr.inr.inr.inr.inr.inr.inr.inr.inr.inr.inr.inr.inr =>
    obtain ⟨h1, h2, h3, h4, h5, h6, h7, h8, h9, h10, h11, h12, h13⟩ := hh
    simp [popX, h1, h2, h3, h4, h5, h6, h7, h8, h9, h10, h11, h12, h13] at h
  all_goals
    rcases st with _ | ⟨_ | _, _ | ⟨_ | _, st⟩⟩ <;> simp [popX] at h <;> subst h <;> simp [twoOp]
theorem run_trees : ∀ (l : List Nod) (st : List Xt) (st' : List Bool), (∀ x ∈ st, x.fits) → runX l (st.map Xt.bag) = some st' →
    ∃ ts : List Xt, (∀ x ∈ ts, x.fits) ∧ ts.map Xt.bag = st' ∧ flats st ++ l = flats ts ∧ l.foldl stepT (txts st) = txts ts
  | [], st, st', hf, h => by
    simp only [runX, Option.some.injEq] at h
    exact ⟨st, hf, h, by simp, rfl⟩
  | n :: l, st, st', hf, h => by
    have key : ∃ st1 : List Xt, (∀ x ∈ st1, x.fits) ∧ stepX n (st.map Xt.bag) = some (st1.map Xt.bag) ∧ flats st ++ [n] = flats st1 ∧ stepT (txts st) n = txts st1 := by
      simp only [runX] at h
      cases hs : stepX n (st.map Xt.bag) with
      | none => rw [hs] at h; cases h
      | some s1 =>
        have hs' := hs
        unfold stepX at hs'
        split at hs'
        · rename_i hh
          rcases popX_cases hs' with ⟨ho, he⟩ | ⟨r, ho, he⟩ | ⟨r, ho, he⟩
          · refine ⟨.leaf n :: st, ?_, ?_, ?_, ?_⟩
            · intro x hx
              rcases List.mem_cons.1 hx with rfl | hx
              · exact ⟨ho, hh⟩
              · exact hf x hx
            · rw [he]; rfl
            · rw [flats_cons]; rfl
            · have := stepT_app (txts st) [] n (by unfold takesN; rw [if_pos ho]; rfl)
              rw [List.append_nil] at this
              rw [txts_cons]
              exact this
          · obtain ⟨x, xs, rfl, hb, hr⟩ : ∃ x xs, st = x :: xs ∧ ((n.op = 3 ∨ n.op = 4) ∧ x.bag = true ∨ n.op = 11 ∧ x.bag = false) ∧ xs.map Xt.bag = r := by
              cases st with
              | nil => rcases ho with ⟨_, ho⟩ | ⟨_, ho⟩ <;> cases ho
              | cons x xs =>
                simp only [List.map_cons, List.cons.injEq] at ho
                rcases ho with ⟨a, b, c⟩ | ⟨a, b, c⟩
                · exact ⟨x, xs, rfl, .inl ⟨a, b⟩, c⟩
                · exact ⟨x, xs, rfl, .inr ⟨a, b⟩, c⟩
            refine ⟨.one n x :: xs, ?_, ?_, ?_, ?_⟩
            · intro y hy
              rcases List.mem_cons.1 hy with rfl | hy
              · exact ⟨hh, hb, hf x (by simp)⟩
              · exact hf y (by simp [hy])
            · rw [he, ← hr]; rfl
            · rw [flats_cons, flats_cons, List.append_assoc]; rfl
            · rw [txts_cons, txts_cons, stepT_app _ [x.txt] n (by unfold takesN; rw [if_neg (by rcases hb with ⟨h, _⟩ | ⟨h, _⟩ <;> omega), if_pos (by rcases hb with ⟨h, _⟩ | ⟨h, _⟩ <;> omega)]; rfl)]
              rfl
          · obtain ⟨x, y, xs, rfl, hb, hy, hr⟩ : ∃ x y xs, st = y :: x :: xs ∧ (n.op = 5 ∧ x.bag = true ∨ twoOp n.op ∧ x.bag = false) ∧ y.bag = false ∧ xs.map Xt.bag = r := by
              rcases st with _ | ⟨y, _ | ⟨x, xs⟩⟩
              · rcases ho with ⟨_, ho⟩ | ⟨_, ho⟩ <;> cases ho
              · rcases ho with ⟨_, ho⟩ | ⟨_, ho⟩ <;> simp at ho
              · simp only [List.map_cons, List.cons.injEq] at ho
                rcases ho with ⟨a, b, c, d⟩ | ⟨a, b, c, d⟩
                · exact ⟨x, y, xs, rfl, .inl ⟨a, c⟩, b, d⟩
                · exact ⟨x, y, xs, rfl, .inr ⟨a, c⟩, b, d⟩
            refine ⟨.two n x y :: xs, ?_, ?_, ?_, ?_⟩
            · intro z hz
              rcases List.mem_cons.1 hz with rfl | hz
              · exact ⟨hh, hb, hy, hf x (by simp), hf y (by simp)⟩
              · exact hf z (by simp [hz])
            · rw [he, ← hr]; rfl
            · rw [flats_cons, flats_cons, flats_cons]
              simp only [List.append_assoc]
              rfl
            · rw [txts_cons, txts_cons, txts_cons, List.append_assoc, stepT_app _ ([x.txt] ++ [y.txt]) n (by unfold takesN; unfold twoOp at hb; rw [if_neg (by rcases hb with ⟨h, _⟩ | ⟨h, _⟩ <;> omega), if_neg (by rcases hb with ⟨h, _⟩ | ⟨h, _⟩ <;> omega)]; rfl)]
              rfl
        · cases hs'
    obtain ⟨st1, f1, b1, l1, t1⟩ := key
    have h2 : runX l (st1.map Xt.bag) = some st' := by
      simp only [runX, b1] at h
      exact h
    obtain ⟨ts, f2, b2, l2, t2⟩ := run_trees l st1 st' f1 h2
    refine ⟨ts, f2, b2, ?_, ?_⟩
    · rw [← l2, ← l1, List.append_assoc]; rfl
    · rw [List.foldl_cons, t1, t2]
/-- A right expression is a tree. -/
theorem expr_tree {l : List Nod} (h : exprE l = 0) (hn : l ≠ []) : ∃ t : Xt, t.fits ∧ t.bag = false ∧ l = t.flat ∧ exprT l = t.txt ∧ l.length ≤ 32 := by
  have h32 : l.length ≤ 32 ∧ runX l [] = some [false] := by
    unfold exprE at h
    split at h
    · cases h
    · rename_i h32
      refine ⟨by omega, ?_⟩
      cases hr : runX l [] with
      | none => rw [hr] at h; cases h
      | some st =>
        rw [hr] at h
        simp only at h
        split at h
        · rename_i hh
          rcases hh with hh | hh
          · exact absurd hh hn
          · rw [hh]
        · cases h
  obtain ⟨ts, hf, hb, hl, ht⟩ := run_trees l [] [false] (fun x hx => by cases hx) h32.2
  rcases ts with _ | ⟨t, _ | ⟨u, ts⟩⟩
  · cases hb
  · simp only [List.map_cons, List.map_nil, List.cons.injEq, and_true] at hb
    refine ⟨t, hf t (by simp), hb, ?_, ?_, h32.1⟩
    · have : l = flats [t] := hl
      rw [this]
      simp [flats]
    · unfold exprT stackT
      have : l.foldl stepT [] = txts [t] := ht
      rw [this]
      rfl
  · simp at hb

def Xt.toks : Xt → List Tk
  | .leaf n => if n.op = 1 then [vZ n.v] else attrZ n.a
  | .one n x => tMark 40 :: wTk (fnW n.op) :: (x.toks ++ [tMark 41])
  | .two n x y => tMark 40 :: wTk (fnW n.op) :: ((x.toks ++ y.toks) ++ [tMark 41])
theorem holds_lit {n : Nod} (h : holdsB n = true) (h1 : n.op = 1) : n.v.right ∧ n = ⟨1, n.v, zeroA⟩ := by
  unfold holdsB at h
  rw [if_pos h1, Bool.and_eq_true, decide_eq_true_eq, decide_eq_true_eq] at h
  exact ⟨h.1, Nod.ext' h1 rfl h.2⟩
theorem holds_att {n : Nod} (h : holdsB n = true) (h2 : n.op = 2) : attrB n.a = true ∧ n = ⟨2, zeroV, n.a⟩ := by
  unfold holdsB at h
  rw [if_neg (by omega), if_pos h2, Bool.and_eq_true, decide_eq_true_eq] at h
  exact ⟨h.2, Nod.ext' h2 h.1 rfl⟩
theorem holds_fun {n : Nod} (h : holdsB n = true) (h1 : n.op ≠ 1) (h2 : n.op ≠ 2) : n = ⟨n.op, zeroV, zeroA⟩ := by
  unfold holdsB at h
  rw [if_neg h1, if_neg h2, Bool.and_eq_true, decide_eq_true_eq, decide_eq_true_eq] at h
  exact Nod.ext' rfl h.1 h.2
theorem join_two (a b : List UInt8) : Lib.join [a, b] [32] = a ++ 32 :: b := by
  rw [Lib.join_cons]; simp [Lib.joinTail]
theorem nodeT_fun {n : Nod} (h1 : n.op ≠ 1) (h2 : n.op ≠ 2) (ps : List (List UInt8)) : nodeT n ps = 40 :: (fnW n.op ++ 32 :: (Lib.join ps [32] ++ [41])) := by
  unfold nodeT
  rw [if_neg h1, if_neg h2]
theorem one_op {n : Nod} {b : Bool} (h : (n.op = 3 ∨ n.op = 4) ∧ b = true ∨ n.op = 11 ∧ b = false) : n.op ≠ 1 ∧ n.op ≠ 2 := by omega
theorem two_op {n : Nod} {b : Bool} (h : n.op = 5 ∧ b = true ∨ twoOp n.op ∧ b = false) : n.op ≠ 1 ∧ n.op ≠ 2 := by unfold twoOp at h; omega
theorem one_tree : ∀ {t : Xt}, t.fits → (∀ n ∈ t.flat, n.ok) → One t.txt t.toks
  | .leaf n, hf, hok => by
    obtain ⟨ho, hh⟩ := hf
    simp only [Xt.txt, Xt.toks, nodeT]
    rcases ho with ho | ho
    · rw [if_pos ho, if_pos ho]
      exact one_val (holds_lit hh ho).1 (hok n (by simp [Xt.flat])).2.1.2.1
    · rw [if_neg (by omega), if_pos ho, if_neg (by omega)]
      exact one_attrS (holds_att hh ho).1
  | .one n x, hf, hok => by
    obtain ⟨hh, ho, hx⟩ := hf
    have hn := one_op ho
    have i := one_tree hx (fun k hk => hok k (by simp [Xt.flat, hk]))
    simp only [Xt.txt, Xt.toks]
    rw [nodeT_fun hn.1 hn.2, Lib.join_one]
    exact ((one_name (fnW_named n.op)).sp (i.behind (by decide) Zx.m41)).ahead Zx.m40
  | .two n x y, hf, hok => by
    obtain ⟨hh, ho, hy, fx, fy⟩ := hf
    have hn := two_op ho
    have i := one_tree fx (fun k hk => hok k (by simp [Xt.flat, hk]))
    have j := one_tree fy (fun k hk => hok k (by simp [Xt.flat, hk]))
    simp only [Xt.txt, Xt.toks]
    rw [nodeT_fun hn.1 hn.2, join_two]
    exact ((one_name (fnW_named n.op)).sp ((i.sp j).behind (by decide) Zx.m41)).ahead Zx.m40

/-- No value's token is one of these words. -/
theorem val_no {v : Vl} (h : v.right) {ws : List ByteArray} (hw : seesR ws (St [tName w_true] 0) = 0 ∧ seesR ws (St [tName w_false] 0) = 0) (zs : List Tk) : Nx ws (vZ v :: zs) := by
  have hk := show_cases h
  have other : ∀ (k n : Int) (s : ByteArray), k ≠ 1 → k ≠ 6 → Nx ws (⟨k, 0, n, s⟩ :: zs) := by
    intro k n s h1 h6
    unfold Nx seesR
    have e : (St (⟨k, 0, n, s⟩ :: zs) 0).hd.k = k := rfl
    rw [e, if_neg (by omega)]
  unfold vZ
  split
  · split
    · exact hw.1
    · exact hw.2
  · split
    · exact other 2 _ _ (by decide) (by decide)
    · split
      · exact other 5 _ _ (by decide) (by decide)
      · split
        · exact other 3 _ _ (by decide) (by decide)
        · exact other 4 _ _ (by decide) (by decide)
theorem cat_no {n : Int} (h : n = 1 ∨ n = 2 ∨ n = 3 ∨ n = 4) {ws : List ByteArray} (hw : ∀ c ∈ [w_subject, w_action, w_case, w_env], seesR ws (St [tName c] 0) = 0) (zs : List Tk) : Nx ws (wTk (catW n) :: zs) := by
  rcases h with rfl | rfl | rfl | rfl
  · exact hw w_subject (by simp)
  · exact hw w_action (by simp)
  · exact hw w_case (by simp)
  · exact hw w_env (by simp)
/-- What an expression begins with is none of these words. -/
theorem tree_no {t : Xt} (hf : t.fits) {ws : List ByteArray} (h1 : seesR ws (St [tName w_true] 0) = 0 ∧ seesR ws (St [tName w_false] 0) = 0) (h2 : ∀ c ∈ [w_subject, w_action, w_case, w_env], seesR ws (St [tName c] 0) = 0) (h3 : seesR ws (St [tMark 40] 0) = 0) (zs : List Tk) : Nx ws (t.toks ++ zs) := by
  cases t with
  | leaf n =>
    obtain ⟨ho, hh⟩ := hf
    simp only [Xt.toks]
    rcases ho with ho | ho
    · rw [if_pos ho]; exact val_no (holds_lit hh ho).1 h1 zs
    · rw [if_neg (by omega)]; exact cat_no (attrB_all (holds_att hh ho).1).1 h2 _
  | one n x => exact h3
  | two n x y => exact h3
theorem fn_read {op : Int} (h : 3 ≤ op ∧ op ≤ 13) (zs : List Tk) (m : Nat) : mustR [w_one, w_size, w_has, w_eq, w_less, w_add, w_sub, w_mul, w_not, w_and, w_or] (St (wTk (fnW op) :: zs) m) = ((op - 2).toNat, St zs m) := by
  have : op = 3 ∨ op = 4 ∨ op = 5 ∨ op = 6 ∨ op = 7 ∨ op = 8 ∨ op = 9 ∨ op = 10 ∨ op = 11 ∨ op = 12 ∨ op = 13 := by omega
  rcases this with rfl | rfl | rfl | rfl | rfl | rfl | rfl | rfl | rfl | rfl | rfl <;> exact must_yes (by decide +kernel) (by decide) zs m
theorem nod_read {bag : Bool} {n : Nod} {acc : List Nod} (hb : bag = decide (n.op = 2)) (hl : acc.length < 32) (p : Int) (s : Pz) : nodR bag p acc n s = (acc ++ [n], s) := by
  unfold nodR
  rw [most_no (by simp only [List.length_append, List.length_cons, List.length_nil]; omega)]
  rw [hb]
  simp
theorem expr_read : ∀ {t : Xt}, t.fits → ∀ (n : Nat) (acc : List Nod) (zs : List Tk) (m : Nat), acc.length + t.flat.length ≤ 32 → t.flat.length ≤ n → Nx [m_bang] zs → exprR n acc t.bag (St (t.toks ++ zs) m) = (acc ++ t.flat, St zs m)
  | .leaf k, hf, 0, _, _, _, _, hn, _ => by simp [Xt.flat] at hn
  | .leaf k, hf, n + 1, acc, zs, m, hl, hn, hb => by
    obtain ⟨ho, hh⟩ := hf
    simp only [Xt.flat, List.length_cons, List.length_nil] at hl
    simp only [Xt.toks, Xt.flat, Xt.bag]
    unfold exprR
    rcases ho with ho | ho
    · obtain ⟨hr, he⟩ := holds_lit hh ho
      rw [if_pos ho, List.singleton_append, take_no (val_no hr (by decide +kernel) zs)]
      simp only
      rw [if_neg (by omega)]
      unfold leafR
      have hc : catR (St (vZ k.v :: zs) m) = (0, St (vZ k.v :: zs) m) := take_no (val_no hr (by decide +kernel) zs) m
      rw [hc]
      simp only
      rw [if_neg (by omega), val_read hr, ← he]
      exact nod_read rfl (by omega) _ _
    · obtain ⟨ha, he⟩ := holds_att hh ho
      obtain ⟨hc, _⟩ := attrB_all ha
      rw [if_neg (show ¬ k.op = 1 by omega)]
      have e : attrZ k.a ++ zs = wTk (catW k.a.cat) :: (restZ k.a ++ zs) := rfl
      rw [e, take_no (cat_no hc (by decide +kernel) _)]
      simp only
      rw [if_neg (by omega)]
      unfold leafR
      rw [cat_read hc]
      simp only
      rw [if_pos (by omega), toNat_cat hc, attr_read (by omega) hb, ← he]
      exact nod_read rfl (by omega) _ _
  | .one k x, hf, 0, _, _, _, _, hn, _ => by simp [Xt.flat] at hn
  | .one k x, hf, n + 1, acc, zs, m, hl, hn, hb => by
    obtain ⟨hh, ho, hx⟩ := hf
    have hne := one_op ho
    have he := holds_fun hh hne.1 hne.2
    simp only [Xt.flat, List.length_append, List.length_cons, List.length_nil] at hl hn
    have e : (Xt.one k x).toks ++ zs = tMark 40 :: wTk (fnW k.op) :: (x.toks ++ tMark 41 :: zs) := by simp [Xt.toks]
    have hop : 2 + (((k.op - 2).toNat : Nat) : Int) = k.op := by omega
    have hib : isBag k.op = x.bag := by
      unfold isBag
      rcases ho with ⟨a, b⟩ | ⟨a, b⟩
      · rw [b]; rcases a with a | a <;> rw [a] <;> decide
      · rw [b, a]; decide
    have hit : isTwo k.op = false := by
      unfold isTwo
      rcases ho with ⟨a | a, b⟩ | ⟨a, b⟩ <;> rw [a] <;> decide
    have ih := expr_read hx n acc (tMark 41 :: zs) m (by omega) (by omega) (nx_of (by decide +kernel) _)
    unfold exprR
    rw [e, take_yes (i := 1) (by decide +kernel) (by decide)]
    simp only
    rw [if_pos (by omega)]
    unfold callR
    simp only
    rw [fn_read (by omega)]
    simp only
    rw [hop, hib, hit, ih]
    simp only [Bool.false_eq_true, if_false]
    rw [must_yes (i := 1) (by decide +kernel) (by decide)]
    simp only
    rw [← he, show (Xt.one k x).bag = false from rfl, nod_read (show false = decide (k.op = 2) by rw [decide_eq_false hne.2]) (by simp only [List.length_append]; omega)]
    simp [Xt.flat]
  | .two k x y, hf, 0, _, _, _, _, hn, _ => by simp [Xt.flat] at hn
  | .two k x y, hf, n + 1, acc, zs, m, hl, hn, hb => by
    obtain ⟨hh, ho, hy, fx, fy⟩ := hf
    have hne := two_op ho
    have he := holds_fun hh hne.1 hne.2
    simp only [Xt.flat, List.length_append, List.length_cons, List.length_nil] at hl hn
    have e : (Xt.two k x y).toks ++ zs = tMark 40 :: wTk (fnW k.op) :: (x.toks ++ (y.toks ++ tMark 41 :: zs)) := by simp [Xt.toks]
    have hop : 2 + (((k.op - 2).toNat : Nat) : Int) = k.op := by unfold twoOp at ho; omega
    have hib : isBag k.op = x.bag := by
      unfold isBag
      unfold twoOp at ho
      rcases ho with ⟨a, b⟩ | ⟨a, b⟩
      · rw [b, a]; decide
      · rw [b]; rcases a with a | a | a | a | a | a | a <;> rw [a] <;> decide
    have hit : isTwo k.op = true := by
      unfold isTwo
      unfold twoOp at ho
      rcases ho with ⟨a, b⟩ | ⟨a | a | a | a | a | a | a, b⟩ <;> rw [a] <;> decide
    have ih := expr_read fx n acc (y.toks ++ tMark 41 :: zs) m (by omega) (by omega) (tree_no fy (by decide +kernel) (by decide +kernel) (by decide +kernel) _)
    have jh := expr_read fy n (acc ++ x.flat) (tMark 41 :: zs) m (by simp only [List.length_append]; omega) (by omega) (nx_of (by decide +kernel) _)
    rw [hy] at jh
    unfold exprR
    rw [e, take_yes (i := 1) (by decide +kernel) (by decide)]
    simp only
    rw [if_pos (by omega)]
    unfold callR
    simp only
    rw [fn_read (by unfold twoOp at ho; omega)]
    simp only
    rw [hop, hib, hit, ih]
    simp only [if_true]
    rw [jh]
    simp only
    rw [must_yes (i := 1) (by decide +kernel) (by decide)]
    simp only
    rw [← he, show (Xt.two k x y).bag = false from rfl, nod_read (show false = decide (k.op = 2) by rw [decide_eq_false hne.2]) (by simp only [List.length_append]; omega)]
    simp [Xt.flat]
end Go.Proofs.YtjpkemamfccfdaaGreatDoor
/- Rules and policies as text, plainly: their tokens; what is read of them; a text says which policy it is of. -/
namespace Go.Proofs.YtjpkemamfccfdaaGreatDoor
set_option linter.unusedVariables false

theorem cond_both {l : List Nod} (h : exprE l = 0) (hok : ∀ n ∈ l, n.ok) : ∃ z : List Tk, Wz (condW l) z ∧ (z = [] ∨ ∃ y, z = tName w_if :: y) ∧ ∀ zs m, Nx [w_if] zs → Nx [m_bang] zs → condR (St (z ++ zs) m) = (l, St zs m) := by
  by_cases hn : l = []
  · subst hn
    refine ⟨[], .nil, .inl rfl, fun zs m hi _ => ?_⟩
    unfold condR
    rw [List.nil_append, take_no hi]
    rfl
  · obtain ⟨t, hf, hb, hl, ht, h32⟩ := expr_tree h hn
    have hok' : ∀ n ∈ t.flat, n.ok := by rw [← hl]; exact hok
    have hw : condW l = [[105, 102], t.txt] := by
      unfold condW exprS
      rw [if_neg hn, if_pos ⟨hn, h⟩, ht]
    refine ⟨[tName w_if] ++ t.toks, ?_, .inr ⟨_, rfl⟩, fun zs m hi hb' => ?_⟩
    · rw [hw]
      exact .cons (one_name (nm := [105, 102]) (by decide)) (.one (one_tree hf hok'))
    · unfold condR
      rw [List.append_assoc, List.singleton_append, take_yes (i := 1) (by decide +kernel) (by decide)]
      simp only
      rw [if_neg (by decide)]
      have fl : ∀ t : Xt, t.flat.length ≤ t.toks.length := by
        intro t
        induction t with
        | leaf n => simp only [Xt.flat, Xt.toks]; split <;> simp [attrZ]
        | one n x ih => simp only [Xt.flat, Xt.toks, List.length_append, List.length_cons, List.length_nil]; omega
        | two n x y ih jh => simp only [Xt.flat, Xt.toks, List.length_append, List.length_cons, List.length_nil]; omega
      have := expr_read hf (t.toks ++ zs).length [] zs m (by rw [← hl]; simpa using h32) (by have := fl t; simp only [List.length_append]; omega) hb'
      rw [hb] at this
      have e : (St (t.toks ++ zs) m).rest.length = (t.toks ++ zs).length := rfl
      rw [e, this, ← hl]
      rfl

def Rul.oks (r : Rul) : Prop := Tgt.oks r.tg ∧ ∀ n ∈ r.cond, n.ok
def polOks : Nat → Pol → Prop
  | 0, _ => True
  | d + 1, p => Tgt.oks p.tg ∧ (∀ r ∈ p.rules, r.oks) ∧ ∀ k ∈ p.kids, polOks d k
/-- What is right of a rule by itself. -/
def Rul.fine (r : Rul) : Prop := Named (bl r.id) ∧ tgE r.tg = 0 ∧ exprE r.cond = 0 ∧ obE r.ob = 0
theorem Nx.word {ws : List ByteArray} {t : Tk} (h : seesR ws (St [t] 0) = 0) (zs : List Tk) : Nx ws (t :: zs) := h
theorem ob_no {l : List Dut} {zs : List Tk} {ws : List ByteArray} (h : seesR ws (St [tName w_on] 0) = 0) (hz : Nx ws zs) : Nx ws (l.flatMap dutZ ++ zs) := by
  cases l with
  | nil => exact hz
  | cons o l => exact h
theorem rule_both {r : Rul} (hf : r.fine) (hok : r.oks) : ∃ z : List Tk, One (rulT r) z ∧ (∀ zs m, ruleR (St (z ++ zs) m) = (r, St zs m)) ∧ (∀ zs, seesR [w_permit, w_deny] (St (z ++ zs) 0) ≠ 0) ∧ 1 ≤ z.length := by
  obtain ⟨hn, ht, hc, ho⟩ := hf
  obtain ⟨zc, wc, hzc, rc⟩ := cond_both hc hok.2
  have hw : Wz (rulW r) ([wTk (effW r.deny)] ++ ([tName r.id] ++ ((tgZ r.tg ++ zc) ++ r.ob.flatMap dutZ))) :=
    .cons (one_name (effW_named _)) (.cons (one_id hn) (((wz_tg ht hok.1).app wc).app (wz_ob ho)))
  refine ⟨_, hw.join.behind (c := 59) (by decide) Zx.m59, fun zs m => ?_, fun zs => ?_, by simp⟩
  · have e : (([wTk (effW r.deny)] ++ ([tName r.id] ++ ((tgZ r.tg ++ zc) ++ r.ob.flatMap dutZ))) ++ [tMark 59]) ++ zs = wTk (effW r.deny) :: tName r.id :: (tgZ r.tg ++ (zc ++ (r.ob.flatMap dutZ ++ tMark 59 :: zs))) := by simp
    have k1 : ∀ ws : List ByteArray, seesR ws (St [tName w_on] 0) = 0 → seesR ws (St [tMark 59] 0) = 0 → Nx ws (r.ob.flatMap dutZ ++ tMark 59 :: zs) := fun ws a b => ob_no a (Nx.word b _)
    have k3 : ∀ ws : List ByteArray, seesR ws (St [tName w_if] 0) = 0 → seesR ws (St [tName w_on] 0) = 0 → seesR ws (St [tMark 59] 0) = 0 → Nx ws (zc ++ (r.ob.flatMap dutZ ++ tMark 59 :: zs)) := by
      intro ws a b c
      rcases hzc with rfl | ⟨y, rfl⟩
      · exact k1 ws b c
      · exact a
    rw [e]
    unfold ruleR
    simp only
    rw [must_yes (t := wTk (effW r.deny)) (i := if r.deny = true then 2 else 1) (by cases r.deny <;> decide +kernel) (by split <;> decide)]
    simp only
    rw [name_read]
    simp only
    rw [target_read ht (k3 _ (by decide +kernel) (by decide +kernel) (by decide +kernel)) (k3 _ (by decide +kernel) (by decide +kernel) (by decide +kernel))]
    simp only
    rw [rc _ m (k1 _ (by decide +kernel) (by decide +kernel)) (k1 _ (by decide +kernel) (by decide +kernel))]
    simp only
    rw [ob_read ho (by simp) (Nx.word (by decide +kernel) _)]
    simp only
    rw [must_yes (i := 1) (by decide +kernel) (by decide)]
    obtain ⟨i, d, t, c, o⟩ := r
    cases d <;> rfl
  · show seesR _ (St (wTk (effW r.deny) :: _) 0) ≠ 0
    have : ∀ zs : List Tk, seesR [w_permit, w_deny] (St (wTk (effW r.deny) :: zs) 0) = if r.deny = true then 2 else 1 := by
      intro zs
      cases r.deny
      · show seesR _ (St [wTk (effW false)] 0) = _
        decide +kernel
      · show seesR _ (St [wTk (effW true)] 0) = _
        decide +kernel
    rw [this]
    split <;> decide
theorem rule_fine {r : Rul} {s s' : Seen} (h : ruleS r s = (0, s')) : r.fine ∧ s'.n = s.n + 1 ∧ s'.n ≤ 64 := by
  refine ⟨?_, rule_n h⟩
  unfold ruleS at h
  cases hi : idS r.id s with
  | none => rw [hi] at h; simp at h
  | some s1 =>
    rw [hi] at h
    simp only at h
    split at h
    · simp at h
    · simp only [Prod.mk.injEq] at h
      have h0 := h.1
      unfold orE at h0
      have hid : Named (bl r.id) := by
        unfold idS at hi
        split at hi
        · rename_i hh; exact hh.1
        · cases hi
      by_cases h1 : tgE r.tg = 0
      · by_cases h2 : exprE r.cond = 0
        · exact ⟨hid, h1, h2, by simpa [h1, h2] using h0⟩
        · exact absurd h0 (by simp [h1, h2])
      · exact absurd h0 (by simp [h1])
theorem first_cons {α : Type} {f : α → Seen → Int × Seen} {x : α} {l : List α} {s s' : Seen} (h : firstS f (x :: l) s = (0, s')) : ∃ s1, f x s = (0, s1) ∧ firstS f l s1 = (0, s') := by
  simp only [firstS] at h
  split at h
  · rename_i h0; rw [h] at h0; exact absurd rfl h0
  · rename_i h0
    have h0 : (f x s).1 = 0 := by simpa using h0
    exact ⟨(f x s).2, by rw [← h0], h⟩
theorem rules_both : ∀ {l : List Rul} {s s' : Seen}, firstS ruleS l s = (0, s') → (∀ r ∈ l, r.oks) → s.n ≤ 64 → s'.n = s.n + l.length ∧ s'.n ≤ 64 ∧
    ∃ z : List Tk, Wz (l.map rulT) z ∧ l.length ≤ z.length ∧ ∀ n acc zs, acc.length + l.length ≤ 16 → l.length < n → Nx [w_permit, w_deny] zs → rulesR n acc (St (z ++ zs) s.n) = (acc ++ l, St zs s'.n)
  | [], s, s', h, _, hs => by
    simp [firstS] at h
    subst h
    refine ⟨rfl, hs, [], .nil, Nat.le_refl _, fun n acc zs _ hn hx => ?_⟩
    cases n with
    | zero => simp at hn
    | succ n =>
      unfold rulesR
      rw [List.nil_append, if_pos (hx.at_ _), List.append_nil]
  | r :: l, s, s', h, hok, hs => by
    obtain ⟨s1, h1, h2⟩ := first_cons h
    obtain ⟨hf, hn1, h64⟩ := rule_fine h1
    obtain ⟨z1, o1, r1, e1, l1⟩ := rule_both hf (hok r (by simp))
    obtain ⟨q1, q2, z2, w2, l2, r2⟩ := rules_both h2 (fun x hx => hok x (by simp [hx])) h64
    refine ⟨by simp only [List.length_cons]; omega, q2, z1 ++ z2, ?_, by simp only [List.length_cons, List.length_append]; omega, fun n acc zs hl hn hx => ?_⟩
    · exact .cons o1 w2
    · cases n with
      | zero => simp at hn
      | succ n =>
        simp only [List.length_cons] at hl hn
        unfold rulesR
        rw [List.append_assoc, if_neg (show ¬ seesR [w_permit, w_deny] (St (z1 ++ (z2 ++ zs)) s.n) = 0 from e1 _)]
        simp only
        rw [most_no (n := (acc.length : Int) + 1) (l := 16) (by omega)]
        have em : metR (St (z1 ++ (z2 ++ zs)) s.n) = St (z1 ++ (z2 ++ zs)) s1.n := by rw [hn1]; rfl
        rw [em, most_no (by show ¬ (64 : Int) < (s1.n : Int); omega), r1]
        simp only
        rw [r2 n (acc ++ [r]) zs (by simp only [List.length_append, List.length_cons, List.length_nil]; omega) (by omega) hx, List.append_assoc]
        rfl
/-- What a right policy is of. -/
theorem pol_parts {d : Nat} {p : Pol} {s s' : Seen} (h : polS (d + 1) p s = (0, s')) : Named (bl p.id) ∧ fitsB p = true ∧ tgE p.tg = 0 ∧ obE p.ob = 0 ∧ (p.rules.length ≤ 16 ∧ p.kids.length ≤ 16) ∧
    ∃ s1 s2, s1.n = s.n ∧ firstS ruleS p.rules s1 = (0, s2) ∧ firstS (polS d) p.kids s2 = (0, s') := by
  simp only [polS] at h
  cases hi : idS p.id s with
  | none => rw [hi] at h; simp at h
  | some s1 =>
    rw [hi] at h
    simp only at h
    have h1 := (idS_sub hi (t := s) ⟨fun _ h => h, Nat.le_refl _⟩).2
    have hid : Named (bl p.id) := by
      unfold idS at hi
      split at hi
      · rename_i hh; exact hh.1
      · cases hi
    split at h
    · simp at h
    rename_i c1
    split at h
    · rename_i c2; simp only [Prod.mk.injEq] at h; exact absurd h.1 c2
    rename_i c2
    split at h
    · simp at h
    rename_i c3
    split at h
    · rename_i c4; rw [h] at c4; exact absurd rfl c4
    rename_i c4
    have c4' : (firstS ruleS p.rules s1).1 = 0 := by simpa using c4
    have e1 : firstS ruleS p.rules s1 = (0, (firstS ruleS p.rules s1).2) := by rw [← c4']
    have c2' : orE (tgE p.tg) (obE p.ob) = 0 := by simpa using c2
    unfold orE at c2'
    have ht : tgE p.tg = 0 := by
      by_cases h1 : tgE p.tg = 0
      · exact h1
      · rw [if_pos h1] at c2'; exact c2'
    have ho : obE p.ob = 0 := by rw [if_neg (by rw [ht]; simp)] at c2'; exact c2'
    exact ⟨hid, by simpa using c1, ht, ho, by omega, s1, _, by rw [h1], e1, h⟩
theorem fits_all {p : Pol} (h : fitsB p = true) : (p.alg = 1 ∨ p.alg = 2 ∨ p.alg = 3 ∨ p.alg = 4 ∨ p.alg = 5 ∨ p.alg = 6) ∧ (p.set = true → p.rules = []) ∧ (p.set = false → p.kids = []) := by
  unfold fitsB at h
  simp only [Bool.and_eq_true, decide_eq_true_eq] at h
  refine ⟨by omega, fun hs => ?_, fun hs => ?_⟩
  · have := h.2
    rw [if_pos hs, decide_eq_true_eq] at this
    exact List.length_eq_zero_iff.1 this
  · have := h.2
    rw [if_neg (by rw [hs]; simp), Bool.and_eq_true, decide_eq_true_eq] at this
    exact List.length_eq_zero_iff.1 this.1
theorem one_lb : One [123] [tMark 123] := one_mark Zx.m123
theorem one_rb : One [125] [tMark 125] := one_mark Zx.m125
def PolBoth (d : Nat) : Prop := ∀ {p : Pol} {s s' : Seen}, polS d p s = (0, s') → polOks d p → s.n ≤ 64 → s.n ≤ s'.n ∧ s'.n ≤ 64 ∧
    ∃ z : List Tk, Wz (polW d p) z ∧ 1 ≤ z.length ∧ (∀ zs, seesR [w_policy, w_set] (St (z ++ zs) 0) ≠ 0) ∧ ∀ zs, 1 ≤ zs.length → Nx [w_on] zs → polR (d + 1) (St (z ++ zs) s.n) = (p, St zs s'.n)
/-- What stands ahead of the rest where a policy ends. -/
theorem kids_both {d : Nat} (ih : PolBoth d) (hd : d ≤ 3) : ∀ {l : List Pol} {s s' : Seen}, firstS (polS d) l s = (0, s') → (∀ k ∈ l, polOks d k) → s.n ≤ 64 → s.n ≤ s'.n ∧ s'.n ≤ 64 ∧
    ∃ z : List Tk, Wz (l.map (polW d)).flatten z ∧ l.length ≤ z.length ∧ (z = [] ∨ ∀ zs, seesR [w_policy, w_set] (St (z ++ zs) 0) ≠ 0) ∧ ∀ n acc zs, acc.length + l.length ≤ 16 → l.length < n → 1 ≤ zs.length → Nx [w_policy, w_set] zs → Nx [w_on] zs → kidsR (polR (d + 1)) n acc (St (z ++ zs) s.n) = (acc ++ l, St zs s'.n)
  | [], s, s', h, _, hs => by
    simp [firstS] at h
    subst h
    refine ⟨Nat.le_refl _, hs, [], .nil, Nat.le_refl _, .inl rfl, fun n acc zs _ hn _ hx _ => ?_⟩
    cases n with
    | zero => simp at hn
    | succ n =>
      unfold kidsR
      rw [List.nil_append, if_pos (hx.at_ _), List.append_nil]
  | p :: l, s, s', h, hok, hs => by
    obtain ⟨s1, h1, h2⟩ := first_cons h
    obtain ⟨a1, a2, z1, w1, l1, e1, r1⟩ := ih h1 (hok p (by simp)) hs
    obtain ⟨b1, b2, z2, w2, l2, e2, r2⟩ := kids_both ih hd h2 (fun k hk => hok k (by simp [hk])) a2
    refine ⟨by omega, b2, z1 ++ z2, ?_, by simp only [List.length_cons, List.length_append]; omega, .inr fun zs => by rw [List.append_assoc]; exact e1 _, fun n acc zs hl hn hz hx ho => ?_⟩
    · rw [List.map_cons, List.flatten_cons]
      exact w1.app w2
    · cases n with
      | zero => simp at hn
      | succ n =>
        simp only [List.length_cons] at hl hn
        have ho2 : Nx [w_on] (z2 ++ zs) := by
          rcases e2 with rfl | e2
          · exact ho
          · have := e2 zs
            unfold Nx seesR
            unfold seesR at this
            split at this
            · rename_i hk
              rw [if_pos hk]
              have hd : (St (z2 ++ zs) 0).hd.s = w_policy ∨ (St (z2 ++ zs) 0).hd.s = w_set := by
                generalize (St (z2 ++ zs) 0).hd.s = x at this
                by_cases hp : x = w_policy
                · exact .inl hp
                · by_cases hq : x = w_set
                  · exact .inr hq
                  · simp [idxW, hp, hq] at this
              rcases hd with h | h <;> rw [h] <;> decide +kernel
            · exact absurd rfl this
        unfold kidsR
        rw [List.append_assoc, if_neg (show ¬ seesR [w_policy, w_set] (St (z1 ++ (z2 ++ zs)) s.n) = 0 from e1 _)]
        simp only
        rw [most_no (by omega), r1 (z2 ++ zs) (by simp only [List.length_append]; omega) ho2]
        simp only
        rw [r2 n (acc ++ [p]) zs (by simp only [List.length_append, List.length_cons, List.length_nil]; omega) (by omega) hz hx ho, List.append_assoc]
        rfl
theorem alg_read {n : Int} (h : n = 1 ∨ n = 2 ∨ n = 3 ∨ n = 4 ∨ n = 5 ∨ n = 6) (zs : List Tk) (m : Nat) : mustR w_algs (St (wTk (algW n) :: zs) m) = (n.toNat, St zs m) := by
  rcases h with rfl | rfl | rfl | rfl | rfl | rfl <;> exact must_yes (by decide +kernel) (by decide) zs m
theorem head_read (p : Pol) (zs : List Tk) (m : Nat) : mustR [w_policy, w_set] (St (wTk (headW p) :: zs) m) = (if p.set = true then 2 else 1, St zs m) := by
  unfold headW
  split
  · exact must_yes (by decide +kernel) (by decide) zs m
  · exact must_yes (by decide +kernel) (by decide) zs m
theorem pol_both : ∀ d : Nat, d ≤ 4 → PolBoth d
  | 0, _, p, s, s', h, _, _ => by
    simp [polS] at h
  | d + 1, hd, p, s, s', h, hok, hs => by
    obtain ⟨hid, hfit, ht, ho, ⟨h16, k16⟩, s1, s2, hs1, hr, hk⟩ := pol_parts h
    obtain ⟨hok1, hok2, hok3⟩ := hok
    obtain ⟨halg, hset, hpol⟩ := fits_all hfit
    obtain ⟨a1, a2, zr, wr, lr, rr⟩ := rules_both hr hok2 (by omega)
    obtain ⟨b1, b2, zk, wk, lk, ek, rk⟩ := kids_both (pol_both d (by omega)) (by omega) hk hok3 a2
    have hw : Wz (polW (d + 1) p) ([wTk (headW p)] ++ ([tName p.id] ++ ([wTk (algW p.alg)] ++ (((((tgZ p.tg ++ [tMark 123]) ++ zr) ++ zk) ++ [tMark 125]) ++ p.ob.flatMap dutZ)))) :=
      .cons (one_name (headW_named _)) (.cons (one_id hid) (.cons (one_name (algW_named _)) ((((((wz_tg ht hok1).app (.one one_lb)).app wr).app wk).app (.one one_rb)).app (wz_ob ho))))
    refine ⟨by omega, b2, _, hw, by simp, fun zs => ?_, fun zs hz hx => ?_⟩
    · have := head_read p zs 0
      show seesR _ (St (wTk (headW p) :: _) 0) ≠ 0
      have e : ∀ zs, seesR [w_policy, w_set] (St (wTk (headW p) :: zs) 0) = if p.set = true then 2 else 1 := by
        intro zs
        unfold headW
        split
        · show seesR _ (St [wTk [115, 101, 116]] 0) = _
          decide +kernel
        · show seesR _ (St [wTk [112, 111, 108, 105, 99, 121]] 0) = _
          decide +kernel
      rw [e]
      split <;> decide
    · have e : ([wTk (headW p)] ++ ([tName p.id] ++ ([wTk (algW p.alg)] ++ (((((tgZ p.tg ++ [tMark 123]) ++ zr) ++ zk) ++ [tMark 125]) ++ p.ob.flatMap dutZ)))) ++ zs =
          wTk (headW p) :: tName p.id :: wTk (algW p.alg) :: (tgZ p.tg ++ tMark 123 :: (zr ++ (zk ++ tMark 125 :: (p.ob.flatMap dutZ ++ zs)))) := by simp
      rw [e]
      have hin : inR (d + 1) (if p.set = true then 2 else 1) (St (zr ++ (zk ++ tMark 125 :: (p.ob.flatMap dutZ ++ zs))) s.n) = (p.rules, p.kids, St (tMark 125 :: (p.ob.flatMap dutZ ++ zs)) s'.n) := by
        unfold inR
        cases hps : p.set with
        | true =>
          have hr0 := hset hps
          rw [hr0] at wr hr a1
          have : zr = [] := by
            have e0 : ([] : List Rul).map rulT = [] := rfl
            rw [e0] at wr
            cases wr
            rfl
          subst this
          simp only [if_true, List.nil_append]
          have hs2 : s2.n = s.n := by rw [a1]; simp; exact hs1
          have := rk (zk ++ tMark 125 :: (p.ob.flatMap dutZ ++ zs)).length [] (tMark 125 :: (p.ob.flatMap dutZ ++ zs)) (by simpa using k16) (by simp only [List.length_append, List.length_cons]; omega) (by simp) (nx_of (by decide +kernel) _) (nx_of (by decide +kernel) _)
          rw [hs2] at this
          have e1 : (St (zk ++ tMark 125 :: (p.ob.flatMap dutZ ++ zs)) s.n).rest.length = (zk ++ tMark 125 :: (p.ob.flatMap dutZ ++ zs)).length := rfl
          rw [e1, this, hr0]
          rfl
        | false =>
          have hk0 := hpol hps
          rw [hk0] at wk hk
          have : zk = [] := by
            have e0 : (([] : List Pol).map (polW d)).flatten = [] := rfl
            rw [e0] at wk
            cases wk
            rfl
          subst this
          simp [firstS] at hk
          subst hk
          simp only [Bool.false_eq_true, if_false, List.nil_append]
          rw [if_neg (by decide)]
          have := rr (zr ++ tMark 125 :: (p.ob.flatMap dutZ ++ zs)).length [] (tMark 125 :: (p.ob.flatMap dutZ ++ zs)) (by simpa using h16) (by simp only [List.length_append, List.length_cons]; omega) (nx_of (by decide +kernel) _)
          rw [hs1] at this
          have e1 : (St (zr ++ tMark 125 :: (p.ob.flatMap dutZ ++ zs)) s.n).rest.length = (zr ++ tMark 125 :: (p.ob.flatMap dutZ ++ zs)).length := rfl
          rw [e1, this, hk0]
          rfl
      have hp := polR_eq (d + 1) (St (wTk (headW p) :: tName p.id :: wTk (algW p.alg) :: (tgZ p.tg ++ tMark 123 :: (zr ++ (zk ++ tMark 125 :: (p.ob.flatMap dutZ ++ zs))))) s.n)
        (most_no (by omega) _) (head_read p _ _) (name_read _ _ _) (alg_read halg _ _) (target_read ht (nx_of (by decide +kernel) _) (nx_of (by decide +kernel) _) _) (must_yes (t := tMark 123) (i := 1) (by decide +kernel) (by decide) _ _) hin (must_yes (t := tMark 125) (i := 1) (by decide +kernel) (by decide) _ _) (ob_read ho hz hx _)
      rw [hp]
      obtain ⟨i, st, al, tg, ru, ki, ob⟩ := p
      have e2 : ((al.toNat : Nat) : Int) = al := by
        have : al = 1 ∨ al = 2 ∨ al = 3 ∨ al = 4 ∨ al = 5 ∨ al = 6 := halg
        omega
      show (Pol.mk i (decide ((if st = true then 2 else 1) = 2)) ((al.toNat : Nat) : Int) tg ru ki ob, _) = _
      rw [e2]
      cases st <;> rfl

/-- A right policy's text: its tokens, and what is read of them. -/
theorem show_toks {p : Pol} (h : rightE p = 0) (hok : polOks 4 p) : ∃ z m, Zx (polT p) (z ++ [tEnd]) ∧ polR 5 ⟨z ++ [tEnd], 0, 0, 0⟩ = (p, ⟨[tEnd], m, 0, 0⟩) := by
  have e0 : polS 4 p ⟨[], 0⟩ = (0, (polS 4 p ⟨[], 0⟩).2) := by unfold rightE at h; rw [← h]
  obtain ⟨_, _, z, hw, _, _, hr⟩ := pol_both 4 (Nat.le_refl _) e0 hok (Nat.zero_le _)
  refine ⟨z, _, ?_, hr [tEnd] (by simp) (by unfold Nx; decide +kernel)⟩
  have := hw.join [] [tEnd] Stp.nil Zx.nil
  rwa [List.append_nil] at this
/-- .. is read as that policy, if it isn't too long. -/
theorem show_read {p : Pol} (h : rightE p = 0) (hok : polOks 4 p) {s : ByteArray} (hs : s.size ≤ 4096) (ht : s.data.toList = polT p) : parseR s = (p, 0, 0) := by
  obtain ⟨z, m, hz, hr⟩ := show_toks h hok
  rw [← ht] at hz
  exact hz.read hs hr rfl h
/-- Two right policies have one text just if they are the same. -/
theorem show_same {p q : Pol} (hp : rightE p = 0) (hq : rightE q = 0) (okp : polOks 4 p) (okq : polOks 4 q) (h : polT p = polT q) : p = q := by
  obtain ⟨z, m, hz, hr⟩ := show_toks hp okp
  obtain ⟨z', m', hz', hr'⟩ := show_toks hq okq
  rw [h] at hz
  obtain ⟨ts, h1, h2⟩ := hz
  obtain ⟨ts', h1', h2'⟩ := hz'
  rw [h1] at h1'
  obtain rfl : ts = ts' := by injection h1'
  rw [← h2, h2', hr'] at hr
  exact (Prod.mk.inj hr).1.symm
theorem show_some {p : Pol} : polT p ≠ [] := by
  have : polW 4 p = headW p :: (bl p.id :: algW p.alg :: (tgW p.tg ++ [[123]] ++ p.rules.map rulT ++ (p.kids.map (polW 3)).flatten ++ [[125]] ++ p.ob.map dutT)) := rfl
  unfold polT
  rw [this, Lib.join_cons]
  intro h
  have := (List.append_eq_nil_iff.1 h).1
  unfold headW at this
  split at this <;> cases this
end Go.Proofs.YtjpkemamfccfdaaGreatDoor
/- Policies as text, plainly: how long such texts are. -/
namespace Go.Proofs.YtjpkemamfccfdaaGreatDoor
set_option linter.unusedVariables false

theorem val_len {v : Vl} (h : v.right) (hn : InI v.n) : (showB v).length ≤ 400 := by
  have hr := h
  unfold Vl.right RightV at hr
  have hi := Lib.itoa_length_le v.n hn.1 hn.2
  have hq := quoteL_len v.l
  rcases show_cases h with ⟨_, _, ⟨_, hs⟩ | ⟨_, hs⟩⟩ | ⟨_, _, hs⟩ | ⟨hk, _, hs⟩ | ⟨_, _, hs⟩ | ⟨hk, _, hs⟩
  all_goals rw [hs]
  · simp
  · simp
  · omega
  · have : v.l.length ≤ 64 := by rcases hr with h | h | h | h | h <;> omega
    unfold quoteB
    simp
    omega
  · simp; omega
  · have : v.l.length ≤ 16 := by rcases hr with h | h | h | h | h <;> first | exact h.2.2.1.2 | omega
    simp; omega
theorem catW_len (n : Int) : (catW n).length ≤ 7 := by
  unfold catW; repeat' split
  all_goals decide
theorem algW_len (n : Int) : (algW n).length ≤ 12 := by
  unfold algW; repeat' split
  all_goals decide
theorem fnW_len (n : Int) : (fnW n).length ≤ 4 := by
  unfold fnW; repeat' split
  all_goals decide
theorem doW_len (n : Int) : (doW n).length ≤ 6 := by
  unfold doW; repeat' split
  all_goals decide
theorem cmpW_len (n : Int) : (cmpW n).length ≤ 1 := by
  unfold cmpW; repeat' split
  all_goals decide
theorem effW_len (b : Bool) : (effW b).length ≤ 6 := by cases b <;> decide
theorem headW_len (p : Pol) : (headW p).length ≤ 6 := by
  unfold headW
  split <;> decide
theorem attr_len {a : Atr} (h : attrB a = true) : (attrS a).length ≤ 25 := by
  have hn := (attrB_all h).2.1.2
  have hc := catW_len a.cat
  unfold attrS attrT
  rw [if_pos h]
  simp only [List.length_append, List.length_cons]
  split <;> simp <;> omega
theorem mat_len {m : Mat} (h : matE m = 0) (hok : m.ok) : (matT m).length ≤ 500 := by
  obtain ⟨ha, _, hv⟩ := matE_all h
  have := attr_len ha
  have := cmpW_len m.op
  have := val_len hv hok.2.2.2.1
  simp only [matT, List.length_append, List.length_cons]
  omega
/-- A row of texts, none longer than so much. -/
theorem tail_le {B : Nat} (sep : List UInt8) : ∀ xs : List (List UInt8), (∀ x ∈ xs, x.length ≤ B) → (Lib.joinTail sep xs).length ≤ xs.length * (B + sep.length)
  | [], _ => by simp [Lib.joinTail]
  | x :: xs, h => by
    have i := tail_le sep xs fun y hy => h y (by simp [hy])
    have j := h x (by simp)
    have e : Lib.joinTail sep (x :: xs) = sep ++ (x ++ Lib.joinTail sep xs) := by simp [Lib.joinTail]
    rw [e, List.length_append, List.length_append, List.length_cons, Nat.succ_mul]
    omega
theorem join_le {B : Nat} (sep : List UInt8) (xs : List (List UInt8)) (h : ∀ x ∈ xs, x.length ≤ B) : (Lib.join xs sep).length ≤ xs.length * (B + sep.length) := by
  cases xs with
  | nil => simp [Lib.join_nil]
  | cons x xs =>
    have i := tail_le sep xs fun y hy => h y (by simp [hy])
    have j := h x (by simp)
    rw [Lib.join_cons, List.length_append, List.length_cons, Nat.succ_mul]
    omega
theorem join_map {α : Type} {T : α → List UInt8} {B n : Nat} (sep : List UInt8) (l : List α) (h : ∀ x ∈ l, (T x).length ≤ B) (hn : l.length ≤ n) : (Lib.join (l.map T) sep).length ≤ n * (B + sep.length) := by
  have := join_le (B := B) sep (l.map T) (fun y hy => by obtain ⟨x, hx, rfl⟩ := List.mem_map.1 hy; exact h x hx)
  rw [List.length_map] at this
  exact Nat.le_trans this (Nat.mul_le_mul_right _ hn)
theorem all_len {l : List Mat} (h : allE l = 0) (hok : ∀ m ∈ l, m.ok) : (allT l).length ≤ 5000 := by
  have := join_map (T := matT) (B := 500) (n := 8) [44, 32] l (fun x hx => mat_len ((allE_all h).2 x hx) (hok x hx)) (allE_all h).1.2
  exact Nat.le_trans this (by decide)
theorem any_len {l : List (List Mat)} (h : anyE l = 0) (hok : ∀ a ∈ l, ∀ m ∈ a, m.ok) : (anyT l).length ≤ 41000 := by
  have := join_map (T := allT) (B := 5000) (n := 8) [32, 111, 114, 32] l (fun x hx => all_len ((anyE_all h).2 x hx) (hok x hx)) (anyE_all h).1.2
  simp only [anyT, List.length_cons, List.length_append, List.length_nil] at this ⊢
  omega
theorem tg_len {t : Tgt} (h : tgE t = 0) (hok : Tgt.oks t) : (tgT t).length ≤ 330000 := by
  have := join_map (T := anyT) (B := 41000) (n := 8) [32, 97, 110, 100, 32] t (fun x hx => any_len ((tgE_all h).2 x hx) (hok x hx)) (tgE_all h).1
  exact Nat.le_trans this (by decide)
theorem dut_len {o : Dut} (h : dutE o = 0) : (dutT o).length ≤ 100 := by
  have := (dutE_all h).2.2.1.2
  have := doW_len o.kind
  have := effW_len (decide (o.on = 2))
  simp only [dutT, List.length_append, List.length_cons, List.length_nil]
  omega
theorem tree_len : ∀ {t : Xt}, t.fits → (∀ n ∈ t.flat, n.ok) → t.txt.length ≤ 430 * t.flat.length
  | .leaf n, hf, hok => by
    obtain ⟨ho, hh⟩ := hf
    simp only [Xt.txt, nodeT, Xt.flat]
    rcases ho with ho | ho
    · rw [if_pos ho]
      have := val_len (holds_lit hh ho).1 (hok n (by simp [Xt.flat])).2.1.2.1
      simp; omega
    · rw [if_neg (by omega), if_pos ho]
      have := attr_len (holds_att hh ho).1
      simp; omega
  | .one n x, hf, hok => by
    obtain ⟨hh, ho, hx⟩ := hf
    have hn := one_op ho
    have i := tree_len hx (fun k hk => hok k (by simp [Xt.flat, hk]))
    have := fnW_len n.op
    simp only [Xt.txt, Xt.flat]
    rw [nodeT_fun hn.1 hn.2, Lib.join_one]
    simp only [List.length_append, List.length_cons, List.length_nil]
    omega
  | .two n x y, hf, hok => by
    obtain ⟨hh, ho, hy, fx, fy⟩ := hf
    have hn := two_op ho
    have i := tree_len fx (fun k hk => hok k (by simp [Xt.flat, hk]))
    have j := tree_len fy (fun k hk => hok k (by simp [Xt.flat, hk]))
    have := fnW_len n.op
    simp only [Xt.txt, Xt.flat]
    rw [nodeT_fun hn.1 hn.2, join_two]
    simp only [List.length_append, List.length_cons, List.length_nil]
    omega
theorem expr_len {l : List Nod} (h : exprE l = 0) (hok : ∀ n ∈ l, n.ok) : (exprS l).length ≤ 14000 := by
  unfold exprS
  split
  · rename_i hh
    obtain ⟨t, hf, hb, hl, ht, h32⟩ := expr_tree h hh.1
    have := tree_len hf (by rw [← hl]; exact hok)
    rw [ht]
    rw [← hl] at this
    omega
  · simp
theorem tgW_len {t : Tgt} (h : tgE t = 0) (hok : Tgt.oks t) : (tgW t).length ≤ 2 ∧ ∀ x ∈ tgW t, x.length ≤ 330000 := by
  have := tg_len h hok
  unfold tgW
  split
  · simp
  · refine ⟨by simp, fun x hx => ?_⟩
    simp at hx
    rcases hx with rfl | rfl
    · simp
    · exact this
theorem condW_len {l : List Nod} (h : exprE l = 0) (hok : ∀ n ∈ l, n.ok) : (condW l).length ≤ 2 ∧ ∀ x ∈ condW l, x.length ≤ 330000 := by
  have := expr_len h hok
  unfold condW
  split
  · simp
  · refine ⟨by simp, fun x hx => ?_⟩
    simp at hx
    rcases hx with rfl | rfl
    · simp
    · omega
theorem rulW_len {r : Rul} (h : r.fine) (hok : r.oks) : (rulW r).length ≤ 14 ∧ ∀ x ∈ rulW r, x.length ≤ 330000 := by
  obtain ⟨hn, ht, hc, ho⟩ := h
  obtain ⟨t1, t2⟩ := tgW_len ht hok.1
  obtain ⟨c1, c2⟩ := condW_len hc hok.2
  obtain ⟨o1, o2⟩ := obE_all ho
  refine ⟨by simp only [rulW, List.length_cons, List.length_append, List.length_map]; omega, fun x hx => ?_⟩
  have he := effW_len r.deny
  have hid := hn.1.2
  simp only [rulW, List.mem_cons, List.mem_append, List.mem_map] at hx
  rcases hx with rfl | rfl | (hx | hx) | ⟨o, ho', rfl⟩
  · omega
  · omega
  · exact t2 x hx
  · exact c2 x hx
  · have := dut_len (o2 o ho'); omega
theorem rul_len {r : Rul} (h : r.fine) (hok : r.oks) : (rulT r).length ≤ 5000000 := by
  obtain ⟨a, b⟩ := rulW_len h hok
  have := join_le (B := 330000) [32] (rulW r) b
  have : (Lib.join (rulW r) [32]).length ≤ 14 * 330001 := Nat.le_trans this (Nat.mul_le_mul_right _ a)
  simp only [rulT, List.length_append, List.length_cons, List.length_nil]
  omega
/-- How many words a policy may have. -/
def wordsN : Nat → Nat
  | 0 => 0
  | d + 1 => 40 + 16 * wordsN d
theorem rules_fine : ∀ {l : List Rul} {s s' : Seen}, firstS ruleS l s = (0, s') → ∀ r ∈ l, r.fine
  | [], _, _, _, r, hr => by cases hr
  | x :: l, s, s', h, r, hr => by
    obtain ⟨s1, h1, h2⟩ := first_cons h
    rcases List.mem_cons.1 hr with rfl | hr
    · exact (rule_fine h1).1
    · exact rules_fine h2 r hr
theorem kids_fine {d : Nat} : ∀ {l : List Pol} {s s' : Seen}, firstS (polS d) l s = (0, s') → ∀ k ∈ l, ∃ s1 s2, polS d k s1 = (0, s2)
  | [], _, _, _, r, hr => by cases hr
  | x :: l, s, s', h, r, hr => by
    obtain ⟨s1, h1, h2⟩ := first_cons h
    rcases List.mem_cons.1 hr with rfl | hr
    · exact ⟨_, _, h1⟩
    · exact kids_fine h2 r hr
theorem flatten_le {B : Nat} : ∀ l : List (List (List UInt8)), (∀ x ∈ l, x.length ≤ B) → l.flatten.length ≤ l.length * B
  | [], _ => by simp
  | x :: l, h => by
    have := flatten_le l fun y hy => h y (by simp [hy])
    have := h x (by simp)
    rw [List.flatten_cons, List.length_append, List.length_cons, Nat.succ_mul]
    omega
theorem polW_len : ∀ (d : Nat) {p : Pol} {s s' : Seen}, polS d p s = (0, s') → polOks d p → (polW d p).length ≤ wordsN d ∧ ∀ x ∈ polW d p, x.length ≤ 5000000
  | 0, p, s, s', h, _ => by simp [polS] at h
  | d + 1, p, s, s', h, hok => by
    obtain ⟨hid, hfit, ht, ho, ⟨h16, k16⟩, s1, s2, hs1, hr, hk⟩ := pol_parts h
    obtain ⟨hok1, hok2, hok3⟩ := hok
    obtain ⟨t1, t2⟩ := tgW_len ht hok1
    obtain ⟨o1, o2⟩ := obE_all ho
    have hrf := rules_fine hr
    have kf : ∀ k ∈ p.kids, (polW d k).length ≤ wordsN d ∧ ∀ x ∈ polW d k, x.length ≤ 5000000 := fun k hkk => by
      obtain ⟨a, b, e⟩ := kids_fine hk k hkk
      exact polW_len d e (hok3 k hkk)
    have kl := flatten_le (B := wordsN d) (p.kids.map (polW d)) (fun x hx => by obtain ⟨k, hkk, rfl⟩ := List.mem_map.1 hx; exact (kf k hkk).1)
    rw [List.length_map] at kl
    have kl2 : p.kids.length * wordsN d ≤ 16 * wordsN d := Nat.mul_le_mul_right _ k16
    refine ⟨?_, fun x hx => ?_⟩
    · simp only [polW, wordsN, List.length_cons, List.length_append, List.length_map, List.length_nil]
      omega
    · have hh := headW_len p
      have ha := algW_len p.alg
      have hi := hid.1.2
      simp only [polW, List.mem_cons, List.mem_append, List.mem_map, List.mem_flatten, List.not_mem_nil, or_false] at hx
      rcases hx with rfl | rfl | rfl | ((((hx | rfl) | ⟨r, hr', rfl⟩) | ⟨ws, ⟨k, hk', rfl⟩, hx⟩) | rfl) | ⟨o, ho', rfl⟩
      · omega
      · omega
      · omega
      · have := t2 x hx; omega
      · simp
      · exact rul_len (hrf r hr') (hok2 r hr')
      · exact (kf k hk').2 x hx
      · simp
      · have := dut_len (o2 o ho'); omega
theorem wordsN_4 : wordsN 4 = 174760 := rfl
theorem wordsN_le : ∀ {d : Nat}, d ≤ 4 → wordsN d ≤ 174760 := by
  intro d h
  have : d = 0 ∨ d = 1 ∨ d = 2 ∨ d = 3 ∨ d = 4 := by omega
  rcases this with rfl | rfl | rfl | rfl | rfl <;> decide
theorem polT_len {p : Pol} (h : rightE p = 0) (hok : polOks 4 p) : (polT p).length ≤ 1000000000000 := by
  have e0 : polS 4 p ⟨[], 0⟩ = (0, (polS 4 p ⟨[], 0⟩).2) := by unfold rightE at h; rw [← h]
  obtain ⟨a, b⟩ := polW_len 4 e0 hok
  have := join_le (B := 5000000) [32] (polW 4 p) b
  rw [wordsN_4] at a
  have h2 : (polW 4 p).length * (5000000 + ([32] : List UInt8).length) ≤ 174760 * 5000001 := Nat.mul_le_mul_right _ a
  unfold polT
  omega
end Go.Proofs.YtjpkemamfccfdaaGreatDoor
