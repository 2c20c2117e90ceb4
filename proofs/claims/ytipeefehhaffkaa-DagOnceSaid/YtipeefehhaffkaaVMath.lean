/- Values, plainly: which are right, how they stand, their bytes and their texts. -/
import Derived.Test.YtipeefehhaffkaaMath
import Derived.Test.YtipeefehhaffkaaMade
import Derived.Lib.ItoaNum
namespace Go.Proofs.Ytipeefehhaffkaa
set_option linter.unusedVariables false

/-- a to z. -/
def lett (c : UInt8) : Bool := decide (97 ≤ c.toNat) && decide (c.toNat ≤ 122)
/-- 0 to 9, and '_'. -/
def later (c : UInt8) : Bool := decide (48 ≤ c.toNat) && decide (c.toNat ≤ 57) || decide (c.toNat = 95)
def okAt (j : Nat) (c : UInt8) : Bool := lett c || decide (0 < j) && later c

/-- P3.1. -/
def Named (l : List UInt8) : Prop := (1 ≤ l.length ∧ l.length ≤ 16) ∧ ∀ j (h : j < l.length), okAt j l[j] = true
instance (l : List UInt8) : Decidable (Named l) := by unfold Named; infer_instance

theorem not_named {l : List UInt8} {j : Nat} (h : j < l.length) (hb : okAt j l[j] = false) : decide (Named l) = false := by
  rw [decide_eq_false_iff_not]
  rintro ⟨_, ha⟩
  rw [ha j h] at hb
  cases hb

/-- P3.2. -/
def RightV (k n : Int) (l : List UInt8) : Prop :=
  k = 1 ∧ l = [] ∧ (n = 0 ∨ n = 1) ∨ k = 2 ∧ l = [] ∨ k = 3 ∧ n = 0 ∧ l.length ≤ 64 ∨ k = 4 ∧ l = [] ∧ 0 ≤ n ∧ n ≤ 1099511627776 ∨ k = 5 ∧ n = 0 ∧ Named l
instance (k n : Int) (l : List UInt8) : Decidable (RightV k n l) := by unfold RightV; infer_instance

/-- Texts and names. -/
def inT (k : Int) : Bool := decide (k = 3) || decide (k = 5)

/-- A value: kind, number, text. -/
structure Vl where
  k : Int
  n : Int
  s : ByteArray
def Vl.l (v : Vl) : List UInt8 := v.s.data.toList
def Vl.right (v : Vl) : Prop := RightV v.k v.n v.l
instance (v : Vl) : Decidable v.right := by unfold Vl.right; infer_instance
theorem Vl.ext' {a b : Vl} (h1 : a.k = b.k) (h2 : a.n = b.n) (h3 : a.l = b.l) : a = b := by
  obtain ⟨k, n, s⟩ := a
  obtain ⟨k', n', s'⟩ := b
  obtain ⟨⟨x⟩⟩ := s
  obtain ⟨⟨y⟩⟩ := s'
  simp_all [Vl.l]
instance : DecidableEq Vl := fun a b => if h : a.k = b.k ∧ a.n = b.n ∧ a.l = b.l then .isTrue (Vl.ext' h.1 h.2.1 h.2.2) else .isFalse (by rintro rfl; exact h ⟨rfl, rfl, rfl⟩)
/-- What int can hold. -/
def Vl.ok (v : Vl) : Prop := (-9223372036854775808 ≤ v.k ∧ v.k ≤ 9223372036854775807) ∧ (-9223372036854775808 ≤ v.n ∧ v.n ≤ 9223372036854775807) ∧ v.s.size ≤ maxLen

/-- P3.4. -/
def putB (v : Vl) : List UInt8 := numB v.k ++ if inT v.k = true then textB v.l else numB v.n

def hexd (n : Nat) : UInt8 := UInt8.ofNat (if n < 10 then 48 + n else 87 + n)
/-- Must a byte be written by its number? -/
def odd8 (c : UInt8) : Bool := decide (c.toNat < 32) || decide (126 < c.toNat) || decide (c.toNat = 34) || decide (c.toNat = 92)
def quoteC (c : UInt8) : List UInt8 := if odd8 c = true then [92, hexd (c.toNat / 16), hexd (c.toNat % 16)] else [c]
def quoteL : List UInt8 → List UInt8
  | [] => []
  | c :: r => quoteC c ++ quoteL r
theorem quoteL_app (l m : List UInt8) : quoteL (l ++ m) = quoteL l ++ quoteL m := by
  induction l with
  | nil => rfl
  | cons c r ih => simp [quoteL, ih]
def quoteB (l : List UInt8) : List UInt8 := [34] ++ quoteL l ++ [34]
theorem quoteC_len (c : UInt8) : (quoteC c).length ≤ 3 := by unfold quoteC; split <;> simp
theorem quoteL_len (l : List UInt8) : (quoteL l).length ≤ 3 * l.length := by
  induction l with
  | nil => simp [quoteL]
  | cons c r ih => have := quoteC_len c; simp [quoteL]; omega

/-- P3.6. -/
def showB (v : Vl) : List UInt8 :=
  if v.right then
    if v.k = 1 then (if v.n = 1 then [116, 114, 117, 101] else [102, 97, 108, 115, 101])
    else if v.k = 3 then quoteB v.l
    else if v.k = 4 then 64 :: Lib.itoa v.n
    else if v.k = 5 then 35 :: v.l
    else Lib.itoa v.n
  else []

/-- Cut to 80 bytes. -/
def fewV (v : Vl) : Vl := ⟨v.k, v.n, ⟨(v.l.take 80).toArray⟩⟩
theorem fewV_l (v : Vl) : (fewV v).l = v.l.take 80 := rfl
theorem fewV_size (v : Vl) : (fewV v).s.size ≤ 80 := by show (v.l.take 80).toArray.size ≤ 80; simp; omega
theorem fewV_len (v : Vl) : (fewV v).l.length ≤ 80 := by rw [fewV_l]; simp; omega
theorem fewV_ok {v : Vl} (h : v.ok) : (fewV v).ok := ⟨h.1, h.2.1, by have := fewV_size v; unfold maxLen; omega⟩
theorem right_few {v : Vl} (h : v.right) : fewV v = v := by
  have hl : v.l.length ≤ 80 := by
    unfold Vl.right RightV at h
    rcases h with ⟨_, h, _⟩ | ⟨_, h⟩ | ⟨_, _, h⟩ | ⟨_, h, _⟩ | ⟨_, _, h, _⟩
    all_goals first | (rw [h]; simp) | omega
  exact Vl.ext' rfl rfl (by rw [fewV_l, List.take_of_length_le hl])
end Go.Proofs.Ytipeefehhaffkaa
