/- Functions of values, plainly. -/
import Derived.Test.YtjcegpakacedoaaFunMath
import Derived.Test.YtjcegpakacedoaaVLess
import Derived.Test.YtjcegpakacedoaaVEq
namespace Go.Proofs.Ytjcegpakacedoaa
set_option linter.unusedVariables false
open Go.RowKit

/-- A truth's number. -/
def truthN (b : Bool) : Int := if b then 1 else 0
theorem truthN_t : truthN true = 1 := rfl
theorem truthN_f : truthN false = 0 := rfl
/-- A truth as a value. -/
def truthV (b : Bool) : Vl := ⟨1, truthN b, ⟨#[]⟩⟩
/-- A number as a value. -/
def numV (n : Int) : Vl := ⟨2, n, ⟨#[]⟩⟩
/-- Beside an error. -/
def noneV : Vl := ⟨0, 0, ⟨#[]⟩⟩
def sameV (a b : Vl) : Vl × Int := if a.k = b.k then (truthV (veq a b), 0) else (noneV, 2)
def lessV (a b : Vl) : Vl × Int := if (lessOf a b).2 = 0 then (truthV (lessOf a b).1, 0) else (noneV, (lessOf a b).2)
def opF (op a b : Int) : Int := if op = 8 then a + b else if op = 9 then a - b else a * b
def numF (p : Int × Int) : Vl × Int := if p.2 = 0 then (numV p.1, 0) else (noneV, p.2)
def reckV (op : Int) (a b : Vl) : Vl × Int := if a.k = 2 ∧ b.k = 2 then numF (fits (opF op a.n b.n)) else (noneV, 2)
def notV (a : Vl) : Vl × Int := if a.k = 1 then (truthV (decide (a.n = 0)), 0) else (noneV, 2)
def bothV (op : Int) (a b : Vl) : Vl × Int := if a.k = 1 ∧ b.k = 1 then (truthV (if op = 12 then decide (a.n = 1) && decide (b.n = 1) else decide (a.n = 1) || decide (b.n = 1)), 0) else (noneV, 2)
def allR (l : List Vl) : Bool := l.all fun v => decide v.right
def needs (op : Int) : Nat := if op = 11 then 1 else 2
def callTwo (op : Int) (a b : Vl) : Vl × Int := if op = 6 then sameV a b else if op = 7 then lessV a b else if op = 12 ∨ op = 13 then bothV op a b else reckV op a b
def callOf (op : Int) : List Vl → Vl × Int
  | [a] => notV a
  | [a, b] => callTwo op a b
  | _ => (noneV, 1)
/-- P6.2. -/
def callV (op : Int) (l : List Vl) : Vl × Int := if allR l = true ∧ (6 ≤ op ∧ op ≤ 13) ∧ l.length = needs op then callOf op l else (noneV, 1)

theorem allR_iff {l : List Vl} : allR l = true ↔ ∀ v ∈ l, v.right := by simp [allR]
theorem call_bad {op : Int} {l : List Vl} (h : allR l = false) : callV op l = (noneV, 1) := if_neg fun hh => by rw [h] at hh; cases hh.1
theorem call_op {op : Int} {l : List Vl} (h : ¬ (6 ≤ op ∧ op ≤ 13)) : callV op l = (noneV, 1) := if_neg fun hh => h hh.2.1
theorem call_len {op : Int} {l : List Vl} (h : l.length ≠ needs op) : callV op l = (noneV, 1) := if_neg fun hh => h hh.2.2
theorem call_ok {op : Int} {l : List Vl} (h1 : allR l = true) (h2 : 6 ≤ op ∧ op ≤ 13) (h3 : l.length = needs op) : callV op l = callOf op l := if_pos ⟨h1, h2, h3⟩
theorem truth_n {v : Vl} (h : v.right) (hk : v.k = 1) : v.n = 0 ∨ v.n = 1 := by
  have := rv1 (n := v.n) (l := v.l)
  unfold Vl.right at h
  rw [hk] at h
  exact (this.1 h).2

def sumL : List Vl → Int
  | [] => 0
  | v :: r => v.n + sumL r
theorem sumL_app (l m : List Vl) : sumL (l ++ m) = sumL l + sumL m := by
  induction l with
  | nil => simp [sumL]
  | cons v r ih => simp [sumL, ih]; omega
def kindsB (l : List Vl) : Bool := l.all fun v => decide (v.k = 1)
/-- What judge makes of any values. -/
def judgeL (op : Int) (l : List Vl) : Vl × Int :=
  if kindsB l = true then (truthV (if op = 11 then decide (sumL l = 0) else if op = 12 then decide (sumL l = (l.length : Int)) else decide (0 < sumL l)), 0) else (noneV, 2)
theorem judge_one {a : Vl} (ha : a.right) : judgeL 11 [a] = notV a := by
  unfold judgeL notV
  simp [kindsB, sumL]
theorem judge_two {op : Int} {a b : Vl} (h : op = 12 ∨ op = 13) (ha : a.right) (hb : b.right) : judgeL op [a, b] = bothV op a b := by
  unfold judgeL bothV
  by_cases h1 : a.k = 1
  · by_cases h2 : b.k = 1
    · have na := truth_n ha h1
      have nb := truth_n hb h2
      have hk : kindsB [a, b] = true := by simp [kindsB, h1, h2]
      rw [if_pos hk, if_pos (show a.k = 1 ∧ b.k = 1 from ⟨h1, h2⟩)]
      rcases h with rfl | rfl <;> rcases na with e | e <;> rcases nb with f | f <;> simp [sumL, e, f]
    · simp [kindsB, h2]
  · simp [kindsB, h1]
def RightTo (l : List Vl) (k : Nat) : Prop := ∀ j x, l[j]? = some x → j < k → x.right
theorem RightTo.step {l : List Vl} {x : Vl} {k : Nat} (h : RightTo l k) (hx : l[k]? = some x) (hr : x.right) : RightTo l (k + 1) := fun j y hy hj => by
  by_cases e : j = k
  · subst e
    obtain rfl := Option.some.inj (hx.symm.trans hy)
    exact hr
  · exact h j y hy (by omega)
theorem RightTo.all {l : List Vl} {n : Nat} (h : RightTo l n) (hn : l.length = n) : allR l = true := allR_iff.2 fun x hx => by
  obtain ⟨j, hj, e⟩ := List.getElem_of_mem hx
  exact h j x (by rw [List.getElem?_eq_getElem hj, e]) (by omega)
theorem allR_bad {l : List Vl} {x : Vl} {k : Nat} (hx : l[k]? = some x) (h : ¬ x.right) : allR l = false := by
  rw [← Bool.not_eq_true, allR_iff]
  exact fun hh => h (hh x (List.mem_of_getElem? hx))
def KindTo (l : List Vl) (k : Nat) (m : Int) : Prop := kindsB (l.take k) = true ∧ sumL (l.take k) = m ∧ 0 ≤ m ∧ m ≤ (k : Int)
theorem take_more {l : List Vl} {x : Vl} {k : Nat} (hx : l[k]? = some x) : l.take (k + 1) = l.take k ++ [x] := by
  obtain ⟨hk, e⟩ := List.getElem?_eq_some_iff.1 hx
  rw [List.take_succ_eq_append_getElem hk, e]
theorem KindTo.step {l : List Vl} {x : Vl} {k : Nat} {m : Int} (h : KindTo l k m) (hx : l[k]? = some x) (hr : x.right) (hk : x.k = 1) : KindTo l (k + 1) (m + x.n) := by
  obtain ⟨h1, h2, h3, h4⟩ := h
  have hn := truth_n hr hk
  refine ⟨?_, ?_, by omega, by omega⟩
  · rw [take_more hx]
    unfold kindsB at h1 ⊢
    rw [List.all_append, h1]
    simp [hk]
  · rw [take_more hx, sumL_app, h2]
    simp [sumL]
theorem kinds_bad {l : List Vl} {x : Vl} {k : Nat} (hx : l[k]? = some x) (h : ¬ x.k = 1) : kindsB l = false := by
  unfold kindsB
  rw [List.all_eq_false]
  exact ⟨x, List.mem_of_getElem? hx, by simpa using h⟩
theorem judge_bad {op : Int} {l : List Vl} (h : kindsB l = false) : judgeL op l = (noneV, 2) := if_neg (by rw [h]; simp)
theorem judge_ok {op m : Int} {l : List Vl} {n : Nat} (h : KindTo l n m) (hn : l.length = n) : judgeL op l = (truthV (if op = 11 then decide (m = 0) else if op = 12 then decide (m = (n : Int)) else decide (0 < m)), 0) := by
  obtain ⟨h1, h2, _, _⟩ := h
  rw [List.take_of_length_le (by omega)] at h1 h2
  unfold judgeL
  rw [if_pos h1, h2, hn]
end Go.Proofs.Ytjcegpakacedoaa
