/- What the laws of stage 6 ask of given values. -/
import Derived.Test.YtjcegpakacedoaaFunRefT
namespace Go.Proofs.Ytjcegpakacedoaa
set_option linter.unusedVariables false
open Go.RowKit Go.Sort

theorem num_right (n : Int) : (numV n).right := rv2.2 rfl
theorem truth_right (b : Bool) : (truthV b).right := rv1.2 ⟨rfl, by cases b <;> simp [truthV, truthN]⟩
theorem num_ok {n : Int} (h : In64 n) : (numV n).ok := ⟨⟨by show _ ≤ (2 : Int); omega, by show (2 : Int) ≤ _; omega⟩, h, Nat.zero_le _⟩
theorem truth_ok (b : Bool) : (truthV b).ok := ⟨⟨by show _ ≤ (1 : Int); omega, by show (1 : Int) ≤ _; omega⟩, by cases b <;> exact ⟨by decide, by decide⟩, Nat.zero_le _⟩
theorem allR_one {a : Vl} (h : a.right) : allR [a] = true := allR_iff.2 (by simpa using h)
theorem allR_two {a b : Vl} (h : a.right) (k : b.right) : allR [a, b] = true := allR_iff.2 (by simpa using ⟨h, k⟩)
theorem call_two {op : Int} {a b : Vl} (h : a.right) (k : b.right) (ho : 6 ≤ op ∧ op ≤ 13) (h11 : op ≠ 11) : callV op [a, b] = callTwo op a b := call_ok (allR_two h k) ho (if_neg h11).symm
theorem two6 (a b : Vl) : callTwo 6 a b = sameV a b := rfl
theorem two7 (a b : Vl) : callTwo 7 a b = lessV a b := rfl
theorem f_not (p : Bool) : callV 11 [truthV p] = (truthV (!p), 0) := by
  rw [call_ok (allR_one (truth_right p)) (by decide) rfl]
  cases p <;> rfl
theorem f_and (p q : Bool) : callV 12 [truthV p, truthV q] = (truthV (p && q), 0) := by
  rw [call_two (truth_right p) (truth_right q) (by decide) (by decide)]
  cases p <;> cases q <;> rfl
theorem f_or (p q : Bool) : callV 13 [truthV p, truthV q] = (truthV (p || q), 0) := by
  rw [call_two (truth_right p) (truth_right q) (by decide) (by decide)]
  cases p <;> cases q <;> rfl
theorem f_eq (m n : Int) : callV 6 [numV m, numV n] = (truthV (decide (m = n)), 0) := by
  rw [call_two (num_right m) (num_right n) (by decide) (by decide)]
  have h : veq (numV m) (numV n) = decide (m = n) := by
    rw [Bool.eq_iff_iff, veq_iff]
    simp [numV]
  rw [two6]
  unfold sameV
  rw [if_pos (show (numV m).k = (numV n).k from rfl), h]
theorem f_less (m n : Int) : callV 7 [numV m, numV n] = (truthV (decide (m < n)), 0) := by
  rw [call_two (num_right m) (num_right n) (by decide) (by decide)]
  rw [two7]
  unfold lessV
  rw [less_num (num_right m) (num_right n) rfl (by simp [numV]) rfl, if_pos rfl]
  rfl
theorem f_and_kind (p : Bool) (n : Int) : callV 12 [truthV p, numV n] = (noneV, 2) := by
  rw [call_two (truth_right p) (num_right n) (by decide) (by decide)]
  rfl
theorem f_less_kind (p q : Bool) : callV 7 [truthV p, truthV q] = (noneV, 2) := by
  rw [call_two (truth_right p) (truth_right q) (by decide) (by decide)]
  rw [two7]
  unfold lessV
  rw [less_type (truth_right p) (truth_right q) (.inr rfl), if_neg (by decide)]
theorem f_add_kind (m : Int) (q : Bool) : callV 8 [numV m, truthV q] = (noneV, 2) := by
  rw [call_two (num_right m) (truth_right q) (by decide) (by decide)]
  rfl
def two2 : Vl := ⟨3, 0, ⟨#[50]⟩⟩
theorem f_eq_kind : callV 6 [numV 2, two2] = (noneV, 2) := by
  rw [call_two (num_right 2) (show two2.right from rv3.2 ⟨rfl, by decide⟩) (by decide) (by decide)]
  rfl

theorem call_pair {w : World} {B n c : Nat} {A : Option Addr} {l : List Vl} (h : Vs w B A n c l) (hB : B ≤ w.heap.size) (hn : n ≤ 1000000) (op : Int) {k m e : Int} {s : ByteArray} (hp : callV op l = (⟨k, m, s⟩, e)) :
    Calls Try.prog 11 #[.int .i64 op, .slice A n c] w fun z w' => z = .returned (.tuple #[.agg #[.int .i64 k, .int .i64 m, .string s], .int .i64 e]) ∧ Below w.heap.size w w' := pair_is hp (call_any h hB hn op)
theorem lnum_any (n : Int) (w : World) : Calls Try.prog 12 #[.int .i64 n] w fun e w' => e = .returned (.agg #[.int .i64 2, .int .i64 n, .string ⟨#[]⟩]) ∧ Below w.heap.size w w' := by
  go_enter Try.func12, Try.ntmps12
  go_wp2_with fail
  try simp only [Exit.inBlock, Exit.then]
  refine bodyPost_ret (box_ret rfl rfl (Bx.made _ _ _ _)) rfl ?_
  exact ⟨rfl, below1 _ _⟩
theorem ltruth_any (b : Bool) (w : World) : Calls Try.prog 13 #[.bool b] w fun e w' => e = .returned (.agg #[.int .i64 1, .int .i64 (truthN b), .string ⟨#[]⟩]) ∧ Below w.heap.size w w' := by
  cases b
  all_goals
    go_enter Try.func13, Try.ntmps13
    go_wp2_with fail
    try simp only [Exit.inBlock, Exit.then]
    refine bodyPost_ret (box_ret rfl rfl (Bx.made _ _ _ _)) rfl ?_
    exact ⟨rfl, below1 _ _⟩
theorem fits_is {id : FuncId} {a b x e : Int} {p : Int × Int} {w : World} (hp : p = (x, e)) (h : Calls Try.prog id #[.int .i64 a, .int .i64 b] w fun z w' => z = .returned (.tuple #[.int .i64 p.1, .int .i64 p.2]) ∧ w = w') :
    Calls Try.prog id #[.int .i64 a, .int .i64 b] w fun z w' => z = .returned (.tuple #[.int .i64 x, .int .i64 e]) ∧ w = w' := num_is (f := 0) hp h
end Go.Proofs.Ytjcegpakacedoaa
