/- Expressions behind each other: what they leave; rows of nodes put together. -/
import Derived.Test.YtacfmabflmjalaaPolApp
import Derived.Test.YtacfmabflmjalaaPolExpr
namespace Go.Proofs.Ytacfmabflmjalaa
set_option linter.unusedVariables false
open Go.RowKit

theorem popX_frame (op : Int) (s s' t : List Bool) (h : popX op s = some s') : popX op (s ++ t) = some (s' ++ t) := by
  rcases ops_cases op with rfl | rfl | rfl | rfl | rfl | rfl | rfl | rfl | rfl | rfl | rfl | rfl | rfl | hn
  case inr.inr.inr.inr.inr.inr.inr.inr.inr.inr.inr.inr.inr =>
    obtain ⟨h1, h2, h3, h4, h5, h6, h7, h8, h9, h10, h11, h12, h13⟩ := hn
    simp [popX, h1, h2, h3, h4, h5, h6, h7, h8, h9, h10, h11, h12, h13] at h
  all_goals
    rcases s with _ | ⟨_ | _, _ | ⟨_ | _, s⟩⟩ <;> simp [popX] at h ⊢ <;> (subst h; rfl)
theorem runX_frame : ∀ (l : List Nod) (s s' t : List Bool), runX l s = some s' → runX l (s ++ t) = some (s' ++ t)
  | [], s, s', t, h => by simp [runX] at h ⊢; rw [h]
  | x :: l, s, s', t, h => by
    simp only [runX] at h ⊢
    unfold stepX at h ⊢
    by_cases hh : holdsB x = true
    · rw [if_pos hh] at h ⊢
      cases hp : popX x.op s with
      | none => rw [hp] at h; cases h
      | some u =>
        rw [hp] at h
        rw [popX_frame _ _ _ t hp]
        exact runX_frame l u s' t h
    · rw [if_neg hh] at h; cases h
theorem exprE_ok {l : List Nod} (h : exprE l = 0) (hn : l ≠ []) : l.length ≤ 32 ∧ runX l [] = some [false] := by
  unfold exprE at h
  split at h
  · cases h
  · refine ⟨by omega, ?_⟩
    split at h
    · cases h
    · rename_i st hst
      split at h
      · rename_i hc
        rcases hc with hc | hc
        · exact absurd hc hn
        · rw [hst, hc]
      · cases h
def opN (f : Int) : Nod := ⟨f, zeroV, zeroA⟩
theorem holds_opN {f : Int} (h1 : f ≠ 1) (h2 : f ≠ 2) : holdsB (opN f) = true := by simp [holdsB, opN, h1, h2]
theorem expr_both {a b : List Nod} {f : Int} (ha : exprE a = 0) (hb : exprE b = 0) (na : a ≠ []) (nb : b ≠ []) (hf : 6 ≤ f ∧ f ≤ 9) : exprE (a ++ b ++ [opN f]) = if 32 < a.length + b.length + 1 then 6 else 0 := by
  obtain ⟨_, ra⟩ := exprE_ok ha na
  obtain ⟨_, rb⟩ := exprE_ok hb nb
  have r1 : runX (a ++ b) [] = some [false, false] := by
    rw [runX_app, ra]
    exact runX_frame b [] [false] [false] rb
  have hp : popX f [false, false] = some [false] := by
    have h1 : ¬ f = 1 := by omega
    have h2 : ¬ f = 2 := by omega
    have h3 : ¬ (f = 3 ∨ f = 4) := by omega
    have h5 : ¬ f = 5 := by omega
    have h11 : ¬ f = 11 := by omega
    have h6 : f = 6 ∨ f = 7 ∨ f = 8 ∨ f = 9 ∨ f = 10 ∨ f = 12 ∨ f = 13 := by omega
    simp only [popX, h1, h2, h3, h5, h11, h6, if_true, if_false]
  have r2 : runX (a ++ b ++ [opN f]) [] = some [false] := by
    rw [runX_app, r1]
    simp only [runX, stepX, holds_opN (show f ≠ 1 by omega) (show f ≠ 2 by omega), if_true]
    show (match popX f [false, false] with | some st' => some st' | none => none) = some [false]
    rw [hp]
  unfold exprE
  rw [r2, show (a ++ b ++ [opN f]).length = a.length + b.length + 1 by simp; omega]
  simp
theorem expr_size {a : List Nod} (ha : exprE a = 0) (na : a ≠ []) : exprE (a ++ [opN 4]) = if 32 < a.length + 1 then 6 else 1 := by
  obtain ⟨_, ra⟩ := exprE_ok ha na
  have r2 : runX (a ++ [opN 4]) [] = none := by
    rw [runX_app, ra]
    simp only [runX, stepX, holds_opN (show (4 : Int) ≠ 1 by omega) (show (4 : Int) ≠ 2 by omega), if_true]
    rfl
  unfold exprE
  rw [r2, show (a ++ [opN 4]).length = a.length + 1 by simp]
theorem opN_ok {f : Int} (h : 0 ≤ f ∧ f ≤ 100) : (opN f).ok := ⟨by unfold InI; show -9223372036854775808 ≤ f ∧ f ≤ 9223372036854775807; omega, (by decide +kernel : zeroV.ok), (by decide +kernel : zeroA.ok)⟩

/-- .. and one more node. -/
theorem nds_put {w : World} {base n c : Nat} {A : Option Addr} {l : List Nod} {f : Int} (h : w.ownsRow base 27 7 (.slice A n c) n (l.flatMap Nod.cells)) (hb : base ≤ w.heap.size) (hl : l.length = n) (hok : ∀ x ∈ l, x.ok) (hf : 0 ≤ f ∧ f ≤ 100) (hn : n < 1000000) :
    ∃ A5 c5 w5, (Builtin.append_ #[37, 37] 37 #[.slice A n c, .slice (some ⟨w.heap.size, 0, none⟩) 1 1]).run Try.prog (w.alloc (.cells #[.int .i64 f, .int .i64 0, .int .i64 0, .string ⟨#[]⟩, .int .i64 0, .string ⟨#[]⟩, .bool false] 27)) = .ok (.slice A5 (n + 1) c5) w5 ∧
      Below base w w5 ∧ Nds w5 (fun _ => True) A5 (n + 1) c5 (l ++ [opN f]) := by
  have h1 : Nds (w.alloc (.cells #[.int .i64 f, .int .i64 0, .int .i64 0, .string ⟨#[]⟩, .int .i64 0, .string ⟨#[]⟩, .bool false] 27)) (fun _ => True) (some ⟨w.heap.size, 0, none⟩) 1 1 [opN f] :=
    Nds.lit w (R := fun _ => True) [opN f] (n := 1) rfl (by omega) trivial (fun y hy => by simp at hy; subst hy; exact opN_ok hf)
  obtain ⟨A5, c5, w5, r5, o5, b5, _, _⟩ := append_nods (ty := 37) (h.alloc (.cells #[.int .i64 f, .int .i64 0, .int .i64 0, .string ⟨#[]⟩, .int .i64 0, .string ⟨#[]⟩, .bool false] 27)) h1 (by omega) (by rw [size_al]; omega)
  refine ⟨A5, c5, w5, r5, ((Below.refl _ _).alloc hb _).trans b5, ?_⟩
  exact Rw.flat_own o5 (by rw [List.length_append, hl]; rfl) (fun _ => rfl) (fun y hy => by
    rcases List.mem_append.1 hy with hy | hy
    · exact hok y hy
    · simp at hy; subst hy; exact opN_ok hf) (fun _ _ _ => trivial)
/-- append([]Node{}, a...), and one more node. -/
theorem nds_one {w : World} {R : Nat → Prop} {A0 : Option Addr} {p0 c0 : Nat} {L0 : List Nod} {f : Int} (h0 : Nds w R A0 p0 c0 L0) (h : p0 < 1000000) (hf : 0 ≤ f ∧ f ≤ 100) :
    ∃ A5 c5 w5 A6 c6 w6, (Builtin.append_ #[37, 37] 37 #[.slice (some ⟨w.heap.size, 0, none⟩) 0 0, .slice A0 p0 c0]).run Try.prog (w.alloc (.cells #[] 27)) = .ok (.slice A5 p0 c5) w5 ∧
      (Builtin.append_ #[37, 37] 37 #[.slice A5 p0 c5, .slice (some ⟨w5.heap.size, 0, none⟩) 1 1]).run Try.prog (w5.alloc (.cells #[.int .i64 f, .int .i64 0, .int .i64 0, .string ⟨#[]⟩, .int .i64 0, .string ⟨#[]⟩, .bool false] 27)) = .ok (.slice A6 (p0 + 1) c6) w6 ∧
      Below w.heap.size w w6 ∧ Nds w6 (fun _ => True) A6 (p0 + 1) c6 (L0 ++ [opN f]) := by
  have e1 : Below w.heap.size w (w.alloc (.cells #[] 27)) := (Below.refl _ _).alloc (Nat.le_refl _) _
  obtain ⟨A5, c5, w5, r5, o5, b5, _, _⟩ := append_nods (ty := 37) (xs := []) (own_none w 27 7) (h0.keep (Kept.all e1 R) (fun _ h _ => h)) (by omega) e1.size
  rw [Nat.zero_add] at r5 o5
  have e5 := e1.trans b5
  obtain ⟨A6, c6, w6, r6, b6, h6⟩ := nds_put o5 e5.size (Rw.len h0) (Rw.all h0) hf h
  exact ⟨A5, c5, w5, A6, c6, w6, r5, r6, e5.trans b6, h6⟩
end Go.Proofs.Ytacfmabflmjalaa
