/- The law PolicyRuns: chapter 8's runs. -/
import Derived.Test.YtincnopaclmppaaPolLit
import Derived.Deep.Cut
namespace Go.Proofs.Ytincnopaclmppaa
set_option linter.unusedVariables false
open Go.RowKit

def nOwner : Nod := ⟨2, ⟨0, 0, ⟨#[]⟩⟩, ⟨3, ⟨#[111, 119, 110, 101, 114]⟩, false⟩⟩
def nId : Nod := ⟨2, ⟨0, 0, ⟨#[]⟩⟩, ⟨1, ⟨#[105, 100]⟩, false⟩⟩
def nOne : Nod := ⟨3, ⟨0, 0, ⟨#[]⟩⟩, ⟨0, ⟨#[]⟩, false⟩⟩
def nEq : Nod := ⟨6, ⟨0, 0, ⟨#[]⟩⟩, ⟨0, ⟨#[]⟩, false⟩⟩
def nNum : Nod := ⟨1, ⟨2, 1, ⟨#[]⟩⟩, ⟨0, ⟨#[]⟩, false⟩⟩
def pP : Pol := .mk ⟨#[112]⟩ false 1 [] [] [] []
def pS : Pol := .mk ⟨#[115]⟩ true 4 [] [] [pP, pP] []
theorem ok_five : ∀ x ∈ [nOwner, nOne, nId, nOne, nEq], x.ok := by decide +kernel
theorem ok_three : ∀ x ∈ [nOwner, nNum, nEq], x.ok := by decide +kernel
theorem e_five : exprE [nOwner, nOne, nId, nOne, nEq] = 0 := by decide +kernel
theorem e_three : exprE [nOwner, nNum, nEq] = 1 := by decide +kernel
theorem e_pP : rightE pP = 0 := by decide +kernel
theorem e_pS : rightE pS = 1 := by decide +kernel

theorem in_pP (w : World) (R : Nat → Prop) : PolIn w R pP none 0 0 none 0 0 none 0 0 none 0 0 :=
  ⟨⟨by decide +kernel, by decide +kernel⟩, Rw.nil_ _ _ _ _, Rw.nil_ _ _ _ _, ⟨1, Rw.nil_ _ _ _ _⟩, Rw.nil_ _ _ _ _⟩
def pPcells : List Value := [.string ⟨#[112]⟩, .bool false, .int .i64 1, .slice none 0 0, .slice none 0 0, .slice none 0 0, .slice none 0 0]
theorem at_pP (w : World) (R : Nat → Prop) : PolAt w R 1 pPcells pP :=
  ⟨none, 0, 0, none, 0, 0, none, 0, 0, none, 0, 0, rfl, by decide +kernel, by decide +kernel, Rw.nil_ _ _ _ _, Rw.nil_ _ _ _ _, Rw.nil_ _ _ _ _, Rw.nil_ _ _ _ _⟩
theorem in_pS {w : World} {R : Nat → Prop} {A : Option Addr} (h : Pls w R 1 A 2 2 [pP, pP]) : PolIn w R pS none 0 0 none 0 0 A 2 2 none 0 0 :=
  ⟨⟨by decide +kernel, by decide +kernel⟩, Rw.nil_ _ _ _ _, Rw.nil_ _ _ _ _, ⟨1, h⟩, Rw.nil_ _ _ _ _⟩

/-- The runs' variables. -/
structure RunsAt (W : World) (b : Nat) : Prop where
  o0 : Ob W (b) 72 #[.int .i64 2, .int .i64 0, .int .i64 0, .string ⟨#[]⟩, .int .i64 3, .string ⟨#[111, 119, 110, 101, 114]⟩, .bool false]
  o1 : Ob W (b + 1) 72 #[.int .i64 2, .int .i64 0, .int .i64 0, .string ⟨#[]⟩, .int .i64 1, .string ⟨#[105, 100]⟩, .bool false]
  o2 : Ob W (b + 1 + 1) 72 #[.int .i64 3, .int .i64 0, .int .i64 0, .string ⟨#[]⟩, .int .i64 0, .string ⟨#[]⟩, .bool false]
  o3 : Ob W (b + 1 + 1 + 1) 72 #[.int .i64 6, .int .i64 0, .int .i64 0, .string ⟨#[]⟩, .int .i64 0, .string ⟨#[]⟩, .bool false]
  o4 : Ob W (b + 1 + 1 + 1 + 1) 72 #[.int .i64 1, .int .i64 2, .int .i64 1, .string ⟨#[]⟩, .int .i64 0, .string ⟨#[]⟩, .bool false]
  o5 : Ob W (b + 1 + 1 + 1 + 1 + 1) 31 #[.string ⟨#[112]⟩, .bool false, .int .i64 1, .slice none 0 0, .slice none 0 0, .slice none 0 0, .slice none 0 0]
  kids : Pls W (fun _ => True) 1 (some ⟨b + 1 + 1 + 1 + 1 + 1 + 1, 0, none⟩) 2 2 [pP, pP]
  o7 : Ob W (b + 1 + 1 + 1 + 1 + 1 + 1 + 1) 31 #[.string ⟨#[115]⟩, .bool true, .int .i64 4, .slice none 0 0, .slice none 0 0, .slice (some ⟨b + 1 + 1 + 1 + 1 + 1 + 1, 0, none⟩) 2 2, .slice none 0 0]
theorem RunsAt.then_ {W W' : World} {b : Nat} (h : RunsAt W b) (hb : Below W.heap.size W W') : RunsAt W' b :=
  ⟨h.o0.below hb h.o0.lt, h.o1.below hb h.o1.lt, h.o2.below hb h.o2.lt, h.o3.below hb h.o3.lt, h.o4.below hb h.o4.lt, h.o5.below hb h.o5.lt, h.kids.keep (Kept.all hb _) (fun _ h _ => h), h.o7.below hb h.o7.lt⟩
theorem made_then {w W : World} {t : TypeId} {cs : Array Value} {g : Nat} (hb : Below (w.alloc (.cells cs t)).heap.size (w.alloc (.cells cs t)) W) (hg : g = w.heap.size) : Ob W g t cs := by
  subst hg
  exact Ob.below (Ob.made _ _ _) hb (by simp)
theorem al (w : World) (o : Obj) : Below w.heap.size w (w.alloc o) := (Below.refl _ _).alloc (Nat.le_refl _) _
theorem runs_at (w : World) : RunsAt ((((((((w.alloc (.cells #[.int .i64 2, .int .i64 0, .int .i64 0, .string ⟨#[]⟩, .int .i64 3, .string ⟨#[111, 119, 110, 101, 114]⟩, .bool false] 72)).alloc (.cells #[.int .i64 2, .int .i64 0, .int .i64 0, .string ⟨#[]⟩, .int .i64 1, .string ⟨#[105, 100]⟩, .bool false] 72)).alloc (.cells #[.int .i64 3, .int .i64 0, .int .i64 0, .string ⟨#[]⟩, .int .i64 0, .string ⟨#[]⟩, .bool false] 72)).alloc (.cells #[.int .i64 6, .int .i64 0, .int .i64 0, .string ⟨#[]⟩, .int .i64 0, .string ⟨#[]⟩, .bool false] 72)).alloc (.cells #[.int .i64 1, .int .i64 2, .int .i64 1, .string ⟨#[]⟩, .int .i64 0, .string ⟨#[]⟩, .bool false] 72)).alloc (.cells #[.string ⟨#[112]⟩, .bool false, .int .i64 1, .slice none 0 0, .slice none 0 0, .slice none 0 0, .slice none 0 0] 31)).alloc (.cells #[.string ⟨#[112]⟩, .bool false, .int .i64 1, .slice none 0 0, .slice none 0 0, .slice none 0 0, .slice none 0 0, .string ⟨#[112]⟩, .bool false, .int .i64 1, .slice none 0 0, .slice none 0 0, .slice none 0 0, .slice none 0 0] 31)).alloc (.cells #[.string ⟨#[115]⟩, .bool true, .int .i64 4, .slice none 0 0, .slice none 0 0, .slice (some ⟨w.heap.size + 1 + 1 + 1 + 1 + 1 + 1, 0, none⟩) 2 2, .slice none 0 0] 31)) w.heap.size ∧ Below w.heap.size w ((((((((w.alloc (.cells #[.int .i64 2, .int .i64 0, .int .i64 0, .string ⟨#[]⟩, .int .i64 3, .string ⟨#[111, 119, 110, 101, 114]⟩, .bool false] 72)).alloc (.cells #[.int .i64 2, .int .i64 0, .int .i64 0, .string ⟨#[]⟩, .int .i64 1, .string ⟨#[105, 100]⟩, .bool false] 72)).alloc (.cells #[.int .i64 3, .int .i64 0, .int .i64 0, .string ⟨#[]⟩, .int .i64 0, .string ⟨#[]⟩, .bool false] 72)).alloc (.cells #[.int .i64 6, .int .i64 0, .int .i64 0, .string ⟨#[]⟩, .int .i64 0, .string ⟨#[]⟩, .bool false] 72)).alloc (.cells #[.int .i64 1, .int .i64 2, .int .i64 1, .string ⟨#[]⟩, .int .i64 0, .string ⟨#[]⟩, .bool false] 72)).alloc (.cells #[.string ⟨#[112]⟩, .bool false, .int .i64 1, .slice none 0 0, .slice none 0 0, .slice none 0 0, .slice none 0 0] 31)).alloc (.cells #[.string ⟨#[112]⟩, .bool false, .int .i64 1, .slice none 0 0, .slice none 0 0, .slice none 0 0, .slice none 0 0, .string ⟨#[112]⟩, .bool false, .int .i64 1, .slice none 0 0, .slice none 0 0, .slice none 0 0, .slice none 0 0] 31)).alloc (.cells #[.string ⟨#[115]⟩, .bool true, .int .i64 4, .slice none 0 0, .slice none 0 0, .slice (some ⟨w.heap.size + 1 + 1 + 1 + 1 + 1 + 1, 0, none⟩) 2 2, .slice none 0 0] 31)) := by
  obtain ⟨w1, h1⟩ : ∃ x, x = w.alloc (.cells #[.int .i64 2, .int .i64 0, .int .i64 0, .string ⟨#[]⟩, .int .i64 3, .string ⟨#[111, 119, 110, 101, 114]⟩, .bool false] 72) := ⟨_, rfl⟩
  rw [← h1]
  obtain ⟨w2, h2⟩ : ∃ x, x = w1.alloc (.cells #[.int .i64 2, .int .i64 0, .int .i64 0, .string ⟨#[]⟩, .int .i64 1, .string ⟨#[105, 100]⟩, .bool false] 72) := ⟨_, rfl⟩
  rw [← h2]
  obtain ⟨w3, h3⟩ : ∃ x, x = w2.alloc (.cells #[.int .i64 3, .int .i64 0, .int .i64 0, .string ⟨#[]⟩, .int .i64 0, .string ⟨#[]⟩, .bool false] 72) := ⟨_, rfl⟩
  rw [← h3]
  obtain ⟨w4, h4⟩ : ∃ x, x = w3.alloc (.cells #[.int .i64 6, .int .i64 0, .int .i64 0, .string ⟨#[]⟩, .int .i64 0, .string ⟨#[]⟩, .bool false] 72) := ⟨_, rfl⟩
  rw [← h4]
  obtain ⟨w5, h5⟩ : ∃ x, x = w4.alloc (.cells #[.int .i64 1, .int .i64 2, .int .i64 1, .string ⟨#[]⟩, .int .i64 0, .string ⟨#[]⟩, .bool false] 72) := ⟨_, rfl⟩
  rw [← h5]
  obtain ⟨w6, h6⟩ : ∃ x, x = w5.alloc (.cells #[.string ⟨#[112]⟩, .bool false, .int .i64 1, .slice none 0 0, .slice none 0 0, .slice none 0 0, .slice none 0 0] 31) := ⟨_, rfl⟩
  rw [← h6]
  obtain ⟨w7, h7⟩ : ∃ x, x = w6.alloc (.cells #[.string ⟨#[112]⟩, .bool false, .int .i64 1, .slice none 0 0, .slice none 0 0, .slice none 0 0, .slice none 0 0, .string ⟨#[112]⟩, .bool false, .int .i64 1, .slice none 0 0, .slice none 0 0, .slice none 0 0, .slice none 0 0] 31) := ⟨_, rfl⟩
  rw [← h7]
  obtain ⟨w8, h8⟩ : ∃ x, x = w7.alloc (.cells #[.string ⟨#[115]⟩, .bool true, .int .i64 4, .slice none 0 0, .slice none 0 0, .slice (some ⟨w.heap.size + 1 + 1 + 1 + 1 + 1 + 1, 0, none⟩) 2 2, .slice none 0 0] 31) := ⟨_, rfl⟩
  rw [← h8]
  have b1 : Below w.heap.size w w1 := h1 ▸ al _ _
  have s1 : w1.heap.size = w.heap.size + 1 := by rw [h1]; exact size_al _ _
  have b2 : Below w1.heap.size w1 w2 := h2 ▸ al _ _
  have s2 : w2.heap.size = w1.heap.size + 1 := by rw [h2]; exact size_al _ _
  have b3 : Below w2.heap.size w2 w3 := h3 ▸ al _ _
  have s3 : w3.heap.size = w2.heap.size + 1 := by rw [h3]; exact size_al _ _
  have b4 : Below w3.heap.size w3 w4 := h4 ▸ al _ _
  have s4 : w4.heap.size = w3.heap.size + 1 := by rw [h4]; exact size_al _ _
  have b5 : Below w4.heap.size w4 w5 := h5 ▸ al _ _
  have s5 : w5.heap.size = w4.heap.size + 1 := by rw [h5]; exact size_al _ _
  have b6 : Below w5.heap.size w5 w6 := h6 ▸ al _ _
  have s6 : w6.heap.size = w5.heap.size + 1 := by rw [h6]; exact size_al _ _
  have b7 : Below w6.heap.size w6 w7 := h7 ▸ al _ _
  have s7 : w7.heap.size = w6.heap.size + 1 := by rw [h7]; exact size_al _ _
  have b8 : Below w7.heap.size w7 w8 := h8 ▸ al _ _
  have s8 : w8.heap.size = w7.heap.size + 1 := by rw [h8]; exact size_al _ _
  have e8 : Below w8.heap.size w8 w8 := Below.refl _ _
  have e7 : Below w7.heap.size w7 w8 := below_step b8 e8
  have e6 : Below w6.heap.size w6 w8 := below_step b7 e7
  have e5 : Below w5.heap.size w5 w8 := below_step b6 e6
  have e4 : Below w4.heap.size w4 w8 := below_step b5 e5
  have e3 : Below w3.heap.size w3 w8 := below_step b4 e4
  have e2 : Below w2.heap.size w2 w8 := below_step b3 e3
  have e1 : Below w1.heap.size w1 w8 := below_step b2 e2
  have e0 : Below w.heap.size w w8 := below_step b1 e1
  have k6 : Pls w8 (fun _ => True) 1 (some ⟨w6.heap.size, 0, none⟩) 2 2 [pP, pP] := (Rw.keep (k := 7) (P := PolAt w7 (fun _ => True) 1) (h7 ▸ (Rw.lit w6 _ (fun _ => pPcells) [pP, pP] rfl (by omega) trivial (fun _ _ => rfl) (fun x hx => by simp at hx; subst hx; exact at_pP _ _) : Rw 7 (PolAt (w6.alloc (.cells #[.string ⟨#[112]⟩, .bool false, .int .i64 1, .slice none 0 0, .slice none 0 0, .slice none 0 0, .slice none 0 0, .string ⟨#[112]⟩, .bool false, .int .i64 1, .slice none 0 0, .slice none 0 0, .slice none 0 0, .slice none 0 0] 31)) (fun _ => True) 1) _ (fun _ => True) _ 2 2 [pP, pP])) (Kept.all e7 _) (fun _ h _ => h) (fun _ _ _ h => PolAt.keep (Kept.all e7 _) (fun _ h _ => h) h))
  rw [show w6.heap.size = w.heap.size + 1 + 1 + 1 + 1 + 1 + 1 by omega] at k6
  exact ⟨⟨made_then (w := w) (h1 ▸ e1) (by omega), made_then (w := w1) (h2 ▸ e2) (by omega), made_then (w := w2) (h3 ▸ e3) (by omega), made_then (w := w3) (h4 ▸ e4) (by omega), made_then (w := w4) (h5 ▸ e5) (by omega), made_then (w := w5) (h6 ▸ e6) (by omega), k6, made_then (w := w7) (h8 ▸ e8) (by omega)⟩, e0⟩

set_option maxRecDepth 100000 in
set_option maxHeartbeats 3200000 in
theorem pruns_any (w : World) : Calls Try.prog 12 #[] w fun e w' => e = .returned (.bool true) ∧ Below w.heap.size w w' := by
  go_enter Try.func12, Try.ntmps12
  go_upto_region 7 with fail
  have RA := Lib.hid (runs_at w).1
  have DA := Lib.hid (runs_at w).2
  generalize ((((((((w.alloc (.cells #[.int .i64 2, .int .i64 0, .int .i64 0, .string ⟨#[]⟩, .int .i64 3, .string ⟨#[111, 119, 110, 101, 114]⟩, .bool false] 72)).alloc (.cells #[.int .i64 2, .int .i64 0, .int .i64 0, .string ⟨#[]⟩, .int .i64 1, .string ⟨#[105, 100]⟩, .bool false] 72)).alloc (.cells #[.int .i64 3, .int .i64 0, .int .i64 0, .string ⟨#[]⟩, .int .i64 0, .string ⟨#[]⟩, .bool false] 72)).alloc (.cells #[.int .i64 6, .int .i64 0, .int .i64 0, .string ⟨#[]⟩, .int .i64 0, .string ⟨#[]⟩, .bool false] 72)).alloc (.cells #[.int .i64 1, .int .i64 2, .int .i64 1, .string ⟨#[]⟩, .int .i64 0, .string ⟨#[]⟩, .bool false] 72)).alloc (.cells #[.string ⟨#[112]⟩, .bool false, .int .i64 1, .slice none 0 0, .slice none 0 0, .slice none 0 0, .slice none 0 0] 31)).alloc (.cells #[.string ⟨#[112]⟩, .bool false, .int .i64 1, .slice none 0 0, .slice none 0 0, .slice none 0 0, .slice none 0 0, .string ⟨#[112]⟩, .bool false, .int .i64 1, .slice none 0 0, .slice none 0 0, .slice none 0 0, .slice none 0 0] 31)).alloc (.cells #[.string ⟨#[115]⟩, .bool true, .int .i64 4, .slice none 0 0, .slice none 0 0, .slice (some ⟨w.heap.size + 1 + 1 + 1 + 1 + 1 + 1, 0, none⟩) 2 2, .slice none 0 0] 31)) = W at *
  have C1 : Hid (Calls Try.prog 27 #[.slice (some ⟨W.heap.size, 0, none⟩) 5 5] (W.alloc (.cells #[.int .i64 2, .int .i64 0, .int .i64 0, .string ⟨#[]⟩, .int .i64 3, .string ⟨#[111, 119, 110, 101, 114]⟩, .bool false, .int .i64 3, .int .i64 0, .int .i64 0, .string ⟨#[]⟩, .int .i64 0, .string ⟨#[]⟩, .bool false, .int .i64 2, .int .i64 0, .int .i64 0, .string ⟨#[]⟩, .int .i64 1, .string ⟨#[105, 100]⟩, .bool false, .int .i64 3, .int .i64 0, .int .i64 0, .string ⟨#[]⟩, .int .i64 0, .string ⟨#[]⟩, .bool false, .int .i64 6, .int .i64 0, .int .i64 0, .string ⟨#[]⟩, .int .i64 0, .string ⟨#[]⟩, .bool false] 72)) fun e w' => e = .returned (.int .i64 0) ∧ Below (W.alloc (.cells #[.int .i64 2, .int .i64 0, .int .i64 0, .string ⟨#[]⟩, .int .i64 3, .string ⟨#[111, 119, 110, 101, 114]⟩, .bool false, .int .i64 3, .int .i64 0, .int .i64 0, .string ⟨#[]⟩, .int .i64 0, .string ⟨#[]⟩, .bool false, .int .i64 2, .int .i64 0, .int .i64 0, .string ⟨#[]⟩, .int .i64 1, .string ⟨#[105, 100]⟩, .bool false, .int .i64 3, .int .i64 0, .int .i64 0, .string ⟨#[]⟩, .int .i64 0, .string ⟨#[]⟩, .bool false, .int .i64 6, .int .i64 0, .int .i64 0, .string ⟨#[]⟩, .int .i64 0, .string ⟨#[]⟩, .bool false] 72)).heap.size (W.alloc (.cells #[.int .i64 2, .int .i64 0, .int .i64 0, .string ⟨#[]⟩, .int .i64 3, .string ⟨#[111, 119, 110, 101, 114]⟩, .bool false, .int .i64 3, .int .i64 0, .int .i64 0, .string ⟨#[]⟩, .int .i64 0, .string ⟨#[]⟩, .bool false, .int .i64 2, .int .i64 0, .int .i64 0, .string ⟨#[]⟩, .int .i64 1, .string ⟨#[105, 100]⟩, .bool false, .int .i64 3, .int .i64 0, .int .i64 0, .string ⟨#[]⟩, .int .i64 0, .string ⟨#[]⟩, .bool false, .int .i64 6, .int .i64 0, .int .i64 0, .string ⟨#[]⟩, .int .i64 0, .string ⟨#[]⟩, .bool false] 72)) w') := by
    have := expr_any _ (Nds.lit W (R := fun _ => True) [nOwner, nOne, nId, nOne, nEq] (n := 5) rfl (by omega) trivial ok_five)
    rw [e_five] at this
    exact this
  have C2 : Hid (∀ V : World, Calls Try.prog 27 #[.slice (some ⟨V.heap.size, 0, none⟩) 3 3] (V.alloc (.cells #[.int .i64 2, .int .i64 0, .int .i64 0, .string ⟨#[]⟩, .int .i64 3, .string ⟨#[111, 119, 110, 101, 114]⟩, .bool false, .int .i64 1, .int .i64 2, .int .i64 1, .string ⟨#[]⟩, .int .i64 0, .string ⟨#[]⟩, .bool false, .int .i64 6, .int .i64 0, .int .i64 0, .string ⟨#[]⟩, .int .i64 0, .string ⟨#[]⟩, .bool false] 72)) fun e w' => e = .returned (.int .i64 1) ∧ Below (V.alloc (.cells #[.int .i64 2, .int .i64 0, .int .i64 0, .string ⟨#[]⟩, .int .i64 3, .string ⟨#[111, 119, 110, 101, 114]⟩, .bool false, .int .i64 1, .int .i64 2, .int .i64 1, .string ⟨#[]⟩, .int .i64 0, .string ⟨#[]⟩, .bool false, .int .i64 6, .int .i64 0, .int .i64 0, .string ⟨#[]⟩, .int .i64 0, .string ⟨#[]⟩, .bool false] 72)).heap.size (V.alloc (.cells #[.int .i64 2, .int .i64 0, .int .i64 0, .string ⟨#[]⟩, .int .i64 3, .string ⟨#[111, 119, 110, 101, 114]⟩, .bool false, .int .i64 1, .int .i64 2, .int .i64 1, .string ⟨#[]⟩, .int .i64 0, .string ⟨#[]⟩, .bool false, .int .i64 6, .int .i64 0, .int .i64 0, .string ⟨#[]⟩, .int .i64 0, .string ⟨#[]⟩, .bool false] 72)) w') := fun V => by
    have := expr_any _ (Nds.lit V (R := fun _ => True) [nOwner, nNum, nEq] (n := 3) rfl (by omega) trivial ok_three)
    rw [e_three] at this
    exact this
  have C3 : Hid (∀ V : World, Calls Try.prog 27 #[.slice none 0 0] V fun e w' => e = .returned (.int .i64 0) ∧ Below V.heap.size V w') := fun V => expr_any (R := fun _ => True) V (Rw.nil_ _ _ _ _)
  have C4 : Hid (∀ V : World, Calls Try.prog 11 #[.agg #[.string ⟨#[112]⟩, .bool false, .int .i64 1, .slice none 0 0, .slice none 0 0, .slice none 0 0, .slice none 0 0]] V fun e w' => e = .returned (.int .i64 0) ∧ Below V.heap.size V w') := fun V => by
    have := right_pol (in_pP V (fun _ => True))
    rw [e_pP] at this
    exact this
  have C5 : Hid (∀ V : World, RunsAt V w.heap.size → Calls Try.prog 11 #[.agg #[.string ⟨#[115]⟩, .bool true, .int .i64 4, .slice none 0 0, .slice none 0 0, .slice (some ⟨w.heap.size + 1 + 1 + 1 + 1 + 1 + 1, 0, none⟩) 2 2, .slice none 0 0]] V fun e w' => e = .returned (.int .i64 1) ∧ Below V.heap.size V w') := fun V hV => by
    have := right_pol (in_pS hV.kids)
    rw [e_pS] at this
    exact this
  have co00 := RA.out.o0.cell 0; have co01 := RA.out.o0.cell 1; have co02 := RA.out.o0.cell 2; have co03 := RA.out.o0.cell 3; have co04 := RA.out.o0.cell 4; have co05 := RA.out.o0.cell 5; have co06 := RA.out.o0.cell 6
  have co20 := RA.out.o2.cell 0; have co21 := RA.out.o2.cell 1; have co22 := RA.out.o2.cell 2; have co23 := RA.out.o2.cell 3; have co24 := RA.out.o2.cell 4; have co25 := RA.out.o2.cell 5; have co26 := RA.out.o2.cell 6
  have co10 := RA.out.o1.cell 0; have co11 := RA.out.o1.cell 1; have co12 := RA.out.o1.cell 2; have co13 := RA.out.o1.cell 3; have co14 := RA.out.o1.cell 4; have co15 := RA.out.o1.cell 5; have co16 := RA.out.o1.cell 6
  have co30 := RA.out.o3.cell 0; have co31 := RA.out.o3.cell 1; have co32 := RA.out.o3.cell 2; have co33 := RA.out.o3.cell 3; have co34 := RA.out.o3.cell 4; have co35 := RA.out.o3.cell 5; have co36 := RA.out.o3.cell 6
  go_wp2_with (first
    | (go_at_call 27; with_reducible refine C1.out.mono ?_; rintro e w1 ⟨rfl, hb1⟩; have B1 := Lib.hid (Below.lit hb1); have RB := Lib.hid (RA.out.then_ B1.out); clear hb1 co00 co01 co02 co03 co04 co05 co06 co20 co21 co22 co23 co24 co25 co26 co10 co11 co12 co13 co14 co15 co16 co30 co31 co32 co33 co34 co35 co36; have co00 := RB.out.o0.cell 0; have co01 := RB.out.o0.cell 1; have co02 := RB.out.o0.cell 2; have co03 := RB.out.o0.cell 3; have co04 := RB.out.o0.cell 4; have co05 := RB.out.o0.cell 5; have co06 := RB.out.o0.cell 6; have co40 := RB.out.o4.cell 0; have co41 := RB.out.o4.cell 1; have co42 := RB.out.o4.cell 2; have co43 := RB.out.o4.cell 3; have co44 := RB.out.o4.cell 4; have co45 := RB.out.o4.cell 5; have co46 := RB.out.o4.cell 6; have co30 := RB.out.o3.cell 0; have co31 := RB.out.o3.cell 1; have co32 := RB.out.o3.cell 2; have co33 := RB.out.o3.cell 3; have co34 := RB.out.o3.cell 4; have co35 := RB.out.o3.cell 5; have co36 := RB.out.o3.cell 6)
    | (go_at_call 27; with_reducible refine (C2.out _).mono ?_; rintro e w2 ⟨rfl, hb2⟩; have B2 := Lib.hid (Below.lit hb2); have RC := Lib.hid (RB.out.then_ B2.out); clear hb2 co00 co01 co02 co03 co04 co05 co06 co40 co41 co42 co43 co44 co45 co46 co30 co31 co32 co33 co34 co35 co36)
    | (go_at_call 27; with_reducible refine (C3.out _).mono ?_; rintro e w3 ⟨rfl, hb3⟩; have B3 := Lib.hid hb3; have RD := Lib.hid (RC.out.then_ B3.out); clear hb3; have co50 := RD.out.o5.cell 0; have co51 := RD.out.o5.cell 1; have co52 := RD.out.o5.cell 2; have co53 := RD.out.o5.cell 3; have co54 := RD.out.o5.cell 4; have co55 := RD.out.o5.cell 5; have co56 := RD.out.o5.cell 6)
    | (go_at_call 11; with_reducible refine (C4.out _).mono ?_; rintro e w4 ⟨rfl, hb4⟩; have B4 := Lib.hid hb4; have RE := Lib.hid (RD.out.then_ B4.out); clear hb4 co50 co51 co52 co53 co54 co55 co56; have co70 := RE.out.o7.cell 0; have co71 := RE.out.o7.cell 1; have co72 := RE.out.o7.cell 2; have co73 := RE.out.o7.cell 3; have co74 := RE.out.o7.cell 4; have co75 := RE.out.o7.cell 5; have co76 := RE.out.o7.cell 6)
    | (go_at_call 11; with_reducible refine (C5.out _ RE.out).mono ?_; rintro e w5 ⟨rfl, hb5⟩; have B5 := Lib.hid hb5; clear hb5 co70 co71 co72 co73 co74 co75 co76))
  go_ret
  exact ⟨rfl, below_step DA.out (below_step B1.out (below_step B2.out (below_step B3.out (below_step B4.out B5.out))))⟩
end Go.Proofs.Ytincnopaclmppaa
