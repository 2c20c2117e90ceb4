/- The law EvalRules. -/
import Derived.Test.YtmoglaknmlhpgaaGreatEvalSet
import Derived.Test.YtmoglaknmlhpgaaGreatEvalRulesM
import Derived.Deep.CutRange
import Derived.Deep.CutBlock
namespace Go.Proofs.YtmoglaknmlhpgaaGreat
set_option linter.unusedVariables false
open Go.RowKit
attribute [local go_sem] eq0 feq2 eq4 fgt0 gt2 ord_eq ord_gt ord_lt ev_store

theorem ertruth_any (n : Int) (hn : InI n) (w : World) : Calls Tryz.prog 20 #[.int .i64 n] w fun e w' => ∃ B, e = .returned (.slice B 1 1) ∧ Below w.heap.size w w' ∧ Nds w' (fun b => w.heap.size ≤ b) B 1 1 [ernT n] := by
  have HN := Nds.lit w (R := fun b => w.heap.size ≤ b) [ernT n] (n := 1) rfl (by omega) (Nat.le_refl _) (fun x hx => by simp at hx; subst hx; exact ⟨(by decide : InI 1), ⟨(by decide : InI 1), hn, (by decide : (⟨#[]⟩ : ByteArray).size ≤ maxLen)⟩, ⟨(by decide : InI 0), (by decide : (⟨#[]⟩ : ByteArray).size ≤ maxLen)⟩⟩)
  have H : Hid (Nds (w.alloc (.cells #[.int .i64 1, .int .i64 1, .int .i64 n, .string ⟨#[]⟩, .int .i64 0, .string ⟨#[]⟩, .bool false] 58)) (fun b => w.heap.size ≤ b) (some ⟨w.heap.size, 0, none⟩) 1 1 [ernT n]) := HN
  clear HN
  go_enter Tryz.func20, Tryz.ntmps20
  go_wp2_with fail
  go_ret
  exact ⟨_, rfl, (Below.refl _ _).alloc (Nat.le_refl _) _, H.out⟩
def ErP (W1 wx : World) (K : Nat) (b : Bool) (c : Nat) (B : Option Addr) (m d : Nat) : Prop := Ob wx (W1.heap.size + 1) 61 #[.string ⟨#[114]⟩, .bool b, .slice none 0 0, .slice B m d, .slice (some ⟨W1.heap.size, 0, none⟩) 2 2] ∧
  Nds wx (fun x => x < K) B m d (erCond c) ∧ Dus wx (fun x => x < K) (some ⟨W1.heap.size, 0, none⟩) 2 2 [eroA, eroB] ∧ Below W1.heap.size W1 wx ∧ W1.heap.size + 2 ≤ K
section
variable {W1 wx w' : World} {K g : Nat} {b : Bool} {c : Nat} {B : Option Addr} {m d : Nat}
theorem ErP.then_ (h : ErP W1 wx K b c B m d) (hb : Below wx.heap.size wx w') : ErP W1 w' K b c B m d :=
  ⟨h.1.below hb h.1.lt, h.2.1.keep (Kept.all hb _) (fun _ h _ => h), h.2.2.1.keep (Kept.all hb _) (fun _ h _ => h), below_step h.2.2.2.1 hb, h.2.2.2.2⟩
theorem ErP.low (h : ErP W1 wx K b c B m d) (hK : W1.heap.size + 2 ≤ wx.heap.size) : ErP W1 wx wx.heap.size b c B m d :=
  ⟨h.1, h.2.1.keep (Kept.refl _ _) (fun _ _ h => h), h.2.2.1.keep (Kept.refl _ _) (fun _ _ h => h), h.2.2.2.1, hK⟩
theorem ErP.set2 (h : ErP W1 wx K b c B m d) (hg : K ≤ g) (u v : Value) : ErP W1 ((wx.setCell ⟨g, 0, none⟩ u).setCell ⟨g, 1, none⟩ v) K b c B m d := by
  have hk : Kept (fun x => x < K) wx ((wx.setCell ⟨g, 0, none⟩ u).setCell ⟨g, 1, none⟩ v) :=
    ⟨by rw [set2_size]; exact Nat.le_refl _, fun x hx _ => (Below.heap_setCell _ _ _ _ (by show x ≠ g; omega)).trans (Below.heap_setCell _ _ _ _ (by show x ≠ g; omega))⟩
  have h5 := h.2.2.2.2
  exact ⟨h.1.set2k (by omega) u v, h.2.1.keep hk (fun _ h _ => h), h.2.2.1.keep hk (fun _ h _ => h), below_set2 h.2.2.2.1 (by omega) u v, h5⟩
end
def erW3 (b : Bool) (c : Nat) : Res := if c = 2 then noRes else ⟨effM b, if b = true then [eroB] else [eroA]⟩
theorem er_c1 : erCond 1 = [ernT 1] := rfl
theorem er_c2 : erCond 2 = [ernT 0] := rfl
theorem er_c3 : erCond 3 = [ernX, ernO] := rfl
theorem er_c0 : erCond 0 = [] := rfl
theorem Ob.c5e {w : World} {g : Nat} {t : TypeId} {a b c d e : Value} (H : Ob w g t #[a, b, c, d, e]) :
    w.cell? ⟨g, 0, none⟩ = some a ∧ w.cell? ⟨g, 1, none⟩ = some b ∧ w.cell? ⟨g, 2, none⟩ = some c ∧ w.cell? ⟨g, 3, none⟩ = some d ∧ w.cell? ⟨g, 4, none⟩ = some e :=
  ⟨H.cell 0, H.cell 1, H.cell 2, H.cell 3, H.cell 4⟩
theorem er_in {W1 W8 V : World} {K c : Nat} {b : Bool} {B : Option Addr} {m d : Nat} (er : ErP W1 W8 K b c B m d) {k : Int} (hk : InI k) (hV : Below (W8.alloc (.cells #[.string ⟨#[114]⟩, .bool b, .slice none 0 0, .slice B m d, .slice (some ⟨W1.heap.size, 0, none⟩) 2 2] 61)).heap.size (W8.alloc (.cells #[.string ⟨#[114]⟩, .bool b, .slice none 0 0, .slice B m d, .slice (some ⟨W1.heap.size, 0, none⟩) 2 2] 61)) V) {t : Tgt} {A : Option Addr} {n c' : Nat} (ht : Tg V (fun _ => True) A n c' t) :
    PolIn V (fun _ => True) (erPol k t b c) A n c' (some ⟨W8.heap.size, 0, none⟩) 1 1 none 0 0 none 0 0 := by
  have a1 : Below W8.heap.size W8 (W8.alloc (.cells #[.string ⟨#[114]⟩, .bool b, .slice none 0 0, .slice B m d, .slice (some ⟨W1.heap.size, 0, none⟩) 2 2] 61)) := (Below.refl _ _).alloc (Nat.le_refl _) _
  have h2 := (er.2.1.keep (R' := fun _ => True) (Kept.all a1 _) (fun _ _ _ => trivial))
  have h3 := (er.2.2.1.keep (R' := fun _ => True) (Kept.all a1 _) (fun _ _ _ => trivial))
  have hr := Rw.lit (k := 5) (P := RulAt (W8.alloc (.cells #[.string ⟨#[114]⟩, .bool b, .slice none 0 0, .slice B m d, .slice (some ⟨W1.heap.size, 0, none⟩) 2 2] 61)) (fun _ => True)) (R := fun _ => True) W8 61 (fun _ => [.string ⟨#[114]⟩, .bool b, .slice none 0 0, .slice B m d, .slice (some ⟨W1.heap.size, 0, none⟩) 2 2]) [erRul b c] (n := 1) rfl (by omega) trivial (fun _ _ => rfl) (fun x hx => by
    simp at hx
    subst hx
    exact ⟨none, 0, 0, B, m, d, some ⟨W1.heap.size, 0, none⟩, 2, 2, rfl, (by decide : (⟨#[114]⟩ : ByteArray).size ≤ maxLen), Rw.nil_ _ _ _ _, h2, h3⟩)
  have hru : Rus (W8.alloc (.cells #[.string ⟨#[114]⟩, .bool b, .slice none 0 0, .slice B m d, .slice (some ⟨W1.heap.size, 0, none⟩) 2 2] 61)) (fun _ => True) (some ⟨W8.heap.size, 0, none⟩) 1 1 [erRul b c] := hr
  exact ⟨⟨(by decide : (⟨#[112]⟩ : ByteArray).size ≤ maxLen), hk⟩, ht, hru.keep (Kept.all hV _) (fun _ h _ => h), ⟨0, Rw.nil_ _ _ _ _⟩, Rw.nil_ _ _ _ _⟩
theorem er_tg (w : World) (x : Mat) (hx : x.ok) : Tg (((w.alloc (.cells #[.int .i64 x.a.cat, .string x.a.name, .bool x.a.must, .int .i64 x.op, .int .i64 x.v.k, .int .i64 x.v.n, .string x.v.s] 64)).alloc (.cells #[.slice (some ⟨w.heap.size, 0, none⟩) 1 1] 65)).alloc (.cells #[.slice (some ⟨w.heap.size + 1, 0, none⟩) 1 1] 66)) (fun b => w.heap.size ≤ b) (some ⟨w.heap.size + 1 + 1, 0, none⟩) 1 1 [[[x]]] := by
  obtain ⟨w1, h1⟩ : ∃ y, y = w.alloc (.cells #[.int .i64 x.a.cat, .string x.a.name, .bool x.a.must, .int .i64 x.op, .int .i64 x.v.k, .int .i64 x.v.n, .string x.v.s] 64) := ⟨_, rfl⟩
  have s1 : w1.heap.size = w.heap.size + 1 := by rw [h1, size_al]
  have m1 : Ms w1 (fun b => w.heap.size ≤ b) (some ⟨w.heap.size, 0, none⟩) 1 1 [x] := by
    rw [h1]
    exact Rw.lit w 64 Mat.cells [x] (n := 1) rfl (by omega) (Nat.le_refl _) (fun _ _ => rfl) (fun y hy => by simp at hy; subst hy; exact ⟨rfl, hx⟩)
  rw [← h1]
  obtain ⟨w2, h2⟩ : ∃ y, y = w1.alloc (.cells #[.slice (some ⟨w.heap.size, 0, none⟩) 1 1] 65) := ⟨_, rfl⟩
  have s2 : w2.heap.size = w.heap.size + 1 + 1 := by rw [h2, size_al, s1]
  have b2 : Below w1.heap.size w1 w2 := by rw [h2]; exact (Below.refl _ _).alloc (Nat.le_refl _) _
  have m2 : Als w2 (fun b => w.heap.size ≤ b) (some ⟨w.heap.size + 1, 0, none⟩) 1 1 [[x]] := by
    have := Rw.lit (k := 1) (P := fun vs (l : List Mat) => ∃ A n c, vs = [.slice A n c] ∧ Ms w2 (fun b => w.heap.size ≤ b) A n c l) (R := fun b => w.heap.size ≤ b) w1 65 (fun _ => [.slice (some ⟨w.heap.size, 0, none⟩) 1 1]) [[x]] (n := 1) rfl (by omega) (by show w.heap.size ≤ w1.heap.size; omega) (fun _ _ => rfl) (fun y hy => by simp at hy; subst hy; exact ⟨_, _, _, rfl, m1.keep (Kept.all b2 _) (fun _ h _ => h)⟩)
    rw [s1] at this
    unfold Als
    conv => arg 3; rw [h2]
    exact this
  rw [← h2]
  have b3 : Below w2.heap.size w2 (w2.alloc (.cells #[.slice (some ⟨w.heap.size + 1, 0, none⟩) 1 1] 66)) := (Below.refl _ _).alloc (Nat.le_refl _) _
  have := Rw.lit (k := 1) (P := fun vs (l : List (List Mat)) => ∃ A n c, vs = [.slice A n c] ∧ Als (w2.alloc (.cells #[.slice (some ⟨w.heap.size + 1, 0, none⟩) 1 1] 66)) (fun b => w.heap.size ≤ b) A n c l) (R := fun b => w.heap.size ≤ b) w2 66 (fun _ => [.slice (some ⟨w.heap.size + 1, 0, none⟩) 1 1]) [[[x]]] (n := 1) rfl (by omega) (by show w.heap.size ≤ w2.heap.size; omega) (fun _ _ => rfl) (fun y hy => by simp at hy; subst hy; exact ⟨_, _, _, rfl, m2.keep (Kept.all b3 _) (fun _ h _ => h)⟩)
  rw [s2] at this
  exact this
set_option maxRecDepth 100000 in
set_option maxHeartbeats 12800000 in
theorem evalRules_walk (a : Int) (ha : (Lit.int IntKind.i64 a).wf = true) (b : Bool) (n : Int) (hn : (Lit.int IntKind.i64 n).wf = true) (u : Bool) (W : World) :
    Calls Tryz.prog 6 #[.int .i64 a, .bool b, .int .i64 n, .bool u] W fun e w' => e = .returned (.bool true) ∧ Below W.heap.size W w' := by
  obtain ⟨i, hi, hi2⟩ : ∃ i : Nat, withinOf a 0 2 = (i : Int) ∧ i ≤ 2 := by
    have h := within_le (n := a) (lo := 0) (hi := 2) (by omega)
    exact ⟨(withinOf a 0 2).toNat, by omega, by omega⟩
  obtain ⟨c, hc, hc3⟩ : ∃ c : Nat, withinOf n 0 3 = (c : Int) ∧ c ≤ 3 := by
    have h := within_le (n := n) (lo := 0) (hi := 3) (by omega)
    exact ⟨(withinOf n 0 3).toNat, by omega, by omega⟩
  have hw1 := fun w => within_any (n := a) (lo := 0) (hi := 2) (w := w) (by omega) (by omega) (by omega)
  have hw2 := fun w => within_any (n := n) (lo := 0) (hi := 3) (w := w) (by omega) (by omega) (by omega)
  rw [hi] at hw1
  rw [hc] at hw2
  have WA := Lib.hid hw1
  have WN := Lib.hid hw2
  obtain ⟨kk, hkk⟩ : ∃ kk : Int, kk = i + 1 := ⟨_, rfl⟩
  have HK : Hid (erThree kk) := by show kk = 1 ∨ kk = 2 ∨ kk = 3; omega
  have OI := Ob.made W 3 #[.int .i64 1, .int .i64 2, .int .i64 3]
  have hcell : (W.alloc (.cells #[.int .i64 1, .int .i64 2, .int .i64 3] 3)).cell? ⟨W.heap.size, i, none⟩ = some (.int .i64 kk) := by
    rw [OI.cell i, hkk]
    rcases (show i = 0 ∨ i = 1 ∨ i = 2 by omega) with rfl | rfl | rfl <;> rfl
  have B1 := Lib.hid ((Below.refl W.heap.size W).alloc (Nat.le_refl _) (.cells #[.int .i64 1, .int .i64 2, .int .i64 3] 3))
  have HC3 := Lib.hid hc3
  clear hw1 hw2 hi hc hkk OI ha hn hc3
  obtain ⟨ci, hci⟩ : ∃ ci : Int, ci = (c : Int) := ⟨_, rfl⟩
  rw [← hci] at WN
  have HCI := Lib.hid hci
  clear hci
  go_enter Tryz.func6, Tryz.ntmps6
  go_wp2_with fail
  refine (WA.out _).mono ?_
  rintro e w' ⟨rfl, rfl⟩
  go_wp2_with fail
  refine (WN.out _).mono ?_
  rintro e w' ⟨rfl, rfl⟩
  clear hcell hi2
  go_upto_region 4 with fail
  obtain ⟨W1, hW1⟩ : ∃ x, x = W.alloc (.cells #[.int .i64 1, .int .i64 2, .int .i64 3] 3) := ⟨_, rfl⟩
  rw [← hW1] at B1
  rw [← hW1]
  clear hW1
  have LD := Dus.lit W1 (R := fun x => x = W1.heap.size) [eroA, eroB] (n := 2) rfl (by omega) rfl (fun x hx => by simp at hx; rcases hx with rfl | rfl; exact ero_okA; exact ero_okB)
  have d1 : Below W1.heap.size W1 (W1.alloc (.cells #[.int .i64 1, .int .i64 1, .string ⟨#[97]⟩, .int .i64 2, .int .i64 1, .string ⟨#[98]⟩] 42)) := (Below.refl _ _).alloc (Nat.le_refl _) _
  have d2 := d1.alloc (by rw [size_al]; omega) (.cells #[.string ⟨#[114]⟩, .bool b, .slice none 0 0, .slice none 0 0, .slice (some ⟨W1.heap.size, 0, none⟩) 2 2] 61)
  have OR := Ob.made (W1.alloc (.cells #[.int .i64 1, .int .i64 1, .string ⟨#[97]⟩, .int .i64 2, .int .i64 1, .string ⟨#[98]⟩] 42)) 61 #[.string ⟨#[114]⟩, .bool b, .slice none 0 0, .slice none 0 0, .slice (some ⟨W1.heap.size, 0, none⟩) 2 2]
  rw [size_al] at OR
  have e2 : Below (W1.alloc (.cells #[.int .i64 1, .int .i64 1, .string ⟨#[97]⟩, .int .i64 2, .int .i64 1, .string ⟨#[98]⟩] 42)).heap.size (W1.alloc (.cells #[.int .i64 1, .int .i64 1, .string ⟨#[97]⟩, .int .i64 2, .int .i64 1, .string ⟨#[98]⟩] 42)) ((W1.alloc (.cells #[.int .i64 1, .int .i64 1, .string ⟨#[97]⟩, .int .i64 2, .int .i64 1, .string ⟨#[98]⟩] 42)).alloc (.cells #[.string ⟨#[114]⟩, .bool b, .slice none 0 0, .slice none 0 0, .slice (some ⟨W1.heap.size, 0, none⟩) 2 2] 61)) := (Below.refl _ _).alloc (Nat.le_refl _) _
  have LD1 : Dus (W1.alloc (.cells #[.int .i64 1, .int .i64 1, .string ⟨#[97]⟩, .int .i64 2, .int .i64 1, .string ⟨#[98]⟩] 42)) (fun x => x = W1.heap.size) (some ⟨W1.heap.size, 0, none⟩) 2 2 [eroA, eroB] := LD
  have LD2 := Lib.hid (LD1.keep (Kept.all e2 _) (fun _ h _ => h))
  have OR2 := Lib.hid OR
  have D2 := Lib.hid d2
  clear LD d1 d2 OR e2 LD1
  go_upto_block 0 with fail
  go_cut [] from 33 to 49 (fun wx => ∃ B m d, ErP W1 wx wx.heap.size b c B m d)
  case first =>
    rcases (show c = 0 ∨ c = 1 ∨ c = 2 ∨ c = 3 by have := HC3.out; omega) with rfl | rfl | rfl | rfl
    · obtain rfl : ci = 0 := HCI.out
      go_wp2_with fail
      go_meet
      case rel => exact ⟨none, 0, 0, OR2.out, Rw.nil_ _ _ _ _, LD2.out.keep (Kept.refl _ _) (fun _ _ h => h), D2.out, by simp only [size_al]; omega⟩
    · obtain rfl : ci = 1 := HCI.out
      have r3 := OR2.out.cell 3
      have f3 := OR2.out.frozen 3
      have TR := Lib.hid (ertruth_any 1 (by decide))
      go_wp2_with fail
      refine (TR.out _).mono ?_
      rintro e w2 ⟨B, rfl, hb, hn⟩
      have OR3 := OR2.out.below hb OR2.out.lt
      have r3 := OR3.cell 3
      have f3 := OR3.frozen 3
      have hs := hb.size
      simp only [size_al] at hs
      have Q3 := Lib.hid (OR3.put 3 (.slice B 1 1))
      have DD := (below_step D2.out hb)
      have D3 := Lib.hid (DD.setCell (p := ⟨W1.heap.size + 1, 3, none⟩) (by show W1.heap.size ≤ W1.heap.size + 1; omega) (.slice B 1 1))
      have KK : Kept (fun x => x ≠ W1.heap.size + 1) w2 (w2.setCell ⟨W1.heap.size + 1, 3, none⟩ (.slice B 1 1)) := ⟨by simp [World.setCell], fun x hx _ => Below.heap_setCell _ _ _ _ hx⟩
      have N3 := Lib.hid ((hn.keep (R' := fun x => x ≠ W1.heap.size + 1) (Kept.refl _ _) (fun x hx _ => by have h1 := hx; simp only [size_al] at h1; show x ≠ _; omega)).keep (R' := fun x => x < (w2.setCell ⟨W1.heap.size + 1, 3, none⟩ (.slice B 1 1)).heap.size) KK (fun x _ h => by simpa [World.setCell] using h))
      have L3 := Lib.hid (((LD2.out.keep (Kept.all hb _) (fun _ h _ => h)).keep (R' := fun x => x ≠ W1.heap.size + 1) (Kept.refl _ _) (fun x hx hl => by have h1 : x = W1.heap.size := hx; show x ≠ _; omega)).keep (R' := fun x => x < (w2.setCell ⟨W1.heap.size + 1, 3, none⟩ (.slice B 1 1)).heap.size) KK (fun x _ h => by simpa [World.setCell] using h))
      clear hb hn OR3 DD KK
      go_wp2_with fail
      go_meet
      case rel => exact ⟨B, 1, 1, Q3.out, N3.out, L3.out, D3.out, by simp [World.setCell]; omega⟩
    · obtain rfl : ci = 2 := HCI.out
      have r3 := OR2.out.cell 3
      have f3 := OR2.out.frozen 3
      have TR := Lib.hid (ertruth_any 0 (by decide))
      go_wp2_with fail
      refine (TR.out _).mono ?_
      rintro e w2 ⟨B, rfl, hb, hn⟩
      have OR3 := OR2.out.below hb OR2.out.lt
      have r3 := OR3.cell 3
      have f3 := OR3.frozen 3
      have hs := hb.size
      simp only [size_al] at hs
      have Q3 := Lib.hid (OR3.put 3 (.slice B 1 1))
      have DD := (below_step D2.out hb)
      have D3 := Lib.hid (DD.setCell (p := ⟨W1.heap.size + 1, 3, none⟩) (by show W1.heap.size ≤ W1.heap.size + 1; omega) (.slice B 1 1))
      have KK : Kept (fun x => x ≠ W1.heap.size + 1) w2 (w2.setCell ⟨W1.heap.size + 1, 3, none⟩ (.slice B 1 1)) := ⟨by simp [World.setCell], fun x hx _ => Below.heap_setCell _ _ _ _ hx⟩
      have N3 := Lib.hid ((hn.keep (R' := fun x => x ≠ W1.heap.size + 1) (Kept.refl _ _) (fun x hx _ => by have h1 := hx; simp only [size_al] at h1; show x ≠ _; omega)).keep (R' := fun x => x < (w2.setCell ⟨W1.heap.size + 1, 3, none⟩ (.slice B 1 1)).heap.size) KK (fun x _ h => by simpa [World.setCell] using h))
      have L3 := Lib.hid (((LD2.out.keep (Kept.all hb _) (fun _ h _ => h)).keep (R' := fun x => x ≠ W1.heap.size + 1) (Kept.refl _ _) (fun x hx hl => by have h1 : x = W1.heap.size := hx; show x ≠ _; omega)).keep (R' := fun x => x < (w2.setCell ⟨W1.heap.size + 1, 3, none⟩ (.slice B 1 1)).heap.size) KK (fun x _ h => by simpa [World.setCell] using h))
      clear hb hn OR3 DD KK
      go_wp2_with fail
      go_meet
      case rel => exact ⟨B, 1, 1, Q3.out, N3.out, L3.out, D3.out, by simp [World.setCell]; omega⟩
    · obtain rfl : ci = 3 := HCI.out
      have d1 : Below W1.heap.size W1 (W1.alloc (.cells #[.int .i64 1, .int .i64 1, .string ⟨#[97]⟩, .int .i64 2, .int .i64 1, .string ⟨#[98]⟩] 42)) := (Below.refl _ _).alloc (Nat.le_refl _) _
      have d2 := d1.alloc (by rw [size_al]; omega) (.cells #[.string ⟨#[114]⟩, .bool b, .slice none 0 0, .slice (some ⟨W1.heap.size + 1 + 1, 0, none⟩) 2 2, .slice (some ⟨W1.heap.size, 0, none⟩) 2 2] 61)
      have d3 := d2.alloc (by simp only [size_al]; omega) (.cells #[.int .i64 2, .int .i64 0, .int .i64 0, .string ⟨#[]⟩, .int .i64 3, .string ⟨#[120]⟩, .bool false, .int .i64 3, .int .i64 0, .int .i64 0, .string ⟨#[]⟩, .int .i64 0, .string ⟨#[]⟩, .bool false] 58)
      have OR := Ob.made (W1.alloc (.cells #[.int .i64 1, .int .i64 1, .string ⟨#[97]⟩, .int .i64 2, .int .i64 1, .string ⟨#[98]⟩] 42)) 61 #[.string ⟨#[114]⟩, .bool b, .slice none 0 0, .slice (some ⟨W1.heap.size + 1 + 1, 0, none⟩) 2 2, .slice (some ⟨W1.heap.size, 0, none⟩) 2 2]
      rw [size_al] at OR
      have e2 : Below (W1.alloc (.cells #[.int .i64 1, .int .i64 1, .string ⟨#[97]⟩, .int .i64 2, .int .i64 1, .string ⟨#[98]⟩] 42)).heap.size (W1.alloc (.cells #[.int .i64 1, .int .i64 1, .string ⟨#[97]⟩, .int .i64 2, .int .i64 1, .string ⟨#[98]⟩] 42)) (((W1.alloc (.cells #[.int .i64 1, .int .i64 1, .string ⟨#[97]⟩, .int .i64 2, .int .i64 1, .string ⟨#[98]⟩] 42)).alloc (.cells #[.string ⟨#[114]⟩, .bool b, .slice none 0 0, .slice (some ⟨W1.heap.size + 1 + 1, 0, none⟩) 2 2, .slice (some ⟨W1.heap.size, 0, none⟩) 2 2] 61)).alloc (.cells #[.int .i64 2, .int .i64 0, .int .i64 0, .string ⟨#[]⟩, .int .i64 3, .string ⟨#[120]⟩, .bool false, .int .i64 3, .int .i64 0, .int .i64 0, .string ⟨#[]⟩, .int .i64 0, .string ⟨#[]⟩, .bool false] 58)) := ((Below.refl _ _).alloc (Nat.le_refl _) _).alloc (by simp only [size_al]; omega) _
      have LC := Lib.hid ((show Dus (W1.alloc (.cells #[.int .i64 1, .int .i64 1, .string ⟨#[97]⟩, .int .i64 2, .int .i64 1, .string ⟨#[98]⟩] 42)) (fun x => x = W1.heap.size) (some ⟨W1.heap.size, 0, none⟩) 2 2 [eroA, eroB] from Dus.lit W1 (R := fun x => x = W1.heap.size) [eroA, eroB] (n := 2) rfl (by omega) rfl (fun x hx => by simp at hx; rcases hx with rfl | rfl; exact ero_okA; exact ero_okB)).keep (Kept.all e2 _) (fun _ h _ => h))
      have OR3 := Lib.hid (OR.keep (w' := (((W1.alloc (.cells #[.int .i64 1, .int .i64 1, .string ⟨#[97]⟩, .int .i64 2, .int .i64 1, .string ⟨#[98]⟩] 42)).alloc (.cells #[.string ⟨#[114]⟩, .bool b, .slice none 0 0, .slice (some ⟨W1.heap.size + 1 + 1, 0, none⟩) 2 2, .slice (some ⟨W1.heap.size, 0, none⟩) 2 2] 61)).alloc (.cells #[.int .i64 2, .int .i64 0, .int .i64 0, .string ⟨#[]⟩, .int .i64 3, .string ⟨#[120]⟩, .bool false, .int .i64 3, .int .i64 0, .int .i64 0, .string ⟨#[]⟩, .int .i64 0, .string ⟨#[]⟩, .bool false] 58))) (Below.heap_alloc _ _ _ OR.lt))
      have NL := Nds.lit ((W1.alloc (.cells #[.int .i64 1, .int .i64 1, .string ⟨#[97]⟩, .int .i64 2, .int .i64 1, .string ⟨#[98]⟩] 42)).alloc (.cells #[.string ⟨#[114]⟩, .bool b, .slice none 0 0, .slice (some ⟨W1.heap.size + 1 + 1, 0, none⟩) 2 2, .slice (some ⟨W1.heap.size, 0, none⟩) 2 2] 61)) (R := fun _ => True) [ernX, ernO] (n := 2) rfl (by omega) trivial (ern_ok 3)
      simp only [size_al] at NL
      have NL2 : Hid (Nds (((W1.alloc (.cells #[.int .i64 1, .int .i64 1, .string ⟨#[97]⟩, .int .i64 2, .int .i64 1, .string ⟨#[98]⟩] 42)).alloc (.cells #[.string ⟨#[114]⟩, .bool b, .slice none 0 0, .slice (some ⟨W1.heap.size + 1 + 1, 0, none⟩) 2 2, .slice (some ⟨W1.heap.size, 0, none⟩) 2 2] 61)).alloc (.cells #[.int .i64 2, .int .i64 0, .int .i64 0, .string ⟨#[]⟩, .int .i64 3, .string ⟨#[120]⟩, .bool false, .int .i64 3, .int .i64 0, .int .i64 0, .string ⟨#[]⟩, .int .i64 0, .string ⟨#[]⟩, .bool false] 58)) (fun _ => True) (some ⟨W1.heap.size + 1 + 1, 0, none⟩) 2 2 [ernX, ernO]) := NL
      have D3 := Lib.hid d3
      have r3 := OR2.out.cell 3
      have f3 := OR2.out.frozen 3
      clear d1 d2 d3 OR e2 NL
      go_wp2_with fail
      go_meet
      case rel => exact ⟨some ⟨W1.heap.size + 1 + 1, 0, none⟩, 2, 2, OR3.out, NL2.out.keep (Kept.refl _ _) (fun _ _ h => h), LC.out.keep (Kept.refl _ _) (fun _ _ h => h), D3.out, by simp only [size_al]; omega⟩
  case rest =>
    obtain ⟨B, m, d, hp⟩ := hcut
    have ER := Lib.hid hp
    clear hp OR2 D2 LD2
    obtain ⟨W5, hW5⟩ : ∃ x, x = wc := ⟨wc, rfl⟩
    subst hW5
    have ERX := Lib.hid (ER.out.then_ (w' := W5.alloc (.cells #[.complex .f64 4607182418800017408 0, .slice (some ⟨W1.heap.size, 0, none⟩) 1 2] 33)) ((Below.refl _ _).alloc (Nat.le_refl _) _))
    have OW := Lib.hid (Ob.made W5 33 #[.complex .f64 4607182418800017408 0, .slice (some ⟨W1.heap.size, 0, none⟩) 1 2])
    have r4 := ER.out.1.cell 4
    have DT := Lib.hid (ERX.out.2.2.1.take (m := 1) (by omega))
    have DP := Lib.hid (Rw.drop ERX.out.2.2.1 (m := 1) (by omega))
    go_upto_if 54 with fail
    clear r4
    go_cut [] from 55 to 58 (fun wx => ∃ E e, Ob wx W5.heap.size 33 #[.complex .f64 (fl (effM b).1) (fl (effM b).2), .slice E 1 e] ∧ Dus wx (fun x => x < W5.heap.size) E 1 e (if b = true then [eroB] else [eroA]) ∧ ErP W1 wx W5.heap.size b c B m d ∧ W5.heap.size < wx.heap.size)
    case first =>
      cases b
      · go_wp2_with fail
        go_meet
        case rel => exact ⟨some ⟨W1.heap.size, 0, none⟩, 2, by rw [show (effM false).1 = 4 from rfl, show (effM false).2 = 0 from rfl, fl4, fl0]; exact OW.out, DT.out, ERX.out, by simp only [size_al]; omega⟩
      · have EDX := Lib.hid (ER.out.then_ (w' := W5.alloc (.cells #[.complex .f64 0 4607182418800017408, .slice (some ⟨W1.heap.size, 3, none⟩) 1 1] 33)) ((Below.refl _ _).alloc (Nat.le_refl _) _))
        have OWD := Lib.hid (Ob.made W5 33 #[.complex .f64 0 4607182418800017408, .slice (some ⟨W1.heap.size, 3, none⟩) 1 1])
        have DPD := Lib.hid (Rw.drop EDX.out.2.2.1 (m := 1) (by omega))
        have x4 := ERX.out.1.cell 4
        have w0 := OW.out.c2e
        have g0 := OW.out.f2e
        go_wp2_with fail
        go_meet
        case rel => exact ⟨some ⟨W1.heap.size, 3, none⟩, 1, by rw [show (effM true).1 = 0 from rfl, show (effM true).2 = 4 from rfl, fl4, fl0]; exact OWD.out, show Rw 3 _ _ _ _ _ _ _ from (by simpa [Addr.add] using DPD.out), EDX.out, by simp only [size_al]; omega⟩
    case rest =>
      obtain ⟨E, e, ow, du, er, hlt⟩ := hcut
      obtain ⟨W6, hW6⟩ : ∃ x, x = wc := ⟨wc, rfl⟩
      subst hW6
      have R6 := Lib.hid (show ResIn W6 W5.heap.size (effM b) (if b = true then [eroB] else [eroA]) from ⟨E, 1, e, ow, du.keep (Kept.refl _ _) (fun _ _ _ => trivial)⟩)
      have ER6 := Lib.hid er
      have L6 := Lib.hid hlt
      clear ow du er hlt OW DT DP ERX ER
      go_upto_if 60 with fail
      go_cut [] from 61 to 61 (fun wx => ResIn wx W5.heap.size (erW3 b c).m (erW3 b c).ob ∧ ErP W1 wx W5.heap.size b c B m d ∧ W5.heap.size < wx.heap.size)
      case first =>
        by_cases h2 : c = 2
        · subst h2
          obtain rfl : ci = 2 := HCI.out
          obtain ⟨E9, f9, h9, o9, d9⟩ := R6.out
          have SZ := Lib.hid (o9.set2 (.complex .f64 0 0) (.slice none 0 0))
          have SE := Lib.hid (ER6.out.set2 (Nat.le_refl _) (.complex .f64 0 0) (.slice none 0 0))
          have z := o9.c2e
          have y := o9.f2e
          clear o9 d9
          go_wp2_with fail
          go_meet
          case rel => exact ⟨⟨none, 0, 0, by rw [show (erW3 b 2).m.1 = 0 from rfl, show (erW3 b 2).m.2 = 0 from rfl, fl0]; exact SZ.out, Rw.nil_ _ _ _ _⟩, SE.out, by rw [set2_size]; exact L6.out⟩
        · have hcb : (ci == 2) = false := by rw [beq_eq_false_iff_ne]; have := HCI.out; omega
          have HE : Hid (erW3 b c = ⟨effM b, if b = true then [eroB] else [eroA]⟩) := if_neg h2
          clear h2
          go_wp2_with fail
          go_meet
          case rel => exact ⟨by rw [HE.out]; exact R6.out, ER6.out, L6.out⟩
      case rest =>
        obtain ⟨ri, er, hlt⟩ := hcut
        obtain ⟨W7, hW7⟩ : ∃ x, x = wc := ⟨wc, rfl⟩
        subst hW7
        have R7 := Lib.hid ri
        have ER7 := Lib.hid er
        have L7 := Lib.hid hlt
        clear ri er hlt R6 ER6 L6
        go_upto_if 63 with fail
        go_cut [] from 64 to 67 (fun wx => ResIn wx W5.heap.size (erWant b c).m (erWant b c).ob ∧ ErP W1 wx W5.heap.size b c B m d ∧ W5.heap.size < wx.heap.size)
        case first =>
          by_cases h3 : c = 3
          · subst h3
            obtain rfl : ci = 3 := HCI.out
            obtain ⟨E9, f9, h9, o9, d9⟩ := R7.out
            obtain ⟨⟨vp, vd⟩, hv⟩ : ∃ q, q = (erW3 b 3).m := ⟨_, rfl⟩
            rw [← hv] at o9
            have HW : Hid (erWant b 3 = ⟨(indetP vp vd, indetD vp vd), []⟩) := by show _ = _; cases b <;> (obtain ⟨rfl, rfl⟩ := Prod.mk.inj hv; rfl)
            have SZ := Lib.hid (o9.set2 (.complex .f64 (fl (indetP vp vd)) (fl (indetD vp vd))) (.slice none 0 0))
            have SE := Lib.hid (ER7.out.set2 (Nat.le_refl _) (.complex .f64 (fl (indetP vp vd)) (fl (indetD vp vd))) (.slice none 0 0))
            have HI := Lib.hid (indet_any vp vd)
            have z := o9.c2e
            have y := o9.f2e
            clear o9 d9 hv
            go_wp2_with fail
            refine (HI.out _).mono ?_
            rintro z' w' ⟨rfl, rfl⟩
            go_wp2_with fail
            go_meet
            case rel => exact ⟨by rw [HW.out]; exact ⟨none, 0, 0, SZ.out, Rw.nil_ _ _ _ _⟩, SE.out, by rw [set2_size]; exact L7.out⟩
          · have hcb : (ci == 3) = false := by rw [beq_eq_false_iff_ne]; have := HCI.out; omega
            have HE : Hid (erWant b c = erW3 b c) := by show _ = _; unfold erWant erW3; rw [if_neg h3]
            clear h3
            go_wp2_with fail
            go_meet
            case rel => exact ⟨by rw [HE.out]; exact R7.out, ER7.out, L7.out⟩
        case rest =>
          obtain ⟨ri, er, hlt⟩ := hcut
          obtain ⟨W8, hW8⟩ : ∃ x, x = wc := ⟨wc, rfl⟩
          subst hW8
          obtain ⟨⟨⟨vp, vd⟩, vob⟩, hv⟩ : ∃ q, erWant b c = q := ⟨_, rfl⟩
          rw [hv] at ri
          simp only at ri
          have hB8 := er.2.2.2.1
          have HB8 := Lib.hid hB8.size
          have hki : InI kk := by have := HK.out; unfold erThree at this; unfold InI; omega
          have e8 : Below W8.heap.size W8 (W8.alloc (.cells #[.string ⟨#[114]⟩, .bool b, .slice none 0 0, .slice B m d, .slice (some ⟨W1.heap.size, 0, none⟩) 2 2] 61)) := (Below.refl _ _).alloc (Nat.le_refl _) _
          have e9 : Below (W8.alloc (.cells #[.string ⟨#[114]⟩, .bool b, .slice none 0 0, .slice B m d, .slice (some ⟨W1.heap.size, 0, none⟩) 2 2] 61)).heap.size (W8.alloc (.cells #[.string ⟨#[114]⟩, .bool b, .slice none 0 0, .slice B m d, .slice (some ⟨W1.heap.size, 0, none⟩) 2 2] 61)) ((W8.alloc (.cells #[.string ⟨#[114]⟩, .bool b, .slice none 0 0, .slice B m d, .slice (some ⟨W1.heap.size, 0, none⟩) 2 2] 61)).alloc (.cells #[.string ⟨#[112]⟩, .bool false, .int .i64 kk, .slice none 0 0, .slice (some ⟨W8.heap.size, 0, none⟩) 1 1, .slice none 0 0, .slice none 0 0] 28)) := (Below.refl _ _).alloc (Nat.le_refl _) _
          have E9 := Lib.hid (below_step e8 e9)
          have hin := er_in er hki e9 (t := []) (Rw.nil_ _ _ _ _)
          have hd1 := er_dec HK.out b HC3.out
          rw [hv] at hd1
          have EP := Lib.hid (evpol_is (R2 := fun _ => True) (A := none) (n := 0) (c := 0) hd1 (er_right HK.out b HC3.out) hin (Rw.nil_ _ _ _ _) (fun g hg => by cases hg))
          have EQ := Lib.hid (fun V (hV : Below (W8.alloc (.cells #[.string ⟨#[114]⟩, .bool b, .slice none 0 0, .slice B m d, .slice (some ⟨W1.heap.size, 0, none⟩) 2 2] 61)).heap.size (W8.alloc (.cells #[.string ⟨#[114]⟩, .bool b, .slice none 0 0, .slice B m d, .slice (some ⟨W1.heap.size, 0, none⟩) 2 2] 61)) V) (A : Option Addr) (n c' : Nat) (ht : Tg V (fun _ => True) A n c' [[[erMat u]]]) => er_in er hki hV ht)
          have hd2 := er_dec2 HK.out u b HC3.out
          rw [hv] at hd2
          have HD2 := Lib.hid hd2
          have HR2 := Lib.hid (er_right2 HK.out u b HC3.out)
          have q := er.1.c5e
          have OQ := Ob.made (W8.alloc (.cells #[.string ⟨#[114]⟩, .bool b, .slice none 0 0, .slice B m d, .slice (some ⟨W1.heap.size, 0, none⟩) 2 2] 61)) 28 #[.string ⟨#[112]⟩, .bool false, .int .i64 kk, .slice none 0 0, .slice (some ⟨W8.heap.size, 0, none⟩) 1 1, .slice none 0 0, .slice none 0 0]
          rw [size_al] at OQ
          have OQ9 := Lib.hid OQ
          have q7 := OQ.c7e
          have R9 := Lib.hid (ri.then_ E9.out)
          have RI8 := Lib.hid ri
          have BW := Lib.hid (below_step B1.out (below_step hB8 E9.out))
          clear ri er hlt hv hB8 hki e8 hin hd1 hd2 OQ R7 ER7 L7
          have E9' := Lib.hid e9
          clear e9
          go_wp2_with fail
          refine EP.out.mono ?_
          rintro e w10 ⟨E1, e2, e3, rfl, hb, hd⟩
          have hs10 := hb.size
          simp only [size_al] at hs10
          have f10 : Below w10.heap.size w10 ((((w10.alloc (.cells #[.complex .f64 (fl vp) (fl vd), .slice E1 e2 e3] 33)).alloc (.cells #[.int .i64 4, .string ⟨#[121]⟩, .bool u, .int .i64 1, .int .i64 2, .int .i64 0, .string ⟨#[]⟩] 64)).alloc (.cells #[.slice (some ⟨w10.heap.size + 1, 0, none⟩) 1 1] 65)).alloc (.cells #[.slice (some ⟨w10.heap.size + 1 + 1, 0, none⟩) 1 1] 66)) := ((((Below.refl _ _).alloc (Nat.le_refl _) _).alloc (by simp only [size_al]; omega) _).alloc (by simp only [size_al]; omega) _).alloc (by simp only [size_al]; omega) _
          have g10 := below_step hb f10
          have oq := OQ9.out.below g10 OQ9.out.lt
          have oq2 : Ob (((((w10.alloc (.cells #[.complex .f64 (fl vp) (fl vd), .slice E1 e2 e3] 33)).alloc (.cells #[.int .i64 4, .string ⟨#[121]⟩, .bool u, .int .i64 1, .int .i64 2, .int .i64 0, .string ⟨#[]⟩] 64)).alloc (.cells #[.slice (some ⟨w10.heap.size + 1, 0, none⟩) 1 1] 65)).alloc (.cells #[.slice (some ⟨w10.heap.size + 1 + 1, 0, none⟩) 1 1] 66)).setCell ⟨W8.heap.size + 1, 3, none⟩ (.slice (some ⟨w10.heap.size + 1 + 1 + 1, 0, none⟩) 1 1)) (W8.heap.size + 1) 28 #[.string ⟨#[112]⟩, .bool false, .int .i64 kk, .slice (some ⟨w10.heap.size + 1 + 1 + 1, 0, none⟩) 1 1, .slice (some ⟨W8.heap.size, 0, none⟩) 1 1, .slice none 0 0, .slice none 0 0] := oq.put 3 (.slice (some ⟨w10.heap.size + 1 + 1 + 1, 0, none⟩) 1 1)
          have c3 := oq.cell 3
          have f3 := oq.frozen 3
          have s8 : Below (W8.alloc (.cells #[.string ⟨#[114]⟩, .bool b, .slice none 0 0, .slice B m d, .slice (some ⟨W1.heap.size, 0, none⟩) 2 2] 61)).heap.size (W8.alloc (.cells #[.string ⟨#[114]⟩, .bool b, .slice none 0 0, .slice B m d, .slice (some ⟨W1.heap.size, 0, none⟩) 2 2] 61)) (((((w10.alloc (.cells #[.complex .f64 (fl vp) (fl vd), .slice E1 e2 e3] 33)).alloc (.cells #[.int .i64 4, .string ⟨#[121]⟩, .bool u, .int .i64 1, .int .i64 2, .int .i64 0, .string ⟨#[]⟩] 64)).alloc (.cells #[.slice (some ⟨w10.heap.size + 1, 0, none⟩) 1 1] 65)).alloc (.cells #[.slice (some ⟨w10.heap.size + 1 + 1, 0, none⟩) 1 1] 66)).setCell ⟨W8.heap.size + 1, 3, none⟩ (.slice (some ⟨w10.heap.size + 1 + 1 + 1, 0, none⟩) 1 1)) := (below_step E9'.out g10).setCell (p := ⟨W8.heap.size + 1, 3, none⟩) (by rw [size_al]; exact Nat.le_refl _) _
          have s9 : Below W8.heap.size W8 (((((w10.alloc (.cells #[.complex .f64 (fl vp) (fl vd), .slice E1 e2 e3] 33)).alloc (.cells #[.int .i64 4, .string ⟨#[121]⟩, .bool u, .int .i64 1, .int .i64 2, .int .i64 0, .string ⟨#[]⟩] 64)).alloc (.cells #[.slice (some ⟨w10.heap.size + 1, 0, none⟩) 1 1] 65)).alloc (.cells #[.slice (some ⟨w10.heap.size + 1 + 1, 0, none⟩) 1 1] 66)).setCell ⟨W8.heap.size + 1, 3, none⟩ (.slice (some ⟨w10.heap.size + 1 + 1 + 1, 0, none⟩) 1 1)) := below_step ((Below.refl _ _).alloc (Nat.le_refl _) _) s8
          have KK : Kept (fun x => x ≠ W8.heap.size + 1) ((((w10.alloc (.cells #[.complex .f64 (fl vp) (fl vd), .slice E1 e2 e3] 33)).alloc (.cells #[.int .i64 4, .string ⟨#[121]⟩, .bool u, .int .i64 1, .int .i64 2, .int .i64 0, .string ⟨#[]⟩] 64)).alloc (.cells #[.slice (some ⟨w10.heap.size + 1, 0, none⟩) 1 1] 65)).alloc (.cells #[.slice (some ⟨w10.heap.size + 1 + 1, 0, none⟩) 1 1] 66)) (((((w10.alloc (.cells #[.complex .f64 (fl vp) (fl vd), .slice E1 e2 e3] 33)).alloc (.cells #[.int .i64 4, .string ⟨#[121]⟩, .bool u, .int .i64 1, .int .i64 2, .int .i64 0, .string ⟨#[]⟩] 64)).alloc (.cells #[.slice (some ⟨w10.heap.size + 1, 0, none⟩) 1 1] 65)).alloc (.cells #[.slice (some ⟨w10.heap.size + 1 + 1, 0, none⟩) 1 1] 66)).setCell ⟨W8.heap.size + 1, 3, none⟩ (.slice (some ⟨w10.heap.size + 1 + 1 + 1, 0, none⟩) 1 1)) := ⟨by simp [World.setCell], fun x hx _ => Below.heap_setCell _ _ _ _ hx⟩
          have tg := er_tg (w10.alloc (.cells #[.complex .f64 (fl vp) (fl vd), .slice E1 e2 e3] 33)) (erMat u) (erm_ok u)
          simp only [size_al] at tg
          have tg2 : Tg ((((w10.alloc (.cells #[.complex .f64 (fl vp) (fl vd), .slice E1 e2 e3] 33)).alloc (.cells #[.int .i64 4, .string ⟨#[121]⟩, .bool u, .int .i64 1, .int .i64 2, .int .i64 0, .string ⟨#[]⟩] 64)).alloc (.cells #[.slice (some ⟨w10.heap.size + 1, 0, none⟩) 1 1] 65)).alloc (.cells #[.slice (some ⟨w10.heap.size + 1 + 1, 0, none⟩) 1 1] 66)) (fun x => w10.heap.size ≤ x) (some ⟨w10.heap.size + 1 + 1 + 1, 0, none⟩) 1 1 [[[erMat u]]] := Tg.keep tg (Kept.refl _ _) (fun x hx _ => by have h1 : _ ≤ x := hx; omega)
          have tg3 := (tg2.keep (R' := fun x => x ≠ W8.heap.size + 1) (Kept.refl _ _) (fun x hx _ => by have h1 : w10.heap.size ≤ x := hx; show x ≠ _; omega)).keep (R' := fun _ => True) KK (fun _ _ _ => trivial)
          have hin2 := EQ.out _ s8 _ _ _ tg3
          have oa := (Ob.made w10 33 #[.complex .f64 (fl vp) (fl vd), .slice E1 e2 e3]).keep (w' := ((((w10.alloc (.cells #[.complex .f64 (fl vp) (fl vd), .slice E1 e2 e3] 33)).alloc (.cells #[.int .i64 4, .string ⟨#[121]⟩, .bool u, .int .i64 1, .int .i64 2, .int .i64 0, .string ⟨#[]⟩] 64)).alloc (.cells #[.slice (some ⟨w10.heap.size + 1, 0, none⟩) 1 1] 65)).alloc (.cells #[.slice (some ⟨w10.heap.size + 1 + 1, 0, none⟩) 1 1] 66))) (((((Below.refl (w10.alloc (.cells #[.complex .f64 (fl vp) (fl vd), .slice E1 e2 e3] 33)).heap.size _).alloc (Nat.le_refl _) _).alloc (by simp only [size_al]; omega) _).alloc (by simp only [size_al]; omega) _).block _ (by rw [size_al]; omega))
          have oa2 := oa.keep (w' := ((((w10.alloc (.cells #[.complex .f64 (fl vp) (fl vd), .slice E1 e2 e3] 33)).alloc (.cells #[.int .i64 4, .string ⟨#[121]⟩, .bool u, .int .i64 1, .int .i64 2, .int .i64 0, .string ⟨#[]⟩] 64)).alloc (.cells #[.slice (some ⟨w10.heap.size + 1, 0, none⟩) 1 1] 65)).alloc (.cells #[.slice (some ⟨w10.heap.size + 1 + 1, 0, none⟩) 1 1] 66)).setCell ⟨W8.heap.size + 1, 3, none⟩ (.slice (some ⟨w10.heap.size + 1 + 1 + 1, 0, none⟩) 1 1)) (KK.2 _ (by show _ ≠ _; omega) oa.lt)
          have da := ((hd.keep (Kept.all f10 _) (fun _ h _ => h)).keep (R' := fun x => x ≠ W8.heap.size + 1) (Kept.refl _ _) (fun x hx _ => by have h1 := hx; simp only [size_al] at h1; show x ≠ _; omega)).keep (R' := fun _ => True) KK (fun _ _ _ => trivial)
          have OQ11 := Lib.hid oq2
          have OA11 := Lib.hid oa2
          have DA11 := Lib.hid da
          have HIN := Lib.hid hin2
          have R11 := Lib.hid (R9.out.then_ g10)
          have bw := BW.out.size
          have BW11 := Lib.hid ((below_step BW.out g10).setCell (p := ⟨W8.heap.size + 1, 3, none⟩) (by show W.heap.size ≤ W8.heap.size + 1; have h1 := B1.out.size; have h2 := HB8.out; omega) (.slice (some ⟨w10.heap.size + 1 + 1 + 1, 0, none⟩) 1 1))
          obtain ⟨W11, hW11⟩ : ∃ x, x = (((((w10.alloc (.cells #[.complex .f64 (fl vp) (fl vd), .slice E1 e2 e3] 33)).alloc (.cells #[.int .i64 4, .string ⟨#[121]⟩, .bool u, .int .i64 1, .int .i64 2, .int .i64 0, .string ⟨#[]⟩] 64)).alloc (.cells #[.slice (some ⟨w10.heap.size + 1, 0, none⟩) 1 1] 65)).alloc (.cells #[.slice (some ⟨w10.heap.size + 1 + 1, 0, none⟩) 1 1] 66)).setCell ⟨W8.heap.size + 1, 3, none⟩ (.slice (some ⟨w10.heap.size + 1 + 1 + 1, 0, none⟩) 1 1)) := ⟨_, rfl⟩
          rw [← hW11] at oq2 oa2 da hin2 BW11
          have s9' := s9
          rw [← hW11] at s9'
          have OQQ := Lib.hid oq2
          have OAQ := Lib.hid oa2
          have DAQ := Lib.hid da
          have HINQ := Lib.hid hin2
          have BWQ := Lib.hid BW11.out
          have RQ := Lib.hid (RI8.out.then_ s9')
          clear hb hd hs10 f10 g10 oq oq2 s8 s9 s9' KK tg tg2 tg3 hin2 oa oa2 da bw q q7 OQ11 OA11 DA11 HIN R11 BW11 EP EQ OQ9 R9 E9 E9' BW HB8
          go_upto_region 22 with fail
          rw [← hW11]
          clear hW11 c3 f3
          obtain ⟨⟨⟨xp, xd⟩, xob⟩, hx⟩ : ∃ q, (if u = true then (⟨indM (vp, vd), []⟩ : Res) else noRes) = q := ⟨_, rfl⟩
          have EP2 := Lib.hid (evpol_is (R2 := fun _ => True) (A := none) (n := 0) (c := 0) (HD2.out.trans hx) HR2.out HINQ.out (Rw.nil_ _ _ _ _) (fun g hg => by cases hg))
          have HX := Lib.hid hx
          clear hx
          have q7 := OQQ.out.c7e
          go_wp2_with fail
          refine (EP2.out).mono ?_
          rintro e w12 ⟨F1, f2, f3, rfl, hb, hd⟩
          have al : Below w12.heap.size w12 (w12.alloc (.cells #[.complex .f64 (fl xp) (fl xd), .slice F1 f2 f3] 33)) := ((Below.refl _ _).alloc (Nat.le_refl _) _)
          have hb2 := below_step hb al
          have BWQ := Lib.hid (below_step BWQ.out hb2)
          have OAQ := Lib.hid (OAQ.out.below hb2 OAQ.out.lt)
          have DAQ := Lib.hid (DAQ.out.keep (Kept.all hb2 _) (fun _ h _ => h))
          have RQ := Lib.hid (RQ.out.then_ hb2)
          have OCQ := Lib.hid (Ob.made w12 33 #[.complex .f64 (fl xp) (fl xd), .slice F1 f2 f3])
          have DCQ := Lib.hid (hd.keep (R' := fun _ => True) (Kept.all al _) (fun _ _ _ => trivial))
          clear hd q7
          clear hb hb2 al
          have OAF := Lib.hid OAQ.out
          have DAF := Lib.hid DAQ.out
          have RF := Lib.hid RQ.out
          have BWF := Lib.hid BWQ.out
          obtain ⟨X1, hX1⟩ : ∃ y, y = (w12.alloc (.cells #[.complex .f64 (fl xp) (fl xd), .slice F1 f2 f3] 33)) := ⟨_, rfl⟩
          have s1 : X1.heap.size = w12.heap.size + 1 := by rw [hX1, size_al]
          rw [← hX1] at OAF DAF RF BWF OCQ DCQ
          cases u
          · have al : Below X1.heap.size X1 (X1.alloc (.cells #[.complex .f64 0 0, .slice none 0 0] 33)) := (Below.refl _ _).alloc (Nat.le_refl _) _
            have OZ : Ob (X1.alloc (.cells #[.complex .f64 0 0, .slice none 0 0] 33)) (w12.heap.size + 1) 33 #[.complex .f64 0 0, .slice none 0 0] := by have h := Ob.made X1 33 #[.complex .f64 0 0, .slice none 0 0]; rw [s1] at h; exact h
            obtain ⟨E9, f9, h9, o9, d9⟩ := RF.out.then_ al
            have OR := Lib.hid o9
            have DR := Lib.hid d9
            have OA := Lib.hid (OAF.out.below al OAF.out.lt)
            have DA := Lib.hid (DAF.out.keep (Kept.all al _) (fun _ h _ => h))
            have OC := Lib.hid (OCQ.out.below al OCQ.out.lt)
            have DC := Lib.hid (DCQ.out.keep (Kept.all al _) (fun _ h _ => h))
            have BZ := Lib.hid (below_step BWF.out al)
            have OZZ := Lib.hid OZ
            have HXX : Hid ((xp, xd) = ((0, 0) : Mk) ∧ xob = []) := by have h := HX.out; rw [if_neg (by decide)] at h; exact ⟨(Res.mk.inj h).1.symm, (Res.mk.inj h).2.symm⟩
            clear al o9 d9 OZ
            have ca := OA.out.c2e
            have cr := OR.out.c2e
            rw [hX1] at ca cr
            go_wp2_with fail
            have S1 := Lib.hid (evsame_any vp vd DA.out DR.out)
            rw [hX1] at S1
            refine S1.out.mono ?_
            rintro e w13 ⟨rfl, hb⟩
            rw [← hX1] at hb
            have OC2 := Lib.hid (OC.out.below hb OC.out.lt)
            have OZ2 := Lib.hid (OZZ.out.below hb OZZ.out.lt)
            have DC2 := Lib.hid (DC.out.keep (Kept.all hb _) (fun _ h _ => h))
            have BZ2 := Lib.hid (below_step BZ.out hb)
            clear hb ca cr
            have cc := OC2.out.c2e
            have cz := OZ2.out.c2e
            go_wp2_with fail
            refine (evsame_at rfl mc_na HXX.out.1 HXX.out.2 DC2.out (Rw.nil_ 3 _ _ (fun _ => True))).mono ?_
            rintro e w14 ⟨rfl, hb⟩
            have BZ3 := Lib.hid (below_step BZ2.out hb)
            clear hb cc cz
            go_wp2_with fail
            refine (evruns_any _).mono ?_
            rintro e w15 ⟨rfl, hb⟩
            have BZ4 := Lib.hid (below_step BZ3.out hb)
            clear hb
            go_wp2_with fail
            go_ret
            exact ⟨rfl, BZ4.out⟩
          · have al : Below X1.heap.size X1 (X1.alloc (.cells #[.complex .f64 (fl (indetP vp vd)) (fl (indetD vp vd)), .slice none 0 0] 33)) := (Below.refl _ _).alloc (Nat.le_refl _) _
            have OZ : Ob (X1.alloc (.cells #[.complex .f64 (fl (indetP vp vd)) (fl (indetD vp vd)), .slice none 0 0] 33)) (w12.heap.size + 1) 33 #[.complex .f64 (fl (indetP vp vd)) (fl (indetD vp vd)), .slice none 0 0] := by have h := Ob.made X1 33 #[.complex .f64 (fl (indetP vp vd)) (fl (indetD vp vd)), .slice none 0 0]; rw [s1] at h; exact h
            obtain ⟨E9, f9, h9, o9, d9⟩ := RF.out.then_ al
            have OR := Lib.hid o9
            have DR := Lib.hid d9
            have OA := Lib.hid (OAF.out.below al OAF.out.lt)
            have DA := Lib.hid (DAF.out.keep (Kept.all al _) (fun _ h _ => h))
            have OC := Lib.hid (OCQ.out.below al OCQ.out.lt)
            have DC := Lib.hid (DCQ.out.keep (Kept.all al _) (fun _ h _ => h))
            have BZ := Lib.hid (below_step BWF.out al)
            have OZZ := Lib.hid OZ
            have al0 : Below X1.heap.size X1 (X1.alloc (.cells #[.complex .f64 0 0, .slice none 0 0] 33)) := (Below.refl _ _).alloc (Nat.le_refl _) _
            obtain ⟨E8, f8, h8, o8, d8⟩ := RF.out.then_ al0
            have OZ0 : Ob (X1.alloc (.cells #[.complex .f64 0 0, .slice none 0 0] 33)) (w12.heap.size + 1) 33 #[.complex .f64 0 0, .slice none 0 0] := by have h := Ob.made X1 33 #[.complex .f64 0 0, .slice none 0 0]; rw [s1] at h; exact h
            have HI := Lib.hid (indet_any vp vd)
            have c8 := o8.c2e
            have cz := OZ0.c2e
            have fz := OZ0.f2e
            have HXX : Hid ((xp, xd) = (indetP vp vd, indetD vp vd) ∧ xob = []) := by have h := HX.out; rw [if_pos rfl] at h; exact ⟨(Res.mk.inj h).1.symm, (Res.mk.inj h).2.symm⟩
            clear al al0 o9 d9 o8 d8 OZ OZ0
            rw [hX1] at c8 cz fz
            go_wp2_with fail
            refine (HI.out _).mono ?_
            rintro z' w' ⟨rfl, rfl⟩
            clear c8 cz fz
            have ca := OA.out.c2e
            have cr := OR.out.c2e
            rw [hX1] at ca cr
            go_wp2_with fail
            have S1 := Lib.hid (evsame_any vp vd DA.out DR.out)
            rw [hX1] at S1
            refine S1.out.mono ?_
            rintro e w13 ⟨rfl, hb⟩
            rw [← hX1] at hb
            have OC2 := Lib.hid (OC.out.below hb OC.out.lt)
            have OZ2 := Lib.hid (OZZ.out.below hb OZZ.out.lt)
            have DC2 := Lib.hid (DC.out.keep (Kept.all hb _) (fun _ h _ => h))
            have BZ2 := Lib.hid (below_step BZ.out hb)
            clear hb ca cr
            have cc := OC2.out.c2e
            have cz := OZ2.out.c2e
            go_wp2_with fail
            refine (evsame_at rfl rfl HXX.out.1 HXX.out.2 DC2.out (Rw.nil_ 3 _ _ (fun _ => True))).mono ?_
            rintro e w14 ⟨rfl, hb⟩
            have BZ3 := Lib.hid (below_step BZ2.out hb)
            clear hb cc cz
            go_wp2_with fail
            refine (evruns_any _).mono ?_
            rintro e w15 ⟨rfl, hb⟩
            have BZ4 := Lib.hid (below_step BZ3.out hb)
            clear hb
            go_wp2_with fail
            go_ret
            exact ⟨rfl, BZ4.out⟩
end Go.Proofs.YtmoglaknmlhpgaaGreat

