/- ShowParts: the walk. -/
import Derived.Test.YtdbnaaddocahpaaGreatDoorTenJ
import Derived.Test.YtdbnaaddocahpaaGreatDoorShowCalls
import Derived.Lib.MinMax
namespace Go.Proofs.YtdbnaaddocahpaaGreatDoor
set_option linter.unusedVariables false
open Go.RowKit

def partR (t : Tgt) (l : List Nod) : Rul := ⟨⟨#[114]⟩, false, t, l, []⟩
def partP (t : Tgt) (l : List Nod) : Pol := .mk ⟨#[112]⟩ false 3 [] [partR t l] [] []
theorem part_fine {t : Tgt} {l : List Nod} (h : rightE (partP t l) = 0) : (partR t l).fine := by
  have e0 : polS 4 (partP t l) ⟨[], 0⟩ = (0, (polS 4 (partP t l) ⟨[], 0⟩).2) := by unfold rightE at h; rw [← h]
  obtain ⟨_, _, _, _, _, s1, s2, _, hr, _⟩ := pol_parts e0
  exact rules_fine hr _ (by simp [partP, Pol.rules])
theorem joinTail_app (sep : List UInt8) (a b : List (List UInt8)) : Lib.joinTail sep (a ++ b) = Lib.joinTail sep a ++ Lib.joinTail sep b := by simp [Lib.joinTail]
/-- A policy's text ends with its rule's condition. -/
theorem part_tail {t : Tgt} {l : List Nod} (hn : l ≠ []) : ∃ X, polT (partP t l) = X ++ ([32, 105, 102, 32] ++ exprS l ++ [59, 32, 125]) := by
  have hc : condW l = [[105, 102], exprS l] := by unfold condW; rw [if_neg hn]
  have hr : rulT (partR t l) = effW false ++ Lib.joinTail [32] (bl ⟨#[114]⟩ :: tgW t) ++ (32 :: 105 :: 102 :: 32 :: exprS l) ++ [59] := by
    have e : rulW (partR t l) = effW false :: ((bl ⟨#[114]⟩ :: tgW t) ++ [[105, 102], exprS l]) := by
      unfold rulW partR
      rw [hc]
      simp
    unfold rulT
    rw [e, Lib.join_cons, joinTail_app]
    simp [Lib.joinTail]
  have hp : polW 4 (partP t l) = headW (partP t l) :: ([bl ⟨#[112]⟩, algW 3, [123]] ++ [rulT (partR t l), [125]]) := rfl
  unfold polT
  rw [hp, Lib.join_cons, joinTail_app, hr]
  refine ⟨headW (partP t l) ++ Lib.joinTail [32] [bl ⟨#[112]⟩, algW 3, [123]] ++ [32] ++ (effW false ++ Lib.joinTail [32] (bl ⟨#[114]⟩ :: tgW t)), ?_⟩
  simp [Lib.joinTail]
theorem attrS_ne {a : Atr} (h : attrB a = true) : attrS a ≠ [] := by
  unfold attrS attrT
  rw [if_pos h]
  simp
theorem tree_ne {t : Xt} (hf : t.fits) : t.txt ≠ [] := by
  cases t with
  | leaf n =>
    obtain ⟨ho, hh⟩ := hf
    simp only [Xt.txt, nodeT]
    rcases ho with ho | ho
    · rw [if_pos ho]; exact show_ne (holds_lit hh ho).1
    · rw [if_neg (by omega), if_pos ho]; exact attrS_ne (holds_att hh ho).1
  | one n x =>
    have hn := one_op hf.2.1
    simp only [Xt.txt]
    rw [nodeT_fun hn.1 hn.2]; simp
  | two n x y =>
    have hn := two_op hf.2.1
    simp only [Xt.txt]
    rw [nodeT_fun hn.1 hn.2]; simp
theorem exprS_ne {l : List Nod} (h : exprE l = 0) (hn : l ≠ []) : exprS l ≠ [] := by
  unfold exprS
  rw [if_pos ⟨hn, h⟩]
  obtain ⟨t, hf, _, _, ht, _⟩ := expr_tree h hn
  rw [ht]
  exact tree_ne hf
theorem parts_in (W : World) {A1 A2 : Option Addr} {p0 c1 n2 c2 : Nat} {l : List Nod} {t : Tgt} (h1 : Nds W (fun _ => True) A1 p0 c1 l) (h2 : Tg W (fun _ => True) A2 n2 c2 t) :
    Below W.heap.size W (((W.alloc (.cells #[.string ⟨#[114]⟩, .bool false, .slice A2 n2 c2, .slice A1 p0 c1, .slice none 0 0] 48)).alloc (.cells #[.string ⟨#[114]⟩, .bool false, .slice A2 n2 c2, .slice A1 p0 c1, .slice none 0 0] 48)).alloc (.cells #[.string ⟨#[112]⟩, .bool false, .int .i64 3, .slice none 0 0, .slice (some ⟨W.heap.size + 1, 0, none⟩) 1 1, .slice none 0 0, .slice none 0 0] 28)) ∧ Ob (((W.alloc (.cells #[.string ⟨#[114]⟩, .bool false, .slice A2 n2 c2, .slice A1 p0 c1, .slice none 0 0] 48)).alloc (.cells #[.string ⟨#[114]⟩, .bool false, .slice A2 n2 c2, .slice A1 p0 c1, .slice none 0 0] 48)).alloc (.cells #[.string ⟨#[112]⟩, .bool false, .int .i64 3, .slice none 0 0, .slice (some ⟨W.heap.size + 1, 0, none⟩) 1 1, .slice none 0 0, .slice none 0 0] 28)) (W.heap.size + 1 + 1) 28 #[.string ⟨#[112]⟩, .bool false, .int .i64 3, .slice none 0 0, .slice (some ⟨W.heap.size + 1, 0, none⟩) 1 1, .slice none 0 0, .slice none 0 0] ∧
      PolIn (((W.alloc (.cells #[.string ⟨#[114]⟩, .bool false, .slice A2 n2 c2, .slice A1 p0 c1, .slice none 0 0] 48)).alloc (.cells #[.string ⟨#[114]⟩, .bool false, .slice A2 n2 c2, .slice A1 p0 c1, .slice none 0 0] 48)).alloc (.cells #[.string ⟨#[112]⟩, .bool false, .int .i64 3, .slice none 0 0, .slice (some ⟨W.heap.size + 1, 0, none⟩) 1 1, .slice none 0 0, .slice none 0 0] 28)) (fun _ => True) (partP t l) none 0 0 (some ⟨W.heap.size + 1, 0, none⟩) 1 1 none 0 0 none 0 0 := by
  obtain ⟨w1, e1⟩ : ∃ x, x = W.alloc (.cells #[.string ⟨#[114]⟩, .bool false, .slice A2 n2 c2, .slice A1 p0 c1, .slice none 0 0] 48) := ⟨_, rfl⟩
  rw [← e1]
  have b1 : Below W.heap.size W w1 := e1 ▸ al9' _ _
  have s1 : w1.heap.size = W.heap.size + 1 := by rw [e1]; exact size_al _ _
  obtain ⟨w2, e2⟩ : ∃ x, x = w1.alloc (.cells #[.string ⟨#[114]⟩, .bool false, .slice A2 n2 c2, .slice A1 p0 c1, .slice none 0 0] 48) := ⟨_, rfl⟩
  rw [← e2]
  have b2 : Below w1.heap.size w1 w2 := e2 ▸ al9' _ _
  have s2 : w2.heap.size = w1.heap.size + 1 := by rw [e2]; exact size_al _ _
  obtain ⟨w3, e3⟩ : ∃ x, x = w2.alloc (.cells #[.string ⟨#[112]⟩, .bool false, .int .i64 3, .slice none 0 0, .slice (some ⟨W.heap.size + 1, 0, none⟩) 1 1, .slice none 0 0, .slice none 0 0] 28) := ⟨_, rfl⟩
  rw [← e3]
  have b3 : Below w2.heap.size w2 w3 := e3 ▸ al9' _ _
  have f1 : Below w1.heap.size w1 w3 := below_step b2 b3
  have f0 : Below W.heap.size W w3 := below_step b1 f1
  have o2 : Ob w3 (W.heap.size + 1) 48 #[.string ⟨#[114]⟩, .bool false, .slice A2 n2 c2, .slice A1 p0 c1, .slice none 0 0] := made10 (e2 ▸ b3) (by omega)
  have o3 : Ob w3 (W.heap.size + 1 + 1) 28 #[.string ⟨#[112]⟩, .bool false, .int .i64 3, .slice none 0 0, .slice (some ⟨W.heap.size + 1, 0, none⟩) 1 1, .slice none 0 0, .slice none 0 0] := by
    have hh := Ob.made w2 28 #[.string ⟨#[112]⟩, .bool false, .int .i64 3, .slice none 0 0, .slice (some ⟨W.heap.size + 1, 0, none⟩) 1 1, .slice none 0 0, .slice none 0 0]
    rw [← e3, show w2.heap.size = W.heap.size + 1 + 1 by omega] at hh
    exact hh
  have k := Kept.all f0 (fun _ => True)
  have ru := ob_rus (r := partR t l) o2 (by show (1 : Nat) ≤ maxLen; unfold maxLen; omega) ⟨_, _, _, rfl, h2.keep k (fun _ h _ => h)⟩ ⟨_, _, _, rfl, h1.keep k (fun _ h _ => h)⟩ ⟨_, _, _, rfl, Rw.nil_ _ _ _ _⟩
  exact ⟨f0, o3, ⟨by show (1 : Nat) ≤ maxLen; unfold maxLen; omega, by show InI 3; unfold InI; omega⟩, Rw.nil_ _ _ _ _, ru, ⟨1, Rw.nil_ _ _ _ _⟩, Rw.nil_ _ _ _ _⟩

set_option maxRecDepth 100000 in
set_option maxHeartbeats 12800000 in
theorem showParts_walk (W : World) (A1 : Option Addr) (n1 c1 : Nat) (h0 : ∃ l, Nds W (fun _ => True) A1 n1 c1 l) (A2 : Option Addr) (n2 c2 : Nat) (h1 : ∃ t, Tg W (fun _ => True) A2 n2 c2 t) (htab : Tbl W) :
    Calls Tryz.prog 6 #[.slice A1 n1 c1, .slice A2 n2 c2] W fun e w' => e = .returned (.bool true) ∧ Below W.heap.size W w' := by
  obtain ⟨l0, h0⟩ := h0
  obtain ⟨t, h1⟩ := h1
  have HTB : Hid (∀ V, Below W.heap.size W V → Tbl V) := fun V hb => htab.then_ hb
  have HR := Lib.hid (fun w ht => runs10_any w ht)
  have b0 := Rw.le h0
  have m0 := Rw.cap h0
  unfold maxLen at m0
  have x0 : (0 : Int) ≤ min (n1 : Int) 32 := by omega
  have y0 : min (n1 : Int) 32 ≤ (c1 : Int) := by omega
  have T0 : Hid (Nds W (fun _ => True) A1 (min (n1 : Int) 32).toNat c1 (l0.take (min (n1 : Int) 32).toNat)) := h0.take (by omega)
  have T1 := Lib.hid h1
  have hp32 : (min (n1 : Int) 32).toNat ≤ 32 := by omega
  clear htab h0 h1
  go_enter Tryz.func6, Tryz.ntmps6
  go_wp2_with fail
  clear x0 y0 b0
  generalize min (n1 : Int) 32 = z0 at *
  generalize z0.toNat = p0 at *
  generalize l0.take p0 = L at *
  obtain ⟨hb, hob, hin⟩ := parts_in W T0.out T1.out
  have B0 := Lib.hid hb
  have OB := Lib.hid hob
  have PI := Lib.hid hin
  have LL := Lib.hid (Rw.len T0.out)
  have hLok := Rw.all T0.out
  obtain ⟨d, _, hsm⟩ := call_small hin
  have HS := Lib.hid hsm
  clear hb hob hin hsm
  generalize ((W.alloc (.cells #[.string ⟨#[114]⟩, .bool false, .slice A2 n2 c2, .slice A1 p0 c1, .slice none 0 0] 48)).alloc (.cells #[.string ⟨#[114]⟩, .bool false, .slice A2 n2 c2, .slice A1 p0 c1, .slice none 0 0] 48)).alloc (.cells #[.string ⟨#[112]⟩, .bool false, .int .i64 3, .slice none 0 0, .slice (some ⟨W.heap.size + 1, 0, none⟩) 1 1, .slice none 0 0, .slice none 0 0] 28) = V0 at *
  obtain ⟨P, hP⟩ : ∃ P, P = partP t L := ⟨_, rfl⟩
  have hPc : P.id = ⟨#[112]⟩ ∧ P.set = false ∧ P.alg = 3 := by rw [hP]; exact ⟨rfl, rfl, rfl⟩
  rw [← hP] at PI HS
  generalize hsb : decide (polC d P ≤ 3000) = sb at *
  clear hsb
  have SM : Hid (∀ V, Below V0.heap.size V0 V → Calls Tryz.prog 7 #[.agg #[.string ⟨#[112]⟩, .bool false, .int .i64 3, .slice none 0 0, .slice (some ⟨W.heap.size + 1, 0, none⟩) 1 1, .slice none 0 0, .slice none 0 0]] V fun e w' => e = .returned (.bool sb) ∧ Below V.heap.size V w') := fun V hV => by have := HS.out V hV; rw [hPc.1, hPc.2.1, hPc.2.2] at this; exact this
  have RT : Hid (∀ V, Below V0.heap.size V0 V → Calls Tryz.prog 19 #[.agg #[.string ⟨#[112]⟩, .bool false, .int .i64 3, .slice none 0 0, .slice (some ⟨W.heap.size + 1, 0, none⟩) 1 1, .slice none 0 0, .slice none 0 0]] V fun e w' => e = .returned (.int .i64 (rightE P)) ∧ Below V.heap.size V w') := fun V hV => by have := call_right rfl PI.out V hV; rw [hPc.1, hPc.2.1, hPc.2.2] at this; exact this
  have SH : Hid (∀ V, Below V0.heap.size V0 V → Calls Tryz.prog 14 #[.agg #[.string ⟨#[112]⟩, .bool false, .int .i64 3, .slice none 0 0, .slice (some ⟨W.heap.size + 1, 0, none⟩) 1 1, .slice none 0 0, .slice none 0 0]] V fun e w' => e = .returned (.string ⟨(showP P).toArray⟩) ∧ Below V.heap.size V w') := fun V hV => by have := show_pol (PI.out.then_ hV) (HTB.out _ (B0.out.trans (hV.mono B0.out.size))); rw [hPc.1, hPc.2.1, hPc.2.2] at this; exact this
  clear HS hPc
  go_at_call 7
  refine (SM.out _ (Below.refl _ _)).mono ?_
  rintro e u1 ⟨rfl, hb⟩
  have G0 := Lib.hid hb
  have G1 := Lib.hid (below_step B0.out hb)
  have X1 := Lib.hid (OB.out.below hb OB.out.lt)
  clear hb
  cases sb
  · go_wp2_with fail
    go_at_call 8
    refine (HR.out _ (HTB.out _ G1.out)).mono ?_
    rintro xr wr ⟨rfl, hb⟩
    have BR := Lib.hid (below_step G1.out hb)
    clear hb
    go_wp2_with fail
    go_ret
    exact ⟨rfl, BR.out⟩
  by_cases e0 : rightE P = 0
  case neg =>
    obtain ⟨r, hr⟩ : ∃ r, r = rightE P := ⟨_, rfl⟩
    rw [← hr] at e0 RT
    have hne : (r != 0) = true := by simpa using e0
    clear e0 hr
    have k0 := X1.out.cell 0
    have k1 := X1.out.cell 1
    have k2 := X1.out.cell 2
    have k3 := X1.out.cell 3
    have k4 := X1.out.cell 4
    have k5 := X1.out.cell 5
    have k6 := X1.out.cell 6
    go_wp2_with fail
    go_at_call 19
    refine (RT.out _ G0.out).mono ?_
    rintro e u2 ⟨rfl, hb⟩
    have G2 := Lib.hid (below_step G1.out hb)
    clear hb
    go_wp2_with fail
    go_at_call 8
    refine (HR.out _ (HTB.out _ G2.out)).mono ?_
    rintro xr wr ⟨rfl, hb⟩
    have BR := Lib.hid (below_step G2.out hb)
    clear hb
    go_wp2_with fail
    go_ret
    exact ⟨rfl, BR.out⟩
  case pos =>
    rw [e0] at RT
    have hfine := part_fine (by rw [← hP]; exact e0)
    have hEx : exprE L = 0 := hfine.2.2.1
    have hok := PI.out.oks 4
    obtain ⟨x, hx, hx1, hx2, hx3⟩ := text_of e0 hok
    rw [← hx] at SH
    have hbx : bl x = polT P := by rw [hx, showP_right e0]; rfl
    obtain ⟨y, hy⟩ : ∃ y : ByteArray, y = ⟨(exprS L).toArray⟩ := ⟨_, rfl⟩
    have hys : y.size ≤ 14000 := by rw [hy]; exact expr_len hEx hLok
    have CX : Hid (∀ V, Below W.heap.size W V → Calls Tryz.prog 16 #[.slice A1 p0 c1] V fun e w' => e = .returned (.string y) ∧ Below V.heap.size V w') := fun V hV => by
      rw [hy]; exact show_expr V (T0.out.keep (Kept.all hV _) (fun _ h _ => h)) (HTB.out _ hV)
    have HTL : Hid (L ≠ [] → ∃ k, (x.size : Int) - ((⟨#[32, 105, 102, 32]⟩ ++ y ++ ⟨#[59, 32, 125]⟩ : ByteArray).size : Int) = ((k : Nat) : Int) ∧ k ≤ x.size ∧ x.extract k x.size = ⟨#[32, 105, 102, 32]⟩ ++ y ++ ⟨#[59, 32, 125]⟩ ∧ (⟨#[32, 105, 102, 32]⟩ ++ y ++ ⟨#[59, 32, 125]⟩ : ByteArray).size ≤ x.size) := fun hn => by
      obtain ⟨X, hX⟩ := part_tail (t := t) hn
      rw [← hP, ← hbx] at hX
      have hT : bl (⟨#[32, 105, 102, 32]⟩ ++ y ++ ⟨#[59, 32, 125]⟩) = [32, 105, 102, 32] ++ exprS L ++ [59, 32, 125] := by rw [bl_app, bl_app, hy]; rfl
      rw [← hT] at hX
      have hsz : x.size = X.length + (⟨#[32, 105, 102, 32]⟩ ++ y ++ ⟨#[59, 32, 125]⟩ : ByteArray).size := by
        have : x.size = (bl x).length := rfl
        rw [this, hX, List.length_append]
        rfl
      refine ⟨X.length, by omega, by omega, ?_, by omega⟩
      apply text_eq
      rw [bl_extract, hX, List.drop_left, List.take_of_length_le]
      have : (bl (⟨#[32, 105, 102, 32]⟩ ++ y ++ ⟨#[59, 32, 125]⟩)).length = (⟨#[32, 105, 102, 32]⟩ ++ y ++ ⟨#[59, 32, 125]⟩ : ByteArray).size := rfl
      rw [this]
      omega
    have HYN : Hid (L ≠ [] → (y.toList == []) = false) := fun hn => by
      rw [beq_eq_false_iff_ne, ByteArray.toList_eq]
      intro h
      exact exprS_ne hEx hn (by rw [hy] at h; exact h)
    have HYE : Hid (L = [] → (y.toList == []) = true) := fun hn => by
      rw [beq_iff_eq, ByteArray.toList_eq, hy, hn]
      rfl
    have HPQ : Hid (P.rules = [partR t L]) := by rw [hP]; rfl
    clear hfine hok hx hbx hy hP hEx hLok e0
    have k0 := X1.out.cell 0
    have k1 := X1.out.cell 1
    have k2 := X1.out.cell 2
    have k3 := X1.out.cell 3
    have k4 := X1.out.cell 4
    have k5 := X1.out.cell 5
    have k6 := X1.out.cell 6
    go_wp2_with fail
    go_at_call 19
    refine (RT.out _ G0.out).mono ?_
    rintro e u2 ⟨rfl, hb⟩
    have G0b := Lib.hid (below_step G0.out hb)
    have G2 := Lib.hid (below_step G1.out hb)
    have X2 := Lib.hid (X1.out.below hb X1.out.lt)
    clear hb k0 k1 k2 k3 k4 k5 k6
    go_wp2_with fail
    go_at_call 16
    refine (CX.out _ G2.out).mono ?_
    rintro e u3 ⟨rfl, hb⟩
    have G0c := Lib.hid (below_step G0b.out hb)
    have G3 := Lib.hid (below_step G2.out hb)
    have X3 := Lib.hid (X2.out.below hb X2.out.lt)
    clear hb
    have k0 := X3.out.cell 0
    have k1 := X3.out.cell 1
    have k2 := X3.out.cell 2
    have k3 := X3.out.cell 3
    have k4 := X3.out.cell 4
    have k5 := X3.out.cell 5
    have k6 := X3.out.cell 6
    go_wp2_with fail
    go_at_call 14
    refine (SH.out _ G0c.out).mono ?_
    rintro e u4 ⟨rfl, hb⟩
    have G4 := Lib.hid (below_step G3.out hb)
    clear hb k0 k1 k2 k3 k4 k5 k6
    by_cases hz : p0 = 0
    · have hL : L = [] := List.eq_nil_of_length_eq_zero (by rw [LL.out]; exact hz)
      have hye := HYE.out hL
      have z1 : ¬ (0 : Int) < (p0 : Int) := by omega
      have z2 : ((p0 : Int) == 0) = true := by rw [beq_iff_eq]; omega
      have HZ := Lib.hid hz
      clear hz hL HYN HYE HTL
      rcases hx3 with ⟨hbig, hpr⟩ | ⟨hbig, hpr⟩
      · have hb4 : (4096 : Int) < (x.size : Int) := by omega
        have HC2 := Lib.hid (fun w => parse_in (w := w) hpr (by unfold maxLen; omega))
        clear hpr hbig
        go_wp2_with fail
        go_at_call 20
        refine (HC2.out _).mono ?_
        rintro e u5 ⟨B1, m1, l1, B2, m2, l2, B3, m3, l3, B4, m4, l4, rfl, hb3, hp3⟩
        have G5 := Lib.hid (below_step G4.out hb3)
        have hba : Below u5.heap.size u5 (u5.alloc (.cells #[.string noPol.id, .bool noPol.set, .int .i64 noPol.alg, .slice B1 m1 l1, .slice B2 m2 l2, .slice B3 m3 l3, .slice B4 m4 l4] 28)) := al9' _ _
        have G6 := Lib.hid (below_step G5.out hba)
        clear hb3 hp3 hba
        go_wp2_with fail
        go_at_call 8
        refine (HR.out _ (HTB.out _ G6.out)).mono ?_
        rintro xr wr ⟨rfl, hb⟩
        have BR := Lib.hid (below_step G6.out hb)
        clear hb
        go_wp2_with fail
        go_ret
        exact ⟨rfl, BR.out⟩
      · have hb4 : ¬ (4096 : Int) < (x.size : Int) := by omega
        have HC2 := Lib.hid (fun w => parse_in (w := w) hpr (by unfold maxLen; omega))
        clear hpr hbig
        go_wp2_with fail
        go_at_call 20
        refine (HC2.out _).mono ?_
        rintro e u5 ⟨B1, m1, l1, B2, m2, l2, B3, m3, l3, B4, m4, l4, rfl, hb3, hp3⟩
        have G5 := Lib.hid (below_step G4.out hb3)
        have hba : Below u5.heap.size u5 (u5.alloc (.cells #[.string P.id, .bool P.set, .int .i64 P.alg, .slice B1 m1 l1, .slice B2 m2 l2, .slice B3 m3 l3, .slice B4 m4 l4] 28)) := al9' _ _
        have G6 := Lib.hid (below_step G5.out hba)
        have PJ := Lib.hid (hp3.then_ hba)
        have OQ := Lib.hid (Ob.made u5 28 #[.string P.id, .bool P.set, .int .i64 P.alg, .slice B1 m1 l1, .slice B2 m2 l2, .slice B3 m3 l3, .slice B4 m4 l4])
        clear hb3 hp3 hba
        obtain ⟨_, _, gr, _, _⟩ := PJ.out
        rw [HPQ.out] at gr
        have hm2 := Rw.len gr
        obtain rfl : m2 = 1 := by simpa using hm2.symm
        obtain ⟨b, o, r, E1, j1, d1, E2, j2, d2, E3, j3, d3, rfl, _, _, hxr, _, ⟨r0, r1, r2, r3, r4⟩, t1, t2, t3⟩ := gr.at_ (j := 0) (by omega)
        obtain rfl : r = partR t L := by simpa using hxr.symm
        rw [Nat.zero_mul, Nat.add_zero] at r0 r1 r2 r3 r4
        obtain rfl : p0 = j2 := by have h2 : L.length = j2 := Rw.len t2; rw [← h2]; exact LL.out.symm
        obtain rfl : n2 = j1 := by have h2 : t.length = j1 := Rw.len t1; rw [← h2]; exact (Rw.len T1.out).symm
        have q4 := OQ.out.cell 4
        have G6s := Lib.hid G6.out.size
        have N1 := Lib.hid (fun (V : World) (hb : Below (u5.alloc (.cells #[.string P.id, .bool P.set, .int .i64 P.alg, .slice B1 m1 l1, .slice (some ⟨b, o, none⟩) 1 l2, .slice B3 m3 l3, .slice B4 m4 l4] 28)).heap.size (u5.alloc (.cells #[.string P.id, .bool P.set, .int .i64 P.alg, .slice B1 m1 l1, .slice (some ⟨b, o, none⟩) 1 l2, .slice B3 m3 l3, .slice B4 m4 l4] 28)) V) => same_nod (R := fun _ => True) (R' := fun _ => True) (t2.keep (Kept.all hb _) (fun _ h _ => h)) (T0.out.keep (Kept.all (below_step G6.out hb) _) (fun _ h _ => h)))
        have N2 := Lib.hid (fun (V : World) (hb : Below (u5.alloc (.cells #[.string P.id, .bool P.set, .int .i64 P.alg, .slice B1 m1 l1, .slice (some ⟨b, o, none⟩) 1 l2, .slice B3 m3 l3, .slice B4 m4 l4] 28)).heap.size (u5.alloc (.cells #[.string P.id, .bool P.set, .int .i64 P.alg, .slice B1 m1 l1, .slice (some ⟨b, o, none⟩) 1 l2, .slice B3 m3 l3, .slice B4 m4 l4] 28)) V) => same_tgt (R := fun _ => True) (R' := fun _ => True) (t1.keep (Kept.all hb _) (fun _ h _ => h)) (T1.out.keep (Kept.all (below_step G6.out hb) _) (fun _ h _ => h)))
        have v2 := fun (V : World) (hb : Below (u5.alloc (.cells #[.string P.id, .bool P.set, .int .i64 P.alg, .slice B1 m1 l1, .slice (some ⟨b, o, none⟩) 1 l2, .slice B3 m3 l3, .slice B4 m4 l4] 28)).heap.size (u5.alloc (.cells #[.string P.id, .bool P.set, .int .i64 P.alg, .slice B1 m1 l1, .slice (some ⟨b, o, none⟩) 1 l2, .slice B3 m3 l3, .slice B4 m4 l4] 28)) V) => (hb.cell (block_lt_of_cell r2)).trans r2
        have VV2 := Lib.hid v2
        have OQL := Lib.hid OQ.out.lt
        clear gr hm2 hxr t1 t2 t3 v2
        go_wp2_with fail
        go_at_call 21
        refine (N1.out _ (Below.refl _ _)).mono ?_
        rintro e u7 ⟨rfl, hb⟩
        have H7 := Lib.hid hb
        have G7 := Lib.hid (below_step G6.out hb)
        have q4' := (OQ.out.below hb OQ.out.lt).cell 4
        have r2' := VV2.out _ hb
        clear hb q4 r0 r1 r2 r3 r4
        go_wp2_with fail
        go_at_call 22
        refine (N2.out _ H7.out).mono ?_
        rintro e u8 ⟨rfl, hb⟩
        have G8 := Lib.hid (below_step G7.out hb)
        clear hb
        go_wp2_with fail
        go_at_call 8
        refine (HR.out _ (HTB.out _ G8.out)).mono ?_
        rintro xr wr ⟨rfl, hb⟩
        have BR := Lib.hid (below_step G8.out hb)
        clear hb
        go_wp2_with fail
        go_ret
        exact ⟨rfl, BR.out⟩
    · have hL : L ≠ [] := by rintro rfl; exact hz (by rw [← LL.out]; rfl)
      have hye := HYN.out hL
      have z1 : (0 : Int) < (p0 : Int) := by omega
      have z2 : ((p0 : Int) == 0) = false := by rw [beq_eq_false_iff_ne]; omega
      obtain ⟨k, hk1, hk2, hk3, hk4⟩ := HTL.out hL
      have HZ := Lib.hid hz
      clear hz hL HYN HYE HTL
      go_upto_region 10 with fail
      generalize (⟨#[32, 105, 102, 32]⟩ ++ y ++ ⟨#[59, 32, 125]⟩ : ByteArray) = tl at *
      have hk5 : ¬ (x.size : Int) < (tl.size : Int) := by omega
      have hk6 : ((x.extract k x.size).toList == tl.toList) = true := by rw [hk3]; simp
      have hk7 : (0 : Int) ≤ (x.size : Int) - (tl.size : Int) ∧ (x.size : Int) - (tl.size : Int) ≤ x.size := by omega
      clear hk3
      rcases hx3 with ⟨hbig, hpr⟩ | ⟨hbig, hpr⟩
      · have hb4 : (4096 : Int) < (x.size : Int) := by omega
        have HC2 := Lib.hid (fun w => parse_in (w := w) hpr (by unfold maxLen; omega))
        clear hpr hbig
        go_wp2_with fail
        go_at_call 20
        refine (HC2.out _).mono ?_
        rintro e u5 ⟨B1, m1, l1, B2, m2, l2, B3, m3, l3, B4, m4, l4, rfl, hb3, hp3⟩
        have G5 := Lib.hid (below_step G4.out hb3)
        have hba : Below u5.heap.size u5 (u5.alloc (.cells #[.string noPol.id, .bool noPol.set, .int .i64 noPol.alg, .slice B1 m1 l1, .slice B2 m2 l2, .slice B3 m3 l3, .slice B4 m4 l4] 28)) := al9' _ _
        have G6 := Lib.hid (below_step G5.out hba)
        clear hb3 hp3 hba
        go_wp2_with fail
        go_at_call 8
        refine (HR.out _ (HTB.out _ G6.out)).mono ?_
        rintro xr wr ⟨rfl, hb⟩
        have BR := Lib.hid (below_step G6.out hb)
        clear hb
        go_wp2_with fail
        go_ret
        exact ⟨rfl, BR.out⟩
      · have hb4 : ¬ (4096 : Int) < (x.size : Int) := by omega
        have HC2 := Lib.hid (fun w => parse_in (w := w) hpr (by unfold maxLen; omega))
        clear hpr hbig
        go_wp2_with fail
        go_at_call 20
        refine (HC2.out _).mono ?_
        rintro e u5 ⟨B1, m1, l1, B2, m2, l2, B3, m3, l3, B4, m4, l4, rfl, hb3, hp3⟩
        have G5 := Lib.hid (below_step G4.out hb3)
        have hba : Below u5.heap.size u5 (u5.alloc (.cells #[.string P.id, .bool P.set, .int .i64 P.alg, .slice B1 m1 l1, .slice B2 m2 l2, .slice B3 m3 l3, .slice B4 m4 l4] 28)) := al9' _ _
        have G6 := Lib.hid (below_step G5.out hba)
        have PJ := Lib.hid (hp3.then_ hba)
        have OQ := Lib.hid (Ob.made u5 28 #[.string P.id, .bool P.set, .int .i64 P.alg, .slice B1 m1 l1, .slice B2 m2 l2, .slice B3 m3 l3, .slice B4 m4 l4])
        clear hb3 hp3 hba
        obtain ⟨_, _, gr, _, _⟩ := PJ.out
        rw [HPQ.out] at gr
        have hm2 := Rw.len gr
        obtain rfl : m2 = 1 := by simpa using hm2.symm
        obtain ⟨b, o, r, E1, j1, d1, E2, j2, d2, E3, j3, d3, rfl, _, _, hxr, _, ⟨r0, r1, r2, r3, r4⟩, t1, t2, t3⟩ := gr.at_ (j := 0) (by omega)
        obtain rfl : r = partR t L := by simpa using hxr.symm
        rw [Nat.zero_mul, Nat.add_zero] at r0 r1 r2 r3 r4
        obtain rfl : p0 = j2 := by have h2 : L.length = j2 := Rw.len t2; rw [← h2]; exact LL.out.symm
        obtain rfl : n2 = j1 := by have h2 : t.length = j1 := Rw.len t1; rw [← h2]; exact (Rw.len T1.out).symm
        have q4 := OQ.out.cell 4
        have G6s := Lib.hid G6.out.size
        have N1 := Lib.hid (fun (V : World) (hb : Below (u5.alloc (.cells #[.string P.id, .bool P.set, .int .i64 P.alg, .slice B1 m1 l1, .slice (some ⟨b, o, none⟩) 1 l2, .slice B3 m3 l3, .slice B4 m4 l4] 28)).heap.size (u5.alloc (.cells #[.string P.id, .bool P.set, .int .i64 P.alg, .slice B1 m1 l1, .slice (some ⟨b, o, none⟩) 1 l2, .slice B3 m3 l3, .slice B4 m4 l4] 28)) V) => same_nod (R := fun _ => True) (R' := fun _ => True) (t2.keep (Kept.all hb _) (fun _ h _ => h)) (T0.out.keep (Kept.all (below_step G6.out hb) _) (fun _ h _ => h)))
        have N2 := Lib.hid (fun (V : World) (hb : Below (u5.alloc (.cells #[.string P.id, .bool P.set, .int .i64 P.alg, .slice B1 m1 l1, .slice (some ⟨b, o, none⟩) 1 l2, .slice B3 m3 l3, .slice B4 m4 l4] 28)).heap.size (u5.alloc (.cells #[.string P.id, .bool P.set, .int .i64 P.alg, .slice B1 m1 l1, .slice (some ⟨b, o, none⟩) 1 l2, .slice B3 m3 l3, .slice B4 m4 l4] 28)) V) => same_tgt (R := fun _ => True) (R' := fun _ => True) (t1.keep (Kept.all hb _) (fun _ h _ => h)) (T1.out.keep (Kept.all (below_step G6.out hb) _) (fun _ h _ => h)))
        have v2 := fun (V : World) (hb : Below (u5.alloc (.cells #[.string P.id, .bool P.set, .int .i64 P.alg, .slice B1 m1 l1, .slice (some ⟨b, o, none⟩) 1 l2, .slice B3 m3 l3, .slice B4 m4 l4] 28)).heap.size (u5.alloc (.cells #[.string P.id, .bool P.set, .int .i64 P.alg, .slice B1 m1 l1, .slice (some ⟨b, o, none⟩) 1 l2, .slice B3 m3 l3, .slice B4 m4 l4] 28)) V) => (hb.cell (block_lt_of_cell r2)).trans r2
        have VV2 := Lib.hid v2
        have OQL := Lib.hid OQ.out.lt
        clear gr hm2 hxr t1 t2 t3 v2
        go_wp2_with fail
        go_at_call 21
        refine (N1.out _ (Below.refl _ _)).mono ?_
        rintro e u7 ⟨rfl, hb⟩
        have H7 := Lib.hid hb
        have G7 := Lib.hid (below_step G6.out hb)
        have q4' := (OQ.out.below hb OQ.out.lt).cell 4
        have r2' := VV2.out _ hb
        clear hb q4 r0 r1 r2 r3 r4
        go_wp2_with fail
        go_at_call 22
        refine (N2.out _ H7.out).mono ?_
        rintro e u8 ⟨rfl, hb⟩
        have G8 := Lib.hid (below_step G7.out hb)
        clear hb
        go_wp2_with fail
        go_at_call 8
        refine (HR.out _ (HTB.out _ G8.out)).mono ?_
        rintro xr wr ⟨rfl, hb⟩
        have BR := Lib.hid (below_step G8.out hb)
        clear hb
        go_wp2_with fail
        go_ret
        exact ⟨rfl, BR.out⟩
end Go.Proofs.YtdbnaaddocahpaaGreatDoor
