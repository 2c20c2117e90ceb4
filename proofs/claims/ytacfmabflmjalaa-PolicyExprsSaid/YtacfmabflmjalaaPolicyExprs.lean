/- PolicyExprs: the walk. -/
import Derived.Test.YtacfmabflmjalaaOpenPol
import Derived.Test.YtacfmabflmjalaaPolicyExprsM
import Derived.Test.YtacfmabflmjalaaPolRuns
import Derived.Test.YtacfmabflmjalaaWithin
import Derived.Lib.MinMax
namespace Go.Proofs.Ytacfmabflmjalaa
set_option linter.unusedVariables false
open Go.RowKit

theorem call_expr {w : World} {R : Nat → Prop} {A : Option Addr} {n c : Nat} {l : List Nod} {r : Int} (hr : exprE l = r) (h : Nds w R A n c l) (V : World) (hV : Below w.heap.size w V) :
    Calls Try.prog 11 #[.slice A n c] V fun e w' => e = .returned (.int .i64 r) ∧ Below V.heap.size V w' := by
  have := expr_any V (h.keep (Kept.all hV _) (fun _ h _ => h))
  rwa [hr] at this

set_option maxRecDepth 100000 in
set_option maxHeartbeats 6400000 in
theorem policyExprs_walk (W : World) (A0 : Option Addr) (n0 c0 : Nat) (h0 : ∃ l, Nds W (fun _ => True) A0 n0 c0 l) (A1 : Option Addr) (n1 c1 : Nat) (h1 : ∃ l, Nds W (fun _ => True) A1 n1 c1 l) (k : Int) (hk : (Lit.int .i64 k).wf = true) :
    Calls Try.prog 8 #[.slice A0 n0 c0, .slice A1 n1 c1, .int .i64 k] W fun e w' => e = .returned (.bool true) ∧ Below W.heap.size W w' := by
  obtain ⟨l0, h0⟩ := h0
  obtain ⟨l1, h1⟩ := h1
  have b0 := Rw.le h0
  have b1 := Rw.le h1
  have m0 := Rw.cap h0
  have m1 := Rw.cap h1
  unfold maxLen at m0 m1
  have x0 : (0 : Int) ≤ min (n0 : Int) 40 := by omega
  have x1 : (0 : Int) ≤ min (n1 : Int) 40 := by omega
  have y0 : min (n0 : Int) 40 ≤ (c0 : Int) := by omega
  have y1 : min (n1 : Int) 40 ≤ (c1 : Int) := by omega
  have H0 := Lib.hid h0
  have H1 := Lib.hid h1
  clear hk h0 h1
  go_enter Try.func8, Try.ntmps8
  go_wp2_with fail
  go_quiet (fail)
  have T0 : Hid (Nds (W.drewN nq) (fun _ => True) A0 (min (n0 : Int) 40).toNat c0 (l0.take (min (n0 : Int) 40).toNat)) := (H0.out.keep ⟨Nat.le_refl _, fun _ _ _ => rfl⟩ (fun _ h _ => h)).take (by omega)
  have T1 : Hid (Nds (W.drewN nq) (fun _ => True) A1 (min (n1 : Int) 40).toNat c1 (l1.take (min (n1 : Int) 40).toNat)) := (H1.out.keep ⟨Nat.le_refl _, fun _ _ _ => rfl⟩ (fun _ h _ => h)).take (by omega)
  have D1 : Hid (Below W.heap.size W (W.drewN nq)) := below_drewN (Below.refl _ _) nq
  have S0 : Hid ((min (n0 : Int) 40).toNat ≤ 40 ∧ (min (n1 : Int) 40).toNat ≤ 40) := ⟨by omega, by omega⟩
  have LL : Hid ((l0.take (min (n0 : Int) 40).toNat).length = (min (n0 : Int) 40).toNat ∧ (l1.take (min (n1 : Int) 40).toNat).length = (min (n1 : Int) 40).toNat) := ⟨Rw.len T0.out, Rw.len T1.out⟩
  clear x0 x1 y0 y1 H0 H1 b0 b1
  generalize min (n0 : Int) 40 = z0 at *
  generalize min (n1 : Int) 40 = z1 at *
  generalize z0.toNat = p0 at *
  generalize z1.toNat = p1 at *
  generalize l0.take p0 = L0 at *
  generalize l1.take p1 = L1 at *
  generalize W.drewN nq = w1 at *
  have HR := Lib.hid pruns_any
  by_cases e0 : exprE L0 = 0
  · have C0 := Lib.hid (call_expr e0 T0.out)
    by_cases e1 : exprE L1 = 0
    · have C1 := Lib.hid (call_expr e1 T1.out)
      by_cases z0' : p0 = 0
      · have zz : ((p0 : Int) == 0) = true := by rw [beq_iff_eq]; omega
        subst z0'
        go_wp2_with (first
          | (go_at_call 11; (with_reducible refine (C0.out _ (Below.refl _ _)).mono ?_); rintro e w2 ⟨rfl, hb2⟩; have B2 := Lib.hid hb2; clear hb2)
          | (go_at_call 11; (with_reducible refine (C1.out _ B2.out).mono ?_); rintro e w3 ⟨rfl, hb3⟩; have B3 := Lib.hid hb3; clear hb3)
          | (go_at_call 3; refine (HR.out _).mono ?_; rintro e w4 ⟨rfl, hb4⟩; have B4 := Lib.hid hb4; clear hb4))
        go_ret
        exact ⟨rfl, below_step D1.out (below_step B2.out (below_step B3.out B4.out))⟩
      by_cases z1' : p1 = 0
      · have zz : ((p0 : Int) == 0) = false := by rw [beq_eq_false_iff_ne]; omega
        subst z1'
        have HZ := Lib.hid z0'
        clear z0'
        go_wp2_with (first
          | (go_at_call 11; (with_reducible refine (C0.out _ (Below.refl _ _)).mono ?_); rintro e w2 ⟨rfl, hb2⟩; have B2 := Lib.hid hb2; clear hb2)
          | (go_at_call 11; (with_reducible refine (C1.out _ B2.out).mono ?_); rintro e w3 ⟨rfl, hb3⟩; have B3 := Lib.hid hb3; clear hb3)
          | (go_at_call 3; refine (HR.out _).mono ?_; rintro e w4 ⟨rfl, hb4⟩; have B4 := Lib.hid hb4; clear hb4))
        go_ret
        exact ⟨rfl, below_step D1.out (below_step B2.out (below_step B3.out B4.out))⟩
      have zz : ((p0 : Int) == 0) = false := by rw [beq_eq_false_iff_ne]; omega
      have zz1 : ((p1 : Int) == 0) = false := by rw [beq_eq_false_iff_ne]; omega
      have na : L0 ≠ [] := by rintro rfl; have := LL.out.1; simp at this; omega
      have nb : L1 ≠ [] := by rintro rfl; have := LL.out.2; simp at this; omega
      have HLE := Lib.hid (exprE_ok e0 na).1
      obtain ⟨q, hq⟩ : ∃ q, q = p0 + p1 := ⟨_, rfl⟩
      have HQ := Lib.hid hq
      obtain ⟨q1, hq1⟩ : ∃ q1, q1 = q + 1 := ⟨_, rfl⟩
      have HQ1 := Lib.hid hq1
      obtain ⟨j, hj⟩ : ∃ j, j = withinOf k 0 3 := ⟨_, rfl⟩
      have hj2 : 0 ≤ j ∧ j ≤ 3 := hj ▸ within_le (by omega)
      have HJ2 := Lib.hid hj2
      have HJ := Lib.hid hj
      have hj11 : ((6 : Int) + j == 11) = false := by rw [beq_eq_false_iff_ne]; omega
      have WI : Hid (∀ V : World, Calls Try.prog 25 #[.int .i64 k, .int .i64 0, .int .i64 3] V fun e w' => e = .returned (.int .i64 j) ∧ V = w') := fun V => by
        have := within_any (n := k) (lo := 0) (hi := 3) (w := V) (by omega) (by omega) (by omega)
        rwa [← HJ.out] at this
      have HPQ : Hid (p0 + p1 ≤ 1000000) := by
        show p0 + p1 ≤ 1000000
        have := S0.out
        omega
      have HP0 : Hid (p0 < 1000000 ∧ q < 1000000) := ⟨by have := S0.out; omega, by have := S0.out; omega⟩
      have HF : Hid (0 ≤ 6 + j ∧ 6 + j ≤ 100) := ⟨by omega, by omega⟩
      have HF4 : Hid ((0 : Int) ≤ 4 ∧ (4 : Int) ≤ 100) := ⟨by omega, by omega⟩
      have OK0 := Lib.hid (Rw.all T0.out)
      have OK1 := Lib.hid (Rw.all T1.out)
      have EB := Lib.hid (expr_both e0 e1 na nb (f := 6 + j) (by omega))
      have ES := Lib.hid (expr_size e0 na)
      clear e0 e1 hq hq1 hj na nb z0' z1'
      by_cases h32 : p0 = 32
      · have EB' : Hid (exprE (L0 ++ L1 ++ [opN (6 + j)]) = 6) := by
          show exprE (L0 ++ L1 ++ [opN (6 + j)]) = 6
          rw [EB.out, LL.out.1, LL.out.2, if_pos (by omega)]
        have ES' : Hid (exprE (L0 ++ [opN 4]) = 6) := by
          show exprE (L0 ++ [opN 4]) = 6
          rw [ES.out, LL.out.1, if_pos (by omega)]
        have g1 : (32 : Int) < (q1 : Int) := by have := HQ.out; have := HQ1.out; omega
        have g2 : (32 : Int) ≤ (p0 : Int) := by omega
        have H32 := Lib.hid h32
        clear h32
        go_wp2_with (first
          | (go_at_call 11; (with_reducible refine (C0.out _ (Below.refl _ _)).mono ?_); rintro e w2 ⟨rfl, hb2⟩; have B2 := Lib.hid hb2; clear hb2)
          | (go_at_call 11; (with_reducible refine (C1.out _ B2.out).mono ?_); rintro e w3 ⟨rfl, hb3⟩; have B3 := Lib.hid hb3; clear hb3; obtain ⟨A5, k5, w5, A6, k6, w6, r5, r6, e6, hbo, own6⟩ := both_nds (T0.out.keep (Kept.all (below_step B2.out B3.out) _) (fun _ h _ => h)) (T1.out.keep (Kept.all (below_step B2.out B3.out) _) (fun _ h _ => h)) HPQ.out HQ.out; obtain ⟨A7, k7, w7, r7, e7, hb7⟩ := nds_put (f := 6 + j) own6 e6.size (Rw.len hbo) (Rw.all hbo) HF.out HP0.out.2; rw [← HQ1.out] at r7 hb7; have e37 := e6.trans e7; obtain ⟨A8, k8, w8, A9, k9, w9, r8, r9, e9, hb9, _⟩ := both_nds (w := w7) (T0.out.keep (Kept.all (below_step (below_step B2.out B3.out) e37) _) (fun _ h _ => h)) (T1.out.keep (Kept.all (below_step (below_step B2.out B3.out) e37) _) (fun _ h _ => h)) HPQ.out HQ.out; have R5 := Lib.hid r5; have R6 := Lib.hid r6; have R7 := Lib.hid r7; have R8 := Lib.hid r8; have R9 := Lib.hid r9; have E7 := Lib.hid e37; have E9 := Lib.hid e9; have CV := Lib.hid (call_expr (r := exprE (L0 ++ L1)) rfl hb9); have CB := Lib.hid (call_expr EB'.out hb7); clear r5 r6 r7 r8 r9 e6 e7 e37 e9 hbo own6 hb7 hb9)
          | (at_builtin; refine wpList_append_run (o := ⟨some 48, _, _, _, _, _⟩) rfl _ _ _ _ rfl rfl rfl R5.out ?_)
          | (at_builtin; refine wpList_append_run (o := ⟨some 50, _, _, _, _, _⟩) rfl _ _ _ _ rfl rfl rfl R6.out ?_)
          | (at_builtin; refine wpList_append_run (o := ⟨some 54, _, _, _, _, _⟩) rfl _ _ _ _ rfl rfl rfl R7.out ?_)
          | (at_builtin; refine wpList_append_run (o := ⟨some 60, _, _, _, _, _⟩) rfl _ _ _ _ rfl rfl rfl R8.out ?_)
          | (at_builtin; refine wpList_append_run (o := ⟨some 62, _, _, _, _, _⟩) rfl _ _ _ _ rfl rfl rfl R9.out ?_)
          | (at_builtin; refine wpList_append_run (o := ⟨some 66, _, _, _, _, _⟩) rfl _ _ _ _ rfl rfl rfl R11.out ?_)
          | (at_builtin; refine wpList_append_run (o := ⟨some 69, _, _, _, _, _⟩) rfl _ _ _ _ rfl rfl rfl R12.out ?_)
          | (go_at_call 25; refine (WI.out _).mono ?_; rintro e v6 ⟨rfl, rfl⟩)
          | (go_at_call 11; (with_reducible refine (CV.out _ (Below.refl _ _)).mono ?_); rintro e w10 ⟨rfl, hb10⟩; have F10 := Lib.hid hb10; clear hb10; obtain ⟨A11, k11, w11, A12, k12, w12, r11, r12, e12, hb12⟩ := nds_one (w := w10) (f := 4) (T0.out.keep (Kept.all (below_step (below_step (below_step (below_step B2.out B3.out) E7.out) E9.out) F10.out) _) (fun _ h _ => h)) HP0.out.1 HF4.out; have R11 := Lib.hid r11; have R12 := Lib.hid r12; have E12 := Lib.hid e12; have CS := Lib.hid (call_expr ES'.out hb12); clear r11 r12 e12 hb12)
          | (go_at_call 11; (with_reducible refine (CS.out _ (Below.refl _ _)).mono ?_); rintro e w13 ⟨rfl, hb13⟩; have F13 := Lib.hid hb13; clear hb13)
          | (go_at_call 11; (with_reducible refine (CB.out _ (below_step E9.out (below_step F10.out (below_step E12.out F13.out)))).mono ?_); rintro e w14 ⟨rfl, hb14⟩; have F14 := Lib.hid hb14; clear hb14)
          | (go_at_call 3; refine (HR.out _).mono ?_; rintro e w15 ⟨rfl, hb15⟩; have F15 := Lib.hid hb15; clear hb15))
        go_ret
        exact ⟨rfl, below_step D1.out (below_step (below_step B2.out B3.out) (below_step E7.out (below_step E9.out (below_step F10.out (below_step E12.out (below_step F13.out (below_step F14.out F15.out)))))))⟩
      by_cases h33 : 32 < q1
      · have EB' : Hid (exprE (L0 ++ L1 ++ [opN (6 + j)]) = 6) := by
          show exprE (L0 ++ L1 ++ [opN (6 + j)]) = 6
          rw [EB.out, LL.out.1, LL.out.2, if_pos (by have := HQ.out; have := HQ1.out; omega)]
        have ES' : Hid (exprE (L0 ++ [opN 4]) = 1) := by
          show exprE (L0 ++ [opN 4]) = 1
          rw [ES.out, LL.out.1, if_neg (by have := HLE.out; rw [LL.out.1] at this; omega)]
        have g1 : (32 : Int) < (q1 : Int) := by omega
        have H32 := Lib.hid h32
        have H33 := Lib.hid h33
        clear h32 h33
        go_wp2_with (first
          | (go_at_call 11; (with_reducible refine (C0.out _ (Below.refl _ _)).mono ?_); rintro e w2 ⟨rfl, hb2⟩; have B2 := Lib.hid hb2; clear hb2)
          | (go_at_call 11; (with_reducible refine (C1.out _ B2.out).mono ?_); rintro e w3 ⟨rfl, hb3⟩; have B3 := Lib.hid hb3; clear hb3; obtain ⟨A5, k5, w5, A6, k6, w6, r5, r6, e6, hbo, own6⟩ := both_nds (T0.out.keep (Kept.all (below_step B2.out B3.out) _) (fun _ h _ => h)) (T1.out.keep (Kept.all (below_step B2.out B3.out) _) (fun _ h _ => h)) HPQ.out HQ.out; obtain ⟨A7, k7, w7, r7, e7, hb7⟩ := nds_put (f := 6 + j) own6 e6.size (Rw.len hbo) (Rw.all hbo) HF.out HP0.out.2; rw [← HQ1.out] at r7 hb7; have e37 := e6.trans e7; obtain ⟨A8, k8, w8, A9, k9, w9, r8, r9, e9, hb9, _⟩ := both_nds (w := w7) (T0.out.keep (Kept.all (below_step (below_step B2.out B3.out) e37) _) (fun _ h _ => h)) (T1.out.keep (Kept.all (below_step (below_step B2.out B3.out) e37) _) (fun _ h _ => h)) HPQ.out HQ.out; have R5 := Lib.hid r5; have R6 := Lib.hid r6; have R7 := Lib.hid r7; have R8 := Lib.hid r8; have R9 := Lib.hid r9; have E7 := Lib.hid e37; have E9 := Lib.hid e9; have CV := Lib.hid (call_expr (r := exprE (L0 ++ L1)) rfl hb9); have CB := Lib.hid (call_expr EB'.out hb7); clear r5 r6 r7 r8 r9 e6 e7 e37 e9 hbo own6 hb7 hb9)
          | (at_builtin; refine wpList_append_run (o := ⟨some 48, _, _, _, _, _⟩) rfl _ _ _ _ rfl rfl rfl R5.out ?_)
          | (at_builtin; refine wpList_append_run (o := ⟨some 50, _, _, _, _, _⟩) rfl _ _ _ _ rfl rfl rfl R6.out ?_)
          | (at_builtin; refine wpList_append_run (o := ⟨some 54, _, _, _, _, _⟩) rfl _ _ _ _ rfl rfl rfl R7.out ?_)
          | (at_builtin; refine wpList_append_run (o := ⟨some 60, _, _, _, _, _⟩) rfl _ _ _ _ rfl rfl rfl R8.out ?_)
          | (at_builtin; refine wpList_append_run (o := ⟨some 62, _, _, _, _, _⟩) rfl _ _ _ _ rfl rfl rfl R9.out ?_)
          | (at_builtin; refine wpList_append_run (o := ⟨some 66, _, _, _, _, _⟩) rfl _ _ _ _ rfl rfl rfl R11.out ?_)
          | (at_builtin; refine wpList_append_run (o := ⟨some 69, _, _, _, _, _⟩) rfl _ _ _ _ rfl rfl rfl R12.out ?_)
          | (go_at_call 25; refine (WI.out _).mono ?_; rintro e v6 ⟨rfl, rfl⟩)
          | (go_at_call 11; (with_reducible refine (CV.out _ (Below.refl _ _)).mono ?_); rintro e w10 ⟨rfl, hb10⟩; have F10 := Lib.hid hb10; clear hb10; obtain ⟨A11, k11, w11, A12, k12, w12, r11, r12, e12, hb12⟩ := nds_one (w := w10) (f := 4) (T0.out.keep (Kept.all (below_step (below_step (below_step (below_step B2.out B3.out) E7.out) E9.out) F10.out) _) (fun _ h _ => h)) HP0.out.1 HF4.out; have R11 := Lib.hid r11; have R12 := Lib.hid r12; have E12 := Lib.hid e12; have CS := Lib.hid (call_expr ES'.out hb12); clear r11 r12 e12 hb12)
          | (go_at_call 11; (with_reducible refine (CS.out _ (Below.refl _ _)).mono ?_); rintro e w13 ⟨rfl, hb13⟩; have F13 := Lib.hid hb13; clear hb13)
          | (go_at_call 11; (with_reducible refine (CB.out _ (below_step E9.out (below_step F10.out (below_step E12.out F13.out)))).mono ?_); rintro e w14 ⟨rfl, hb14⟩; have F14 := Lib.hid hb14; clear hb14)
          | (go_at_call 3; refine (HR.out _).mono ?_; rintro e w15 ⟨rfl, hb15⟩; have F15 := Lib.hid hb15; clear hb15))
        go_ret
        exact ⟨rfl, below_step D1.out (below_step (below_step B2.out B3.out) (below_step E7.out (below_step E9.out (below_step F10.out (below_step E12.out (below_step F13.out (below_step F14.out F15.out)))))))⟩
      · have EB' : Hid (exprE (L0 ++ L1 ++ [opN (6 + j)]) = 0) := by
          show exprE (L0 ++ L1 ++ [opN (6 + j)]) = 0
          rw [EB.out, LL.out.1, LL.out.2, if_neg (by have := HQ.out; have := HQ1.out; omega)]
        have ES' : Hid (exprE (L0 ++ [opN 4]) = 1) := by
          show exprE (L0 ++ [opN 4]) = 1
          rw [ES.out, LL.out.1, if_neg (by have := HLE.out; rw [LL.out.1] at this; omega)]
        have g1 : ¬ (32 : Int) < (q1 : Int) := by omega
        have H32 := Lib.hid h32
        have H33 := Lib.hid h33
        clear h32 h33
        go_wp2_with (first
          | (go_at_call 11; (with_reducible refine (C0.out _ (Below.refl _ _)).mono ?_); rintro e w2 ⟨rfl, hb2⟩; have B2 := Lib.hid hb2; clear hb2)
          | (go_at_call 11; (with_reducible refine (C1.out _ B2.out).mono ?_); rintro e w3 ⟨rfl, hb3⟩; have B3 := Lib.hid hb3; clear hb3; obtain ⟨A5, k5, w5, A6, k6, w6, r5, r6, e6, hbo, own6⟩ := both_nds (T0.out.keep (Kept.all (below_step B2.out B3.out) _) (fun _ h _ => h)) (T1.out.keep (Kept.all (below_step B2.out B3.out) _) (fun _ h _ => h)) HPQ.out HQ.out; obtain ⟨A7, k7, w7, r7, e7, hb7⟩ := nds_put (f := 6 + j) own6 e6.size (Rw.len hbo) (Rw.all hbo) HF.out HP0.out.2; rw [← HQ1.out] at r7 hb7; have e37 := e6.trans e7; obtain ⟨A8, k8, w8, A9, k9, w9, r8, r9, e9, hb9, _⟩ := both_nds (w := w7) (T0.out.keep (Kept.all (below_step (below_step B2.out B3.out) e37) _) (fun _ h _ => h)) (T1.out.keep (Kept.all (below_step (below_step B2.out B3.out) e37) _) (fun _ h _ => h)) HPQ.out HQ.out; have R5 := Lib.hid r5; have R6 := Lib.hid r6; have R7 := Lib.hid r7; have R8 := Lib.hid r8; have R9 := Lib.hid r9; have E7 := Lib.hid e37; have E9 := Lib.hid e9; have CV := Lib.hid (call_expr (r := exprE (L0 ++ L1)) rfl hb9); have CB := Lib.hid (call_expr EB'.out hb7); clear r5 r6 r7 r8 r9 e6 e7 e37 e9 hbo own6 hb7 hb9)
          | (at_builtin; refine wpList_append_run (o := ⟨some 48, _, _, _, _, _⟩) rfl _ _ _ _ rfl rfl rfl R5.out ?_)
          | (at_builtin; refine wpList_append_run (o := ⟨some 50, _, _, _, _, _⟩) rfl _ _ _ _ rfl rfl rfl R6.out ?_)
          | (at_builtin; refine wpList_append_run (o := ⟨some 54, _, _, _, _, _⟩) rfl _ _ _ _ rfl rfl rfl R7.out ?_)
          | (at_builtin; refine wpList_append_run (o := ⟨some 60, _, _, _, _, _⟩) rfl _ _ _ _ rfl rfl rfl R8.out ?_)
          | (at_builtin; refine wpList_append_run (o := ⟨some 62, _, _, _, _, _⟩) rfl _ _ _ _ rfl rfl rfl R9.out ?_)
          | (at_builtin; refine wpList_append_run (o := ⟨some 66, _, _, _, _, _⟩) rfl _ _ _ _ rfl rfl rfl R11.out ?_)
          | (at_builtin; refine wpList_append_run (o := ⟨some 69, _, _, _, _, _⟩) rfl _ _ _ _ rfl rfl rfl R12.out ?_)
          | (go_at_call 25; refine (WI.out _).mono ?_; rintro e v6 ⟨rfl, rfl⟩)
          | (go_at_call 11; (with_reducible refine (CV.out _ (Below.refl _ _)).mono ?_); rintro e w10 ⟨rfl, hb10⟩; have F10 := Lib.hid hb10; clear hb10; obtain ⟨A11, k11, w11, A12, k12, w12, r11, r12, e12, hb12⟩ := nds_one (w := w10) (f := 4) (T0.out.keep (Kept.all (below_step (below_step (below_step (below_step B2.out B3.out) E7.out) E9.out) F10.out) _) (fun _ h _ => h)) HP0.out.1 HF4.out; have R11 := Lib.hid r11; have R12 := Lib.hid r12; have E12 := Lib.hid e12; have CS := Lib.hid (call_expr ES'.out hb12); clear r11 r12 e12 hb12)
          | (go_at_call 11; (with_reducible refine (CS.out _ (Below.refl _ _)).mono ?_); rintro e w13 ⟨rfl, hb13⟩; have F13 := Lib.hid hb13; clear hb13)
          | (go_at_call 11; (with_reducible refine (CB.out _ (below_step E9.out (below_step F10.out (below_step E12.out F13.out)))).mono ?_); rintro e w14 ⟨rfl, hb14⟩; have F14 := Lib.hid hb14; clear hb14)
          | (go_at_call 3; refine (HR.out _).mono ?_; rintro e w15 ⟨rfl, hb15⟩; have F15 := Lib.hid hb15; clear hb15))
        go_ret
        exact ⟨rfl, below_step D1.out (below_step (below_step B2.out B3.out) (below_step E7.out (below_step E9.out (below_step F10.out (below_step E12.out (below_step F13.out (below_step F14.out F15.out)))))))⟩
    · obtain ⟨r, hr⟩ : ∃ r, r = exprE L1 := ⟨_, rfl⟩
      have C1 := Lib.hid (call_expr hr.symm T1.out)
      rw [← hr] at e1
      have hne : (r != 0) = true := by simpa using e1
      clear e0 e1 hr
      go_wp2_with (first
        | (go_at_call 11; (with_reducible refine (C0.out _ (Below.refl _ _)).mono ?_); rintro e w2 ⟨rfl, hb2⟩; have B2 := Lib.hid hb2; clear hb2)
        | (go_at_call 11; (with_reducible refine (C1.out _ B2.out).mono ?_); rintro e w3 ⟨rfl, hb3⟩; have B3 := Lib.hid hb3; clear hb3)
        | (go_at_call 3; refine (HR.out _).mono ?_; rintro e w4 ⟨rfl, hb4⟩; have B4 := Lib.hid hb4; clear hb4))
      go_ret
      exact ⟨rfl, below_step D1.out (below_step B2.out (below_step B3.out B4.out))⟩
  · obtain ⟨r, hr⟩ : ∃ r, r = exprE L0 := ⟨_, rfl⟩
    have C0 := Lib.hid (call_expr hr.symm T0.out)
    rw [← hr] at e0
    have hne : (r != 0) = true := by simpa using e0
    clear e0 hr
    go_wp2_with (first
      | (go_at_call 11; (with_reducible refine (C0.out _ (Below.refl _ _)).mono ?_); rintro e w2 ⟨rfl, hb2⟩; have B2 := Lib.hid hb2; clear hb2)
      | (go_at_call 3; refine (HR.out _).mono ?_; rintro e w4 ⟨rfl, hb4⟩; have B4 := Lib.hid hb4; clear hb4))
    go_ret
    exact ⟨rfl, below_step D1.out (below_step B2.out B4.out)⟩
end Go.Proofs.Ytacfmabflmjalaa
