/- PolicyTargets: the walk. -/
import Derived.Test.YtacfmabflmjalaaOpenPol
import Derived.Test.YtacfmabflmjalaaPolOw
import Derived.Test.YtacfmabflmjalaaKeepIs
import Derived.Test.YtacfmabflmjalaaPolRuns
import Derived.Test.YtacfmabflmjalaaPolicyObls
namespace Go.Proofs.Ytacfmabflmjalaa
set_option linter.unusedVariables false
open Go.RowKit

theorem tgE_zero {l : Tgt} (h : tgE l = 0) : l.length ≤ 8 ∧ firstE anyE l = 0 := by
  unfold tgE at h
  split at h
  · cases h
  · exact ⟨by omega, h⟩
theorem tgE_both {l m : Tgt} (h1 : tgE l = 0) (h2 : tgE m = 0) : tgE (l ++ m) = if 8 < l.length + m.length then 6 else 0 := by
  unfold tgE
  rw [List.length_append, firstE_app, (tgE_zero h1).2, (tgE_zero h2).2]
  simp
theorem tgE_hollow {l : Tgt} (h1 : tgE l = 0) : tgE (l ++ [[]]) = if 8 < l.length + 1 then 6 else 1 := by
  unfold tgE
  rw [List.length_append, firstE_app, (tgE_zero h1).2]
  rfl
theorem call_tg {w : World} {R : Nat → Prop} {A : Option Addr} {n c : Nat} {l : Tgt} {r : Int} (hr : tgE l = r) (h : Tg w R A n c l) (V : World) (hV : Below w.heap.size w V) :
    Calls Try.prog 21 #[.slice A n c] V fun e w' => e = .returned (.int .i64 r) ∧ Below V.heap.size V w' := by
  have := target_any V (h.keep (Kept.all hV _) (fun _ h _ => h))
  rwa [hr] at this
def tgPol (t : Tgt) : Pol := .mk ⟨#[]⟩ false 0 t [] [] []
theorem small_of_tg {w : World} {R : Nat → Prop} {A : Option Addr} {n c : Nat} {l : Tgt} {b : Bool} (hb : decide (polC 1 (tgPol l) ≤ 3000) = b) (h : Tg w R A n c l) (V : World) (hV : Below w.heap.size w V) :
    Calls Try.prog 13 #[.agg #[.string ⟨#[]⟩, .bool false, .int .i64 0, .slice A n c, .slice none 0 0, .slice none 0 0, .slice none 0 0]] V fun e w' => e = .returned (.bool b) ∧ Below V.heap.size V w' := by
  have := small_pol (w := V) (R := R) (d := 0) (p := tgPol l) (A1 := A) (n1 := n) (k1 := c) (A2 := none) (n2 := 0) (k2 := 0) (A3 := none) (n3 := 0) (k3 := 0) (A4 := none) (n4 := 0) (k4 := 0) (by show (⟨#[]⟩ : ByteArray).size ≤ maxLen; decide +kernel) (h.keep (Kept.all hV _) (fun _ h _ => h)) (Rw.nil_ _ _ _ _) (Rw.nil_ _ _ _ _) (Rw.nil_ _ _ _ _)
  rw [hb] at this
  exact this
theorem tg_few {l : Tgt} (h : polC 1 (tgPol l) ≤ 3000) : l.length ≤ 3000 := by
  have h1 := small_tg h
  have h2 := tgC_len l
  have e : (tgPol l).tg = l := rfl
  rw [e] at h1
  omega

set_option maxRecDepth 100000 in
set_option maxHeartbeats 6400000 in
theorem policyTargets_walk (W : World) (A0 : Option Addr) (n0 c0 : Nat) (h0 : ∃ l, Tg W (fun _ => True) A0 n0 c0 l) (A1 : Option Addr) (n1 c1 : Nat) (h1 : ∃ l, Tg W (fun _ => True) A1 n1 c1 l) :
    Calls Try.prog 9 #[.slice A0 n0 c0, .slice A1 n1 c1] W fun e w' => e = .returned (.bool true) ∧ Below W.heap.size W w' := by
  obtain ⟨L0, h0⟩ := h0
  obtain ⟨L1, h1⟩ := h1
  have T0 := Lib.hid h0
  have T1 := Lib.hid h1
  have LL : Hid (L0.length = n0 ∧ L1.length = n1) := ⟨Rw.len h0, Rw.len h1⟩
  have HR := Lib.hid pruns_any
  have CN : Hid (∀ V : World, Calls Try.prog 21 #[.slice none 0 0] V fun e w' => e = .returned (.int .i64 0) ∧ Below V.heap.size V w') := fun V => target_any (R := fun _ => True) V (Rw.nil_ _ _ _ _)
  clear h0 h1

  by_cases s0 : polC 1 (tgPol L0) ≤ 3000
  · have S0 := Lib.hid (small_of_tg (decide_eq_true s0) T0.out)
    have F0 := Lib.hid (tg_few s0)
    clear s0
    by_cases s1 : polC 1 (tgPol L1) ≤ 3000
    · have S1 := Lib.hid (small_of_tg (decide_eq_true s1) T1.out)
      have F1 := Lib.hid (tg_few s1)
      clear s1
      by_cases e0 : tgE L0 = 0
      · have C0 := Lib.hid (call_tg e0 T0.out)
        by_cases e1 : tgE L1 = 0
        · have C1 := Lib.hid (call_tg e1 T1.out)
          have HB := Lib.hid (tgE_both e0 e1)
          have HH := Lib.hid (tgE_hollow e0)
          have HL8 := Lib.hid (tgE_zero e0).1
          obtain ⟨q, hq⟩ : ∃ q, q = n0 + n1 := ⟨_, rfl⟩
          have HQ := Lib.hid hq
          have HPQ : Hid (n0 + n1 ≤ 1000000) := by show n0 + n1 ≤ 1000000; have := F0.out; have := F1.out; have := LL.out; omega
          have HP0 : Hid (n0 < 1000000) := by show n0 < 1000000; have := F0.out; have := LL.out; omega
          clear e0 e1 hq
          by_cases h8 : n0 = 8
          · have EH : Hid (tgE (L0 ++ [[]]) = 6) := by
              show tgE (L0 ++ [[]]) = 6
              rw [HH.out, LL.out.1, if_pos (by omega)]
            have g2 : (8 : Int) ≤ (n0 : Int) := by omega
            by_cases hq8 : 8 < q
            · have EB : Hid (tgE (L0 ++ L1) = 6) := by
                show tgE (L0 ++ L1) = 6
                rw [HB.out, LL.out.1, LL.out.2, if_pos (by have := HQ.out; omega)]
              have g1 : (8 : Int) < (q : Int) := by omega
              have H8 := Lib.hid h8
              have HQ8 := Lib.hid hq8
              clear h8 hq8
              go_enter Try.func9, Try.ntmps9
              go_wp2_with (first
                | (go_at_call 13; (with_reducible refine (S0.out _ (Below.refl _ _)).mono ?_); rintro e u0 ⟨rfl, hb⟩; have G0 := Lib.hid hb; clear hb)
                | (go_at_call 13; (with_reducible refine (S1.out _ G0.out).mono ?_); rintro e u1 ⟨rfl, hb⟩; have G1 := Lib.hid (below_step G0.out hb); clear hb)
                | (go_at_call 21; (with_reducible refine (C0.out _ G1.out).mono ?_); rintro e u2 ⟨rfl, hb⟩; have G2 := Lib.hid (below_step G1.out hb); clear hb)
                | (go_at_call 21; (with_reducible refine (C1.out _ G2.out).mono ?_); rintro e u3 ⟨rfl, hb⟩; have G3 := Lib.hid (below_step G2.out hb); clear hb; obtain ⟨A5, k5, w5, A6, k6, w6, r5, r6, e6, hbo⟩ := both_tg (w := u3) (T0.out.keep (Kept.all G3.out _) (fun _ h _ => h)) (T1.out.keep (Kept.all G3.out _) (fun _ h _ => h)) HPQ.out HQ.out; obtain ⟨A8, k8, w8, A9, k9, w9, r8, r9, e9, hho⟩ := hollow_tg (w := w6) (T0.out.keep (Kept.all (below_step G3.out e6) _) (fun _ h _ => h)) HP0.out; have R5 := Lib.hid r5; have R6 := Lib.hid r6; have R8 := Lib.hid r8; have R9 := Lib.hid r9; have E6 := Lib.hid e6; have E9 := Lib.hid e9; have CH := Lib.hid (call_tg EH.out hho); have CB := Lib.hid (call_tg EB.out hbo); clear r5 r6 r8 r9 e6 e9 hbo hho)
                | (at_builtin; refine wpList_append_run (o := ⟨some 35, _, _, _, _, _⟩) rfl _ _ _ _ rfl rfl rfl R5.out ?_)
                | (at_builtin; refine wpList_append_run (o := ⟨some 37, _, _, _, _, _⟩) rfl _ _ _ _ rfl rfl rfl R6.out ?_)
                | (at_builtin; refine wpList_append_run (o := ⟨some 43, _, _, _, _, _⟩) rfl _ _ _ _ rfl rfl rfl R8.out ?_)
                | (at_builtin; refine wpList_append_run (o := ⟨some 45, _, _, _, _, _⟩) rfl _ _ _ _ rfl rfl rfl R9.out ?_)
                | (go_at_call 21; (with_reducible refine (CH.out _ (Below.refl _ _)).mono ?_); rintro e u4 ⟨rfl, hb⟩; have F4 := Lib.hid hb; clear hb)
                | (go_at_call 21; (with_reducible refine (CB.out _ (below_step E9.out F4.out)).mono ?_); rintro e u5 ⟨rfl, hb⟩; have F5 := Lib.hid hb; clear hb)
                | (go_at_call 3; refine (HR.out _).mono ?_; rintro e u9 ⟨rfl, hb⟩; have F9 := Lib.hid hb; clear hb))
              go_ret
              exact ⟨rfl, below_step G3.out (below_step E6.out (below_step E9.out (below_step F4.out (below_step F5.out F9.out))))⟩
            · have EB : Hid (tgE (L0 ++ L1) = 0) := by
                show tgE (L0 ++ L1) = 0
                rw [HB.out, LL.out.1, LL.out.2, if_neg (by have := HQ.out; omega)]
              have g1 : ¬ (8 : Int) < (q : Int) := by omega
              have H8 := Lib.hid h8
              have HQ8 := Lib.hid hq8
              clear h8 hq8
              go_enter Try.func9, Try.ntmps9
              go_wp2_with (first
                | (go_at_call 13; (with_reducible refine (S0.out _ (Below.refl _ _)).mono ?_); rintro e u0 ⟨rfl, hb⟩; have G0 := Lib.hid hb; clear hb)
                | (go_at_call 13; (with_reducible refine (S1.out _ G0.out).mono ?_); rintro e u1 ⟨rfl, hb⟩; have G1 := Lib.hid (below_step G0.out hb); clear hb)
                | (go_at_call 21; (with_reducible refine (C0.out _ G1.out).mono ?_); rintro e u2 ⟨rfl, hb⟩; have G2 := Lib.hid (below_step G1.out hb); clear hb)
                | (go_at_call 21; (with_reducible refine (C1.out _ G2.out).mono ?_); rintro e u3 ⟨rfl, hb⟩; have G3 := Lib.hid (below_step G2.out hb); clear hb; obtain ⟨A5, k5, w5, A6, k6, w6, r5, r6, e6, hbo⟩ := both_tg (w := u3) (T0.out.keep (Kept.all G3.out _) (fun _ h _ => h)) (T1.out.keep (Kept.all G3.out _) (fun _ h _ => h)) HPQ.out HQ.out; obtain ⟨A8, k8, w8, A9, k9, w9, r8, r9, e9, hho⟩ := hollow_tg (w := w6) (T0.out.keep (Kept.all (below_step G3.out e6) _) (fun _ h _ => h)) HP0.out; have R5 := Lib.hid r5; have R6 := Lib.hid r6; have R8 := Lib.hid r8; have R9 := Lib.hid r9; have E6 := Lib.hid e6; have E9 := Lib.hid e9; have CH := Lib.hid (call_tg EH.out hho); have CB := Lib.hid (call_tg EB.out hbo); clear r5 r6 r8 r9 e6 e9 hbo hho)
                | (at_builtin; refine wpList_append_run (o := ⟨some 35, _, _, _, _, _⟩) rfl _ _ _ _ rfl rfl rfl R5.out ?_)
                | (at_builtin; refine wpList_append_run (o := ⟨some 37, _, _, _, _, _⟩) rfl _ _ _ _ rfl rfl rfl R6.out ?_)
                | (at_builtin; refine wpList_append_run (o := ⟨some 43, _, _, _, _, _⟩) rfl _ _ _ _ rfl rfl rfl R8.out ?_)
                | (at_builtin; refine wpList_append_run (o := ⟨some 45, _, _, _, _, _⟩) rfl _ _ _ _ rfl rfl rfl R9.out ?_)
                | (go_at_call 21; (with_reducible refine (CH.out _ (Below.refl _ _)).mono ?_); rintro e u4 ⟨rfl, hb⟩; have F4 := Lib.hid hb; clear hb)
                | (go_at_call 21; (with_reducible refine (CB.out _ (below_step E9.out F4.out)).mono ?_); rintro e u5 ⟨rfl, hb⟩; have F5 := Lib.hid hb; clear hb)
                | (go_at_call 3; refine (HR.out _).mono ?_; rintro e u9 ⟨rfl, hb⟩; have F9 := Lib.hid hb; clear hb))
              go_ret
              exact ⟨rfl, below_step G3.out (below_step E6.out (below_step E9.out (below_step F4.out (below_step F5.out F9.out))))⟩
          · have EH : Hid (tgE (L0 ++ [[]]) = 1) := by
              show tgE (L0 ++ [[]]) = 1
              rw [HH.out, LL.out.1, if_neg (by have := HL8.out; have := LL.out; omega)]
            by_cases hq8 : 8 < q
            · have EB : Hid (tgE (L0 ++ L1) = 6) := by
                show tgE (L0 ++ L1) = 6
                rw [HB.out, LL.out.1, LL.out.2, if_pos (by have := HQ.out; omega)]
              have g1 : (8 : Int) < (q : Int) := by omega
              have H8 := Lib.hid h8
              have HQ8 := Lib.hid hq8
              clear h8 hq8
              go_enter Try.func9, Try.ntmps9
              go_wp2_with (first
                | (go_at_call 13; (with_reducible refine (S0.out _ (Below.refl _ _)).mono ?_); rintro e u0 ⟨rfl, hb⟩; have G0 := Lib.hid hb; clear hb)
                | (go_at_call 13; (with_reducible refine (S1.out _ G0.out).mono ?_); rintro e u1 ⟨rfl, hb⟩; have G1 := Lib.hid (below_step G0.out hb); clear hb)
                | (go_at_call 21; (with_reducible refine (C0.out _ G1.out).mono ?_); rintro e u2 ⟨rfl, hb⟩; have G2 := Lib.hid (below_step G1.out hb); clear hb)
                | (go_at_call 21; (with_reducible refine (C1.out _ G2.out).mono ?_); rintro e u3 ⟨rfl, hb⟩; have G3 := Lib.hid (below_step G2.out hb); clear hb; obtain ⟨A5, k5, w5, A6, k6, w6, r5, r6, e6, hbo⟩ := both_tg (w := u3) (T0.out.keep (Kept.all G3.out _) (fun _ h _ => h)) (T1.out.keep (Kept.all G3.out _) (fun _ h _ => h)) HPQ.out HQ.out; obtain ⟨A8, k8, w8, A9, k9, w9, r8, r9, e9, hho⟩ := hollow_tg (w := w6) (T0.out.keep (Kept.all (below_step G3.out e6) _) (fun _ h _ => h)) HP0.out; have R5 := Lib.hid r5; have R6 := Lib.hid r6; have R8 := Lib.hid r8; have R9 := Lib.hid r9; have E6 := Lib.hid e6; have E9 := Lib.hid e9; have CH := Lib.hid (call_tg EH.out hho); have CB := Lib.hid (call_tg EB.out hbo); clear r5 r6 r8 r9 e6 e9 hbo hho)
                | (at_builtin; refine wpList_append_run (o := ⟨some 35, _, _, _, _, _⟩) rfl _ _ _ _ rfl rfl rfl R5.out ?_)
                | (at_builtin; refine wpList_append_run (o := ⟨some 37, _, _, _, _, _⟩) rfl _ _ _ _ rfl rfl rfl R6.out ?_)
                | (at_builtin; refine wpList_append_run (o := ⟨some 43, _, _, _, _, _⟩) rfl _ _ _ _ rfl rfl rfl R8.out ?_)
                | (at_builtin; refine wpList_append_run (o := ⟨some 45, _, _, _, _, _⟩) rfl _ _ _ _ rfl rfl rfl R9.out ?_)
                | (go_at_call 21; (with_reducible refine (CH.out _ (Below.refl _ _)).mono ?_); rintro e u4 ⟨rfl, hb⟩; have F4 := Lib.hid hb; clear hb)
                | (go_at_call 21; (with_reducible refine (CB.out _ (below_step E9.out F4.out)).mono ?_); rintro e u5 ⟨rfl, hb⟩; have F5 := Lib.hid hb; clear hb)
                | (go_at_call 3; refine (HR.out _).mono ?_; rintro e u9 ⟨rfl, hb⟩; have F9 := Lib.hid hb; clear hb))
              go_ret
              exact ⟨rfl, below_step G3.out (below_step E6.out (below_step E9.out (below_step F4.out (below_step F5.out F9.out))))⟩
            · have EB : Hid (tgE (L0 ++ L1) = 0) := by
                show tgE (L0 ++ L1) = 0
                rw [HB.out, LL.out.1, LL.out.2, if_neg (by have := HQ.out; omega)]
              have g1 : ¬ (8 : Int) < (q : Int) := by omega
              have H8 := Lib.hid h8
              have HQ8 := Lib.hid hq8
              clear h8 hq8
              go_enter Try.func9, Try.ntmps9
              go_wp2_with (first
                | (go_at_call 13; (with_reducible refine (S0.out _ (Below.refl _ _)).mono ?_); rintro e u0 ⟨rfl, hb⟩; have G0 := Lib.hid hb; clear hb)
                | (go_at_call 13; (with_reducible refine (S1.out _ G0.out).mono ?_); rintro e u1 ⟨rfl, hb⟩; have G1 := Lib.hid (below_step G0.out hb); clear hb)
                | (go_at_call 21; (with_reducible refine (C0.out _ G1.out).mono ?_); rintro e u2 ⟨rfl, hb⟩; have G2 := Lib.hid (below_step G1.out hb); clear hb)
                | (go_at_call 21; (with_reducible refine (C1.out _ G2.out).mono ?_); rintro e u3 ⟨rfl, hb⟩; have G3 := Lib.hid (below_step G2.out hb); clear hb; obtain ⟨A5, k5, w5, A6, k6, w6, r5, r6, e6, hbo⟩ := both_tg (w := u3) (T0.out.keep (Kept.all G3.out _) (fun _ h _ => h)) (T1.out.keep (Kept.all G3.out _) (fun _ h _ => h)) HPQ.out HQ.out; obtain ⟨A8, k8, w8, A9, k9, w9, r8, r9, e9, hho⟩ := hollow_tg (w := w6) (T0.out.keep (Kept.all (below_step G3.out e6) _) (fun _ h _ => h)) HP0.out; have R5 := Lib.hid r5; have R6 := Lib.hid r6; have R8 := Lib.hid r8; have R9 := Lib.hid r9; have E6 := Lib.hid e6; have E9 := Lib.hid e9; have CH := Lib.hid (call_tg EH.out hho); have CB := Lib.hid (call_tg EB.out hbo); clear r5 r6 r8 r9 e6 e9 hbo hho)
                | (at_builtin; refine wpList_append_run (o := ⟨some 35, _, _, _, _, _⟩) rfl _ _ _ _ rfl rfl rfl R5.out ?_)
                | (at_builtin; refine wpList_append_run (o := ⟨some 37, _, _, _, _, _⟩) rfl _ _ _ _ rfl rfl rfl R6.out ?_)
                | (at_builtin; refine wpList_append_run (o := ⟨some 43, _, _, _, _, _⟩) rfl _ _ _ _ rfl rfl rfl R8.out ?_)
                | (at_builtin; refine wpList_append_run (o := ⟨some 45, _, _, _, _, _⟩) rfl _ _ _ _ rfl rfl rfl R9.out ?_)
                | (go_at_call 21; (with_reducible refine (CH.out _ (Below.refl _ _)).mono ?_); rintro e u4 ⟨rfl, hb⟩; have F4 := Lib.hid hb; clear hb)
                | (go_at_call 21; (with_reducible refine (CB.out _ (below_step E9.out F4.out)).mono ?_); rintro e u5 ⟨rfl, hb⟩; have F5 := Lib.hid hb; clear hb)
                | (go_at_call 3; refine (HR.out _).mono ?_; rintro e u9 ⟨rfl, hb⟩; have F9 := Lib.hid hb; clear hb))
              go_ret
              exact ⟨rfl, below_step G3.out (below_step E6.out (below_step E9.out (below_step F4.out (below_step F5.out F9.out))))⟩
        · obtain ⟨r, hr⟩ : ∃ r, r = tgE L1 := ⟨_, rfl⟩
          have C1 := Lib.hid (call_tg hr.symm T1.out)
          rw [← hr] at e1
          have hne : (r != 0) = true := by simpa using e1
          clear e0 e1 hr
          go_enter Try.func9, Try.ntmps9
          go_wp2_with (first
            | (go_at_call 13; (with_reducible refine (S0.out _ (Below.refl _ _)).mono ?_); rintro e u0 ⟨rfl, hb⟩; have G0 := Lib.hid hb; clear hb)
            | (go_at_call 13; (with_reducible refine (S1.out _ G0.out).mono ?_); rintro e u1 ⟨rfl, hb⟩; have G1 := Lib.hid (below_step G0.out hb); clear hb)
            | (go_at_call 21; (with_reducible refine (C0.out _ G1.out).mono ?_); rintro e u2 ⟨rfl, hb⟩; have G2 := Lib.hid (below_step G1.out hb); clear hb)
            | (go_at_call 21; (with_reducible refine (C1.out _ G2.out).mono ?_); rintro e u3 ⟨rfl, hb⟩; have G3 := Lib.hid (below_step G2.out hb); clear hb)
            | (go_at_call 21; (with_reducible refine (CN.out _).mono ?_); rintro e u8 ⟨rfl, hb⟩; have G8 := Lib.hid (below_step G3.out hb); clear hb)
            | (go_at_call 3; refine (HR.out _).mono ?_; rintro e u9 ⟨rfl, hb⟩; have G9 := Lib.hid (below_step G8.out hb); clear hb))
          go_ret
          exact ⟨rfl, G9.out⟩
      · obtain ⟨r, hr⟩ : ∃ r, r = tgE L0 := ⟨_, rfl⟩
        have C0 := Lib.hid (call_tg hr.symm T0.out)
        rw [← hr] at e0
        have hne : (r != 0) = true := by simpa using e0
        clear e0 hr
        go_enter Try.func9, Try.ntmps9
        go_wp2_with (first
          | (go_at_call 13; (with_reducible refine (S0.out _ (Below.refl _ _)).mono ?_); rintro e u0 ⟨rfl, hb⟩; have G0 := Lib.hid hb; clear hb)
          | (go_at_call 13; (with_reducible refine (S1.out _ G0.out).mono ?_); rintro e u1 ⟨rfl, hb⟩; have G1 := Lib.hid (below_step G0.out hb); clear hb)
          | (go_at_call 21; (with_reducible refine (C0.out _ G1.out).mono ?_); rintro e u2 ⟨rfl, hb⟩; have G2 := Lib.hid (below_step G1.out hb); clear hb)
          | (go_at_call 21; (with_reducible refine (CN.out _).mono ?_); rintro e u8 ⟨rfl, hb⟩; have G8 := Lib.hid (below_step G2.out hb); clear hb)
          | (go_at_call 3; refine (HR.out _).mono ?_; rintro e u9 ⟨rfl, hb⟩; have G9 := Lib.hid (below_step G8.out hb); clear hb))
        go_ret
        exact ⟨rfl, G9.out⟩
    · have S1 := Lib.hid (small_of_tg (decide_eq_false s1) T1.out)
      clear s1
      go_enter Try.func9, Try.ntmps9
      go_wp2_with (first
        | (go_at_call 13; (with_reducible refine (S0.out _ (Below.refl _ _)).mono ?_); rintro e u0 ⟨rfl, hb⟩; have G0 := Lib.hid hb; clear hb)
        | (go_at_call 13; (with_reducible refine (S1.out _ G0.out).mono ?_); rintro e u1 ⟨rfl, hb⟩; have G1 := Lib.hid (below_step G0.out hb); clear hb)
        | (go_at_call 21; (with_reducible refine (CN.out _).mono ?_); rintro e u8 ⟨rfl, hb⟩; have G8 := Lib.hid (below_step G1.out hb); clear hb)
        | (go_at_call 3; refine (HR.out _).mono ?_; rintro e u9 ⟨rfl, hb⟩; have G9 := Lib.hid (below_step G8.out hb); clear hb))
      go_ret
      exact ⟨rfl, G9.out⟩
  · have S0 := Lib.hid (small_of_tg (decide_eq_false s0) T0.out)
    clear s0
    go_enter Try.func9, Try.ntmps9
    go_wp2_with (first
      | (go_at_call 13; (with_reducible refine (S0.out _ (Below.refl _ _)).mono ?_); rintro e u0 ⟨rfl, hb⟩; have G0 := Lib.hid hb; clear hb)
      | (go_at_call 21; (with_reducible refine (CN.out _).mono ?_); rintro e u8 ⟨rfl, hb⟩; have G8 := Lib.hid (below_step G0.out hb); clear hb)
      | (go_at_call 3; refine (HR.out _).mono ?_; rintro e u9 ⟨rfl, hb⟩; have G9 := Lib.hid (below_step G8.out hb); clear hb))
    go_ret
    exact ⟨rfl, G9.out⟩
end Go.Proofs.Ytacfmabflmjalaa
