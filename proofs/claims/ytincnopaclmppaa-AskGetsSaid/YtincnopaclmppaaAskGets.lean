/- AskGets: the walk. -/
import Derived.Test.YtincnopaclmppaaElvC
import Derived.Test.YtincnopaclmppaaElvD
namespace Go.Proofs.Ytincnopaclmppaa
set_option linter.unusedVariables false
open Go.RowKit

set_option maxRecDepth 100000 in
set_option maxHeartbeats 4000000 in
theorem askGets_walk (W : World) (A : Option Addr) (n c : Nat) (h : ∃ l, Gvs W (fun _ => True) A n c l) (at_ : Int) (hat : (Lit.int .i64 at_).wf = true) :
    Calls Try.prog 8 #[.slice A n c, .int .i64 at_] W fun e w' => e = .returned (.bool true) ∧ Below W.heap.size W w' := by
  obtain ⟨l, h⟩ := h
  have HFEW := Lib.hid (few_any h)
  have HRUN := Lib.hid (fun w => aruns_any w)
  have hle := Rw.le h
  have hcap := Rw.cap h
  have hbig := Rw.big h
  unfold maxLen at hcap
  have HL := Lib.hid (Rw.len h)
  have HK := Lib.hid (fun w (hW : Below W.heap.size W w) => h.keep (Kept.all hW (fun _ => True)) (fun _ h _ => h))
  have HK2 := Lib.hid (fun w (hW : Below W.heap.size W w) => (h.keep (Kept.refl _ _) (fun b _ hb => hb) : Gvs W (fun b => b < W.heap.size) A n c l).keep (Kept.below hW (fun b hb _ => hb)) (fun _ h _ => h))
  clear h hat
  by_cases hf : fewC l ≤ 1200
  rotate_left
  · rw [decide_eq_false hf] at HFEW
    clear hf
    go_enter Try.func8, Try.ntmps8
    go_wp2_with (first
      | (go_at_call 16; refine HFEW.out.mono ?_; rintro e w1 ⟨rfl, hb1⟩; have B1 := Lib.hid hb1; clear hb1)
      | (go_at_call 4; refine (HRUN.out _).mono ?_; rintro e w2 ⟨rfl, hb2⟩; have B2 := Lib.hid (below_step B1.out hb2); clear hb2))
    go_ret
    exact ⟨rfl, B2.out⟩
  rw [decide_eq_true hf] at HFEW
  have HF := Lib.hid hf
  have hn6 : n ≤ 600 := by have := few_len hf; have := HL.out; omega
  clear hf
  have HRI := Lib.hid (fun w (hW : Below W.heap.size W w) => aright_any (HK.out w hW))
  by_cases hr : rightA l = 0
  rotate_left
  · obtain ⟨rr, hrr⟩ : ∃ rr, rr = rightA l := ⟨_, rfl⟩
    rw [← hrr] at hr HRI
    have hne : (rr != 0) = true := by simpa using hr
    clear hrr hr
    go_enter Try.func8, Try.ntmps8
    go_wp2_with (first
      | (go_at_call 16; refine HFEW.out.mono ?_; rintro e w1 ⟨rfl, hb1⟩; have B1 := Lib.hid hb1; clear hb1)
      | (go_at_call 22; refine (HRI.out _ B1.out).mono ?_; rintro e w2 ⟨rfl, hb2⟩; have B2 := Lib.hid (below_step B1.out hb2); clear hb2)
      | (go_at_call 4; refine (HRUN.out _).mono ?_; rintro e w3 ⟨rfl, hb3⟩; have B3 := Lib.hid (below_step B2.out hb3); clear hb3))
    go_ret
    exact ⟨rfl, B3.out⟩
  rw [hr] at HRI
  have HR := Lib.hid hr
  clear hr
  have HG := Lib.hid (fun w (hW : Below W.heap.size W w) a => aget_any a (HK.out w hW) (few_short HF.out))
  go_enter Try.func8, Try.ntmps8
  go_wp2_with (first
    | (go_at_call 16; refine HFEW.out.mono ?_; rintro e w1 ⟨rfl, hb1⟩; have B1 := Lib.hid hb1; clear hb1)
    | (go_at_call 22; refine (HRI.out _ B1.out).mono ?_; rintro e w2 ⟨rfl, hb2⟩; have B2 := Lib.hid (below_step B1.out hb2); clear hb2))
  go_loopw [28] (fun i wr => ∃ k : Nat, k ≤ n ∧ i = .int .i64 k ∧ Below W.heap.size W wr) (fun i _ => n - (intOf i).toNat)
  case atStart => exact ⟨0, Nat.zero_le _, rfl, B2.out⟩
  case round =>
    obtain ⟨k, hk, rfl, hb⟩ := hrel
    have HB := Lib.hid hb
    clear hb
    by_cases hlt : k < n
    · obtain ⟨b, o, x, A', n', c', rfl, _, hbl, hx, hok, ⟨c0, c1, c2⟩, hin⟩ := (HK.out wr HB.out).at_ hlt
      have hg := right_get HR.out hx
      obtain ⟨xc, xn, xb⟩ := x
      simp only at c0 c1 c2 hin hg
      have hE1 : getE l ⟨xc, xn, false⟩ = 0 := by unfold getE; simp
      have hB1 : getB l ⟨xc, xn, false⟩ = xb := hg.1
      have hB2 : getB l ⟨xc, xn, true⟩ = xb := hg.1
      have hR1 : getR l ⟨xc, xn, false⟩ = xb := by unfold getR; rw [hE1, hB1, if_pos rfl]
      have hlen : xb.length = n' := Rw.len hin
      have hE2 : getE l ⟨xc, xn, true⟩ = if n' = 0 then 4 else 0 := by
        unfold getE
        rw [hB2, ← hlen]
        simp only [true_and, List.length_eq_zero_iff]
      have D0 := Lib.hid ((Below.refl wr.heap.size wr).alloc (Nat.le_refl _) (.cells #[.int .i64 xc, .string xn, .slice A' n' c'] 49))
      have D1 := Lib.hid (HB.out.alloc HB.out.size (.cells #[.int .i64 xc, .string xn, .slice A' n' c'] 49))
      have G1 := HG.out _ D1.out ⟨xc, xn, false⟩
      rw [hE1, hR1] at G1
      have G1 := Lib.hid G1
      have OB := Lib.hid (Ob.made wr 49 #[.int .i64 xc, .string xn, .slice A' n' c'])
      have HIN := Lib.hid (hin.keep (Kept.all D0.out _) (fun _ h _ => h))
      have HE2 := Lib.hid hE2
      clear hx hok hin hg hE1 hB1 hB2 hR1 hlen hE2
      rcases Nat.eq_zero_or_pos n' with rfl | hpos
      · rw [if_pos rfl] at HE2
        go_wp2_with (first
          | (go_at_call 13; (with_reducible refine G1.out.mono ?_); rintro e w1 ⟨A1, n1, k1, rfl, hb1, hv1⟩
             have V1 := Lib.hid hv1
             have E1 := Lib.hid hb1
             have F1 := Lib.hid (below_step D1.out hb1)
             have G2 := HG.out w1 F1.out ⟨xc, xn, true⟩
             rw [HE2.out] at G2
             have G2 := Lib.hid G2
             have OB1 := Lib.hid (Ob.below OB.out hb1 (Ob.lt OB.out))
             have p0 := OB1.out.cell 0
             have p1 := OB1.out.cell 1
             clear hb1 hv1)
          | (go_at_call 13; (with_reducible refine G2.out.mono ?_); rintro e w2 ⟨A2, n2, k2, rfl, hb2, hv2⟩
             have F2 := Lib.hid (below_step F1.out hb2)
             have SM := Lib.hid (bsame_any (V1.out.keep (Kept.all hb2 _) (fun _ h _ => h)) (HIN.out.keep (Kept.all (below_step E1.out hb2) _) (fun _ h _ => h)))
             have OB2 := Lib.hid (Ob.below OB1.out hb2 (Ob.lt OB1.out))
             have p2 := OB2.out.cell 2
             clear hb2 hv2)
          | (go_at_call 21; (with_reducible refine SM.out.mono ?_); rintro e w3 ⟨rfl, hb3⟩
             have F3 := Lib.hid (below_step F2.out hb3)
             have p3 := (Ob.below OB2.out hb3 (Ob.lt OB2.out)).cell 2
             clear hb3))
        go_roundw
        case rel => exact ⟨k + 1, by omega, by go_num, F3.out⟩
        case measure => simp [intOf]; omega
      · have hn0 : ¬ (n' : Int) = 0 := by omega
        rw [if_neg (by omega)] at HE2
        go_wp2_with (first
          | (go_at_call 13; (with_reducible refine G1.out.mono ?_); rintro e w1 ⟨A1, n1, k1, rfl, hb1, hv1⟩
             have V1 := Lib.hid hv1
             have E1 := Lib.hid hb1
             have F1 := Lib.hid (below_step D1.out hb1)
             have G2 := HG.out w1 F1.out ⟨xc, xn, true⟩
             rw [HE2.out] at G2
             have G2 := Lib.hid G2
             have OB1 := Lib.hid (Ob.below OB.out hb1 (Ob.lt OB.out))
             have p0 := OB1.out.cell 0
             have p1 := OB1.out.cell 1
             clear hb1 hv1)
          | (go_at_call 13; (with_reducible refine G2.out.mono ?_); rintro e w2 ⟨A2, n2, k2, rfl, hb2, hv2⟩
             have F2 := Lib.hid (below_step F1.out hb2)
             have SM := Lib.hid (bsame_any (V1.out.keep (Kept.all hb2 _) (fun _ h _ => h)) (HIN.out.keep (Kept.all (below_step E1.out hb2) _) (fun _ h _ => h)))
             have OB2 := Lib.hid (Ob.below OB1.out hb2 (Ob.lt OB1.out))
             have p2 := OB2.out.cell 2
             clear hb2 hv2)
          | (go_at_call 21; (with_reducible refine SM.out.mono ?_); rintro e w3 ⟨rfl, hb3⟩
             have F3 := Lib.hid (below_step F2.out hb3)
             have p3 := (Ob.below OB2.out hb3 (Ob.lt OB2.out)).cell 2
             clear hb3))
        go_roundw
        case rel => exact ⟨k + 1, by omega, by go_num, F3.out⟩
        case measure => simp [intOf]; omega
    · obtain rfl : k = n := by omega
      have hE1 : getE l ⟨9, ⟨#[120]⟩, false⟩ = 0 := by unfold getE; simp
      have hB1 : getB l ⟨9, ⟨#[120]⟩, false⟩ = [] := right_nine HR.out _
      have hB2 : getB l ⟨9, ⟨#[120]⟩, true⟩ = [] := right_nine HR.out _
      have hR1 : getR l ⟨9, ⟨#[120]⟩, false⟩ = [] := by unfold getR; rw [hE1, hB1, if_pos rfl]
      have hE2 : getE l ⟨9, ⟨#[120]⟩, true⟩ = 4 := by unfold getE; rw [hB2]; simp
      have G1 := HG.out _ HB.out ⟨9, ⟨#[120]⟩, false⟩
      rw [hE1, hR1] at G1
      have G1 := Lib.hid G1
      have HE2 := Lib.hid hE2
      clear hE1 hB1 hB2 hR1 hE2
      rcases Nat.eq_zero_or_pos k with rfl | hpos
      · go_wp2_with (first
          | (go_at_call 13; (with_reducible refine G1.out.mono ?_); rintro e w1 ⟨A1, n1, k1, rfl, hb1, hv1⟩
             obtain rfl : n1 = 0 := (Rw.len hv1).symm
             have F1 := Lib.hid (below_step HB.out hb1)
             have G2 := HG.out w1 F1.out ⟨9, ⟨#[120]⟩, true⟩
             rw [HE2.out] at G2
             have G2 := Lib.hid G2
             clear hb1 hv1)
          | (go_at_call 13; (with_reducible refine G2.out.mono ?_); rintro e w2 ⟨A2, n2, k2, rfl, hb2, hv2⟩
             have F2 := Lib.hid (below_step F1.out hb2)
             clear hb2 hv2)
          | (go_at_call 4; refine (HRUN.out _).mono ?_; rintro e w3 ⟨rfl, hb3⟩; have F3 := Lib.hid (below_step F2.out hb3); clear hb3))
        go_ret
        exact ⟨rfl, F3.out⟩
      · have hk0 : ¬ (k : Int) = 0 := by omega
        have hk64 := (right_iff.1 HR.out).1
        rw [HL.out] at hk64
        have hwi := within_le (n := at_) (lo := 0) (hi := (k : Int) - 1) (by omega)
        have WI := Lib.hid (fun w => within_any (n := at_) (lo := 0) (hi := (k : Int) - 1) (w := w) (by omega) (by omega) (by omega))
        obtain ⟨j, hj⟩ : ∃ j : Nat, withinOf at_ 0 ((k : Int) - 1) = (j : Int) := ⟨(withinOf at_ 0 ((k : Int) - 1)).toNat, by omega⟩
        rw [hj] at WI hwi
        have hjn : j < k := by omega
        have AS := Lib.hid (fun w (hW : Below W.heap.size W w) => asks_any (HK.out w hW) (few_bags HF.out) (by omega))
        clear hj hwi
        by_cases h64 : k = 64
        · have HHX : (if l.length = 64 then (6 : Int) else 11) = 6 := if_pos (by rw [HL.out]; exact h64)
          have HX2 := Lib.hid h64
          have hgt : (64 : Int) < (k : Int) + 1 := by omega
          clear h64
          go_wp2_with (first
          | (go_at_call 13; (with_reducible refine G1.out.mono ?_); rintro e w1 ⟨A1, n1, k1, rfl, hb1, hv1⟩
             obtain rfl : n1 = 0 := (Rw.len hv1).symm
             have F1 := Lib.hid (below_step HB.out hb1)
             have G2 := HG.out w1 F1.out ⟨9, ⟨#[120]⟩, true⟩
             rw [HE2.out] at G2
             have G2 := Lib.hid G2
             clear hb1 hv1)
          | (go_at_call 13; (with_reducible refine G2.out.mono ?_); rintro e w2 ⟨A2, n2, k2, rfl, hb2, hv2⟩
             have F2 := Lib.hid (below_step F1.out hb2)
             clear hb2 hv2)
          | (go_at_call 17; (with_reducible refine (AS.out _ F2.out).mono ?_); rintro e w3 ⟨A5, c5, rfl, hb3, hg3⟩
             have F3 := Lib.hid (below_step F2.out hb3)
             have hlo := Ow.lt hg3.1
             obtain ⟨b, o, x, A', n', c', rfl, _, hbl, hx, hok, ⟨q0, q1, q2⟩, hin⟩ := (HK2.out w3 F3.out).at_ hjn
             have hv : Vls w3 (Nb 0 (.slice A5 k c5)) A' n' c' x.bag := hin.keep (Kept.refl _ _) (fun b hb _ => ⟨Nat.zero_le _, fun e => by have := (hlo b e.symm).1; have := F2.out.size; omega⟩)
             obtain ⟨A6, c6, w6, r6, o6, b6⟩ := Og.push (Og.of_gr hg3) hok hv (by omega)
             have hri := right_twice HR.out hx
             have HRT := Lib.hid hri
             have R6 := Lib.hid r6
             have F6 := Lib.hid (F3.out.trans (b6.mono (Nat.le_trans F2.out.size (Nat.le_refl _))))
             have AR := aright_any (o6.gvs (by omega))
             rw [hri, HHX] at AR
             have AR := Lib.hid AR
             clear hb3 hlo hx hok hin hv r6 o6 b6 hri hg3)
          | (go_at_call 10; (with_reducible refine (WI.out _).mono ?_); rintro e w4 ⟨rfl, rfl⟩)
          | (at_builtin; refine wpList_append_run (o := ⟨some 111, _, _, _, _, _⟩) rfl _ _ _ _ rfl rfl rfl R6.out ?_)
          | (go_at_call 22; (with_reducible refine AR.out.mono ?_); rintro e w7 ⟨rfl, hb7⟩
             have F7 := Lib.hid (below_step F6.out hb7)
             clear hb7)
          | (go_at_call 4; refine (HRUN.out _).mono ?_; rintro e w8 ⟨rfl, hb8⟩; have F8 := Lib.hid (below_step F7.out hb8); clear hb8))
          go_ret
          exact ⟨rfl, F8.out⟩
        · have HHX : (if l.length = 64 then (6 : Int) else 11) = 11 := if_neg (by rw [HL.out]; exact h64)
          clear h64
          go_wp2_with (first
          | (go_at_call 13; (with_reducible refine G1.out.mono ?_); rintro e w1 ⟨A1, n1, k1, rfl, hb1, hv1⟩
             obtain rfl : n1 = 0 := (Rw.len hv1).symm
             have F1 := Lib.hid (below_step HB.out hb1)
             have G2 := HG.out w1 F1.out ⟨9, ⟨#[120]⟩, true⟩
             rw [HE2.out] at G2
             have G2 := Lib.hid G2
             clear hb1 hv1)
          | (go_at_call 13; (with_reducible refine G2.out.mono ?_); rintro e w2 ⟨A2, n2, k2, rfl, hb2, hv2⟩
             have F2 := Lib.hid (below_step F1.out hb2)
             clear hb2 hv2)
          | (go_at_call 17; (with_reducible refine (AS.out _ F2.out).mono ?_); rintro e w3 ⟨A5, c5, rfl, hb3, hg3⟩
             have F3 := Lib.hid (below_step F2.out hb3)
             have hlo := Ow.lt hg3.1
             obtain ⟨b, o, x, A', n', c', rfl, _, hbl, hx, hok, ⟨q0, q1, q2⟩, hin⟩ := (HK2.out w3 F3.out).at_ hjn
             have hv : Vls w3 (Nb 0 (.slice A5 k c5)) A' n' c' x.bag := hin.keep (Kept.refl _ _) (fun b hb _ => ⟨Nat.zero_le _, fun e => by have := (hlo b e.symm).1; have := F2.out.size; omega⟩)
             obtain ⟨A6, c6, w6, r6, o6, b6⟩ := Og.push (Og.of_gr hg3) hok hv (by omega)
             have hri := right_twice HR.out hx
             have HRT := Lib.hid hri
             have R6 := Lib.hid r6
             have F6 := Lib.hid (F3.out.trans (b6.mono (Nat.le_trans F2.out.size (Nat.le_refl _))))
             have AR := aright_any (o6.gvs (by omega))
             rw [hri, HHX] at AR
             have AR := Lib.hid AR
             clear hb3 hlo hx hok hin hv r6 o6 b6 hri hg3)
          | (go_at_call 10; (with_reducible refine (WI.out _).mono ?_); rintro e w4 ⟨rfl, rfl⟩)
          | (at_builtin; refine wpList_append_run (o := ⟨some 111, _, _, _, _, _⟩) rfl _ _ _ _ rfl rfl rfl R6.out ?_)
          | (go_at_call 22; (with_reducible refine AR.out.mono ?_); rintro e w7 ⟨rfl, hb7⟩
             have F7 := Lib.hid (below_step F6.out hb7)
             clear hb7)
          | (go_at_call 4; refine (HRUN.out _).mono ?_; rintro e w8 ⟨rfl, hb8⟩; have F8 := Lib.hid (below_step F7.out hb8); clear hb8))
          go_ret
          exact ⟨rfl, F8.out⟩
end Go.Proofs.Ytincnopaclmppaa
