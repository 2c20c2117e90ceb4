/- TargetGrows: the walk. -/
import Derived.Test.YtjpkemamfccfdaaTgtC
import Derived.Test.YtjpkemamfccfdaaTgtB
namespace Go.Proofs.Ytjpkemamfccfdaa
set_option linter.unusedVariables false
open Go.RowKit Go.Sort

theorem met_both (ask : List Giv) (t u : Tgt) : metI ask (t ++ u) = min (metI ask t) (metI ask u) := least_app t u
theorem met_one (ask : List Giv) (x : List (List Mat)) : metI ask [x] = oneI ask x := by
  have := (tri_one ask x).2
  show min (oneI ask x) 2 = oneI ask x
  omega
theorem met_either (ask : List Giv) (x y : List (List Mat)) : metI ask [x ++ y] = max (metI ask [x]) (metI ask [y]) := by
  rw [met_one, met_one, met_one]
  exact most_app x y

theorem any_len {t : Tgt} {x : List (List Mat)} (h : tgC t ≤ 3000) (hx : x ∈ t) : x.length ≤ 3000 := by
  have := sumC_mem (f := anyC) hx
  have e : x.length ≤ anyC x := by unfold anyC; omega
  unfold tgC at h
  omega
theorem tg_one (w : World) {A : Option Addr} {n c : Nat} {x : List (List Mat)} {R : Nat → Prop} (h : Als w R A n c x) : Tg (w.alloc (.cells #[.slice A n c] 37)) (fun _ => True) (some ⟨w.heap.size, 0, none⟩) 1 1 [x] := by
  have := Rw.lit (k := 1) (P := fun vs (l : List (List Mat)) => ∃ B m d, vs = [.slice B m d] ∧ Als (w.alloc (.cells #[.slice A n c] 37)) (fun _ => True) B m d l) (R := fun _ => True) w 37 (fun _ => [.slice A n c]) [x] (n := 1) rfl (by omega) trivial (fun _ _ => rfl) (fun x' hx => by
    simp at hx; subst hx; exact ⟨_, _, _, rfl, h.up' ((Below.refl _ _).alloc (Nat.le_refl _) _)⟩)
  rw [show [x].flatMap (fun _ => [Value.slice A n c]) = [Value.slice A n c] from rfl] at this
  exact this

set_option maxRecDepth 100000 in
set_option maxHeartbeats 12800000 in
theorem targetGrows_walk (w : World) (A0 : Option Addr) (n0 c0 : Nat) (h0 : ∃ l, Tg w (fun _ => True) A0 n0 c0 l) (A1 : Option Addr) (n1 c1 : Nat) (h1 : ∃ l, Tg w (fun _ => True) A1 n1 c1 l) (A2 : Option Addr) (n2 c2 : Nat) (h2 : ∃ l, Gvs w (fun _ => True) A2 n2 c2 l) :
    Calls Try.prog 5 #[.slice A0 n0 c0, .slice A1 n1 c1, .slice A2 n2 c2] w fun e w' => e = .returned (.bool true) ∧ Below w.heap.size w w' := by
  obtain ⟨t, h0⟩ := h0
  obtain ⟨u, h1⟩ := h1
  obtain ⟨ask, h2⟩ := h2
  have hle0 := Rw.le h0
  have hcap0 := Rw.cap h0
  have hle1 := Rw.le h1
  have hcap1 := Rw.cap h1
  unfold maxLen at hcap0 hcap1
  have HL0 := Lib.hid (Rw.len h0)
  have HL1 := Lib.hid (Rw.len h1)
  have T0 := Lib.hid h0
  have T1 := Lib.hid h1
  have G0 := Lib.hid h2
  clear h0 h1 h2
  go_enter Try.func5, Try.ntmps5
  by_cases s0 : tgS t ≤ 3000
  rotate_left
  · have S0 := Lib.hid (fun V (hV : Below w.heap.size w V) => tgsmall_is (decide_eq_false s0) (T0.out.up' hV))
    clear s0
    go_wp2_with (first
      | (go_at_call 14; (with_reducible refine (S0.out w (Below.refl _ _)).mono ?_); rintro e u1 ⟨rfl, hb⟩; have G1 := Lib.hid hb; clear hb)
      | (go_at_call 3; refine (tgruns_any _).mono ?_; rintro e u9 ⟨rfl, hb⟩; have G9 := Lib.hid (below_step G1.out hb); clear hb))
    go_ret
    exact ⟨rfl, G9.out⟩
  have S0 := Lib.hid (fun V (hV : Below w.heap.size w V) => tgsmall_is (decide_eq_true s0) (T0.out.up' hV))
  by_cases s1 : tgS u ≤ 3000
  rotate_left
  · have S1 := Lib.hid (fun V (hV : Below w.heap.size w V) => tgsmall_is (decide_eq_false s1) (T1.out.up' hV))
    clear s0 s1
    go_wp2_with (first
      | (go_at_call 14; (with_reducible refine (S0.out w (Below.refl _ _)).mono ?_); rintro e u1 ⟨rfl, hb⟩; have G1 := Lib.hid hb; clear hb)
      | (go_at_call 14; (with_reducible refine (S1.out u1 G1.out).mono ?_); rintro e u2 ⟨rfl, hb⟩; have G2 := Lib.hid (below_step G1.out hb); clear hb)
      | (go_at_call 3; refine (tgruns_any _).mono ?_; rintro e u9 ⟨rfl, hb⟩; have G9 := Lib.hid (below_step G2.out hb); clear hb))
    go_ret
    exact ⟨rfl, G9.out⟩
  have S1 := Lib.hid (fun V (hV : Below w.heap.size w V) => tgsmall_is (decide_eq_true s1) (T1.out.up' hV))
  by_cases s2 : fewC ask ≤ 1200
  rotate_left
  · have F0 := Lib.hid (fun V (hV : Below w.heap.size w V) => tgfew_is (decide_eq_false s2) (G0.out.up' hV))
    clear s0 s1 s2
    go_wp2_with (first
      | (go_at_call 14; (with_reducible refine (S0.out w (Below.refl _ _)).mono ?_); rintro e u1 ⟨rfl, hb⟩; have G1 := Lib.hid hb; clear hb)
      | (go_at_call 14; (with_reducible refine (S1.out u1 G1.out).mono ?_); rintro e u2 ⟨rfl, hb⟩; have G2 := Lib.hid (below_step G1.out hb); clear hb)
      | (go_at_call 15; (with_reducible refine (F0.out _ G2.out).mono ?_); rintro e u3 ⟨rfl, hb⟩; have G3 := Lib.hid (below_step G2.out hb); clear hb)
      | (go_at_call 3; refine (tgruns_any _).mono ?_; rintro e u9 ⟨rfl, hb⟩; have G9 := Lib.hid (below_step G3.out hb); clear hb))
    go_ret
    exact ⟨rfl, G9.out⟩
  have F0 := Lib.hid (fun V (hV : Below w.heap.size w V) => tgfew_is (decide_eq_true s2) (G0.out.up' hV))
  have HS := Lib.hid (few_short s2)
  have HT0 := Lib.hid (tgS_tg s0)
  have HT1 := Lib.hid (tgS_tg s1)
  obtain ⟨q, hq⟩ : ∃ q, q = n0 + n1 := ⟨_, rfl⟩
  have HQ := Lib.hid hq
  have HPQ : Hid (n0 + n1 ≤ 1000000) := by show n0 + n1 ≤ 1000000; have := tgS_len s0; have := tgS_len s1; have := HL0.out; have := HL1.out; omega
  clear s0 s1 s2 hq
  obtain ⟨ra, hra⟩ : ∃ r, metI ask t = r := ⟨_, rfl⟩
  obtain ⟨rb, hrb⟩ : ∃ r, metI ask u = r := ⟨_, rfl⟩
  have C0 := Lib.hid (fun V (hV : Below w.heap.size w V) => tgmet_is hra (T0.out.up' hV) (G0.out.up' hV) HS.out)
  have C1 := Lib.hid (fun V (hV : Below w.heap.size w V) => tgmet_is hrb (T1.out.up' hV) (G0.out.up' hV) HS.out)
  have HMB : Hid (metI ask (t ++ u) = min ra rb) := by show _ = _; rw [met_both, hra, hrb]
  clear hra hrb
  by_cases hz0 : n0 = 0
  · subst hz0
    go_wp2_with (first
      | (go_at_call 14; (with_reducible refine (S0.out w (Below.refl _ _)).mono ?_); rintro e u1 ⟨rfl, hb⟩; have G1 := Lib.hid hb; clear hb)
      | (go_at_call 14; (with_reducible refine (S1.out u1 G1.out).mono ?_); rintro e u2 ⟨rfl, hb⟩; have G2 := Lib.hid (below_step G1.out hb); clear hb)
      | (go_at_call 15; (with_reducible refine (F0.out _ G2.out).mono ?_); rintro e u3 ⟨rfl, hb⟩; have G3 := Lib.hid (below_step G2.out hb); clear hb)
      | (go_at_call 17; (with_reducible refine (C0.out _ G3.out).mono ?_); rintro e u4 ⟨rfl, hb⟩; have G4 := Lib.hid (below_step G3.out hb); clear hb)
      | (go_at_call 17; (with_reducible refine (C1.out _ G4.out).mono ?_); rintro e u5 ⟨rfl, hb⟩; have G5 := Lib.hid (below_step G4.out hb); obtain ⟨A5, k5, w5, A6, k6, w6, r5, r6, e6, hbo⟩ := both_tg (w := u5) (T0.out.up' G5.out) (T1.out.up' G5.out) HPQ.out HQ.out; have R5 := Lib.hid r5; have R6 := Lib.hid r6; have G6 := Lib.hid (below_step G5.out e6); have HBO := Lib.hid (tgmet_is (l := ask) HMB.out hbo (G0.out.up' (below_step G5.out e6)) HS.out); clear r5 r6 e6 hbo; clear hb)
      | (at_builtin; refine wpList_append_run (o := ⟨some 33, _, _, _, _, _⟩) rfl _ _ _ _ rfl rfl rfl R5.out ?_)
      | (at_builtin; refine wpList_append_run (o := ⟨some 35, _, _, _, _, _⟩) rfl _ _ _ _ rfl rfl rfl R6.out ?_)
      | (go_at_call 17; (with_reducible refine HBO.out.mono ?_); rintro e u6 ⟨rfl, hb⟩; have G7 := Lib.hid (below_step G6.out hb); clear hb)
      | (go_at_call 3; refine (tgruns_any _).mono ?_; rintro e u9 ⟨rfl, hb⟩; have G9 := Lib.hid (below_step G7.out hb); clear hb))
    go_ret
    exact ⟨rfl, G9.out⟩
  by_cases hz1 : n1 = 0
  · subst hz1
    have g0 : ((n0 : Int) == 0) = false := by rw [beq_eq_false_iff_ne]; omega
    go_wp2_with (first
      | (go_at_call 14; (with_reducible refine (S0.out w (Below.refl _ _)).mono ?_); rintro e u1 ⟨rfl, hb⟩; have G1 := Lib.hid hb; clear hb)
      | (go_at_call 14; (with_reducible refine (S1.out u1 G1.out).mono ?_); rintro e u2 ⟨rfl, hb⟩; have G2 := Lib.hid (below_step G1.out hb); clear hb)
      | (go_at_call 15; (with_reducible refine (F0.out _ G2.out).mono ?_); rintro e u3 ⟨rfl, hb⟩; have G3 := Lib.hid (below_step G2.out hb); clear hb)
      | (go_at_call 17; (with_reducible refine (C0.out _ G3.out).mono ?_); rintro e u4 ⟨rfl, hb⟩; have G4 := Lib.hid (below_step G3.out hb); clear hb)
      | (go_at_call 17; (with_reducible refine (C1.out _ G4.out).mono ?_); rintro e u5 ⟨rfl, hb⟩; have G5 := Lib.hid (below_step G4.out hb); obtain ⟨A5, k5, w5, A6, k6, w6, r5, r6, e6, hbo⟩ := both_tg (w := u5) (T0.out.up' G5.out) (T1.out.up' G5.out) HPQ.out HQ.out; have R5 := Lib.hid r5; have R6 := Lib.hid r6; have G6 := Lib.hid (below_step G5.out e6); have HBO := Lib.hid (tgmet_is (l := ask) HMB.out hbo (G0.out.up' (below_step G5.out e6)) HS.out); clear r5 r6 e6 hbo; clear hb)
      | (at_builtin; refine wpList_append_run (o := ⟨some 33, _, _, _, _, _⟩) rfl _ _ _ _ rfl rfl rfl R5.out ?_)
      | (at_builtin; refine wpList_append_run (o := ⟨some 35, _, _, _, _, _⟩) rfl _ _ _ _ rfl rfl rfl R6.out ?_)
      | (go_at_call 17; (with_reducible refine HBO.out.mono ?_); rintro e u6 ⟨rfl, hb⟩; have G7 := Lib.hid (below_step G6.out hb); clear hb)
      | (go_at_call 3; refine (tgruns_any _).mono ?_; rintro e u9 ⟨rfl, hb⟩; have G9 := Lib.hid (below_step G7.out hb); clear hb))
    go_ret
    exact ⟨rfl, G9.out⟩
  have g0 : ((n0 : Int) == 0) = false := by rw [beq_eq_false_iff_ne]; omega
  have g1 : ((n1 : Int) == 0) = false := by rw [beq_eq_false_iff_ne]; omega
  go_upto_region 9 with (first
      | (go_at_call 14; (with_reducible refine (S0.out w (Below.refl _ _)).mono ?_); rintro e u1 ⟨rfl, hb⟩; have G1 := Lib.hid hb; clear hb)
      | (go_at_call 14; (with_reducible refine (S1.out u1 G1.out).mono ?_); rintro e u2 ⟨rfl, hb⟩; have G2 := Lib.hid (below_step G1.out hb); clear hb)
      | (go_at_call 15; (with_reducible refine (F0.out _ G2.out).mono ?_); rintro e u3 ⟨rfl, hb⟩; have G3 := Lib.hid (below_step G2.out hb); clear hb)
      | (go_at_call 17; (with_reducible refine (C0.out _ G3.out).mono ?_); rintro e u4 ⟨rfl, hb⟩; have G4 := Lib.hid (below_step G3.out hb); clear hb)
      | (go_at_call 17; (with_reducible refine (C1.out _ G4.out).mono ?_); rintro e u5 ⟨rfl, hb⟩; have G5 := Lib.hid (below_step G4.out hb); obtain ⟨A5, k5, w5, A6, k6, w6, r5, r6, e6, hbo⟩ := both_tg (w := u5) (T0.out.up' G5.out) (T1.out.up' G5.out) HPQ.out HQ.out; have R5 := Lib.hid r5; have R6 := Lib.hid r6; have G6 := Lib.hid (below_step G5.out e6); have HBO := Lib.hid (tgmet_is (l := ask) HMB.out hbo (G0.out.up' (below_step G5.out e6)) HS.out); clear r5 r6 e6 hbo; clear hb)
      | (at_builtin; refine wpList_append_run (o := ⟨some 33, _, _, _, _, _⟩) rfl _ _ _ _ rfl rfl rfl R5.out ?_)
      | (at_builtin; refine wpList_append_run (o := ⟨some 35, _, _, _, _, _⟩) rfl _ _ _ _ rfl rfl rfl R6.out ?_)
      | (go_at_call 17; (with_reducible refine HBO.out.mono ?_); rintro e u6 ⟨rfl, hb⟩; have G7 := Lib.hid (below_step G6.out hb); clear hb))
  clear S0 S1 F0 C0 C1 R5 R6 HBO HMB G1 G2 G3 G4 G5 G6
  obtain ⟨b0, o0, x, B0, m0, d0, rfl, _, hbl0, hx, x0, hA⟩ := (T0.out.up' G7.out).at_ (j := 0) (by omega)
  obtain ⟨b1, o1, y, B1, m1, d1, rfl, _, hbl1, hy, y0, hB⟩ := (T1.out.up' G7.out).at_ (j := 0) (by omega)
  rw [Nat.add_zero] at x0 y0
  have i0 : 0 < n0 := by omega
  have i1 : 0 < n1 := by omega
  have j0 : (1 : Int) ≤ (n0 : Int) := by omega
  have j1 : (1 : Int) ≤ (n1 : Int) := by omega
  have j2 : (1 : Int) ≤ (c0 : Int) := by omega
  have j3 : (1 : Int) ≤ (c1 : Int) := by omega
  have LX : Hid (t.take 1 = [x]) := by show _ = _; obtain ⟨hk, rfl⟩ := List.getElem?_eq_some_iff.1 hx; rw [List.take_succ_eq_append_getElem hk]; rfl
  have LY : Hid (u.take 1 = [y]) := by show _ = _; obtain ⟨hk, rfl⟩ := List.getElem?_eq_some_iff.1 hy; rw [List.take_succ_eq_append_getElem hk]; rfl
  have T0' : Hid (∀ V, Below w.heap.size w V → Tg V (fun _ => True) (some ⟨b0, o0, none⟩) 1 c0 [x]) := fun V hV => by
    have := Rw.take (T0.out.up' hV) (m := 1) (by omega)
    rw [LX.out] at this
    exact this
  have T1' : Hid (∀ V, Below w.heap.size w V → Tg V (fun _ => True) (some ⟨b1, o1, none⟩) 1 c1 [y]) := fun V hV => by
    have := Rw.take (T1.out.up' hV) (m := 1) (by omega)
    rw [LY.out] at this
    exact this
  have HA := Lib.hid hA
  have HB := Lib.hid hB
  have HMA : Hid (m0 + m1 ≤ 1000000) := by
    show m0 + m1 ≤ 1000000
    have e0 := any_len HT0.out (List.mem_of_getElem? hx)
    have e1 := any_len HT1.out (List.mem_of_getElem? hy)
    have := Rw.len hA
    have := Rw.len hB
    omega
  have CX := Lib.hid (fun V (hV : Below u6.heap.size u6 V) => (World.cell?_of_block (hV.block _ hbl0)).trans x0)
  have CY := Lib.hid (fun V (hV : Below u6.heap.size u6 V) => (World.cell?_of_block (hV.block _ hbl1)).trans y0)
  clear hx hy x0 y0 hA hB hz0 hz1 LX LY
  obtain ⟨q2, hq2⟩ : ∃ q, q = m0 + m1 := ⟨_, rfl⟩
  have S0 : Hid (Below u6.heap.size u6 u6) := Below.refl _ _
  refine wp_region_held_tail (fun w' => Below u6.heap.size u6 w') 9 (by kernel_rfl) (by kernel_rfl) ?_
  intro G
  change HeadW _ _ _ _ _ _ _ _ _ _ (u6.drewN 1)
  have S := Lib.hid (below_drewN S0.out 1)
  generalize u6.drewN 1 = y0 at *
  refine HeadW_take (i := 1) (v := ?_) G rfl (by kernel_rfl) (by kernel_rfl) (by kernel_rfl) (fun _ _ _ h => h) (Or.inl ⟨by rfl, ?_⟩) S.out ?_
  rotate_left
  · intro wz hS
    go_simp
    try with_reducible rfl
  refine HeadW_take (i := 2) (v := ?_) G rfl (by kernel_rfl) (by kernel_rfl) (by kernel_rfl) (fun _ _ _ h => h) (Or.inl ⟨by rfl, ?_⟩) S.out ?_
  rotate_left
  · intro wz hS
    go_simp
    try with_reducible rfl
  refine HeadW_take (i := 3) (v := ?_) G rfl (by kernel_rfl) (by kernel_rfl) (by kernel_rfl) (fun _ _ _ h => h) (Or.inl ⟨by rfl, ?_⟩) S.out ?_
  rotate_left
  · intro wz hS
    have hk := CX.out _ hS
    go_simp
    try with_reducible rfl
  refine HeadW_take (i := 5) (v := ?_) G rfl (by kernel_rfl) (by kernel_rfl) (by kernel_rfl) (fun _ _ _ h => h) (Or.inl ⟨by rfl, ?_⟩) S.out ?_
  rotate_left
  · intro wz hS
    go_simp
    try with_reducible rfl
  refine HeadW_take (i := 6) (v := ?_) G rfl (by kernel_rfl) (by kernel_rfl) (by kernel_rfl) (fun _ _ _ h => h) (Or.inl ⟨by rfl, ?_⟩) S.out ?_
  rotate_left
  · intro wz hS
    go_simp
    try with_reducible rfl
  refine HeadW_take (i := 7) (v := ?_) G rfl (by kernel_rfl) (by kernel_rfl) (by kernel_rfl) (fun _ _ _ h => h) (Or.inl ⟨by rfl, ?_⟩) S.out ?_
  rotate_left
  · intro wz hS
    have hk := CY.out _ hS
    go_simp
    try with_reducible rfl
  obtain ⟨A5, c5, w5, A6, c6, w6, r5, r6, e5, e6, hbo⟩ := both_als (w := y0) (HA.out.up' S.out) (HB.out.up' S.out) HMA.out hq2
  have R5 := Lib.hid r5
  have R6 := Lib.hid r6
  have E5 := Lib.hid (S.out.trans (e5.mono S.out.size))
  have E6 := Lib.hid (S.out.trans (e6.mono S.out.size))
  have HBO := Lib.hid hbo
  clear r5 r6 e5 e6 hbo hq2
  refine HeadW_ready (rs := [0]) (by kernel_rfl) rfl rfl ?_
  refine AllW.cons rfl (fun K hK => ?_) AllW.nil
  go_simp
  refine hK _ _ (S.out.alloc S.out.size _) ?_
  clear hK K
  refine HeadW_ready (rs := [4]) (by kernel_rfl) rfl rfl ?_
  refine AllW.cons rfl (fun K hK => ?_) AllW.nil
  refine oper_append (.tmp 52) (.tmp 55) 37 37 rfl rfl rfl R5.out ?_
  refine hK _ _ E5.out ?_
  clear hK K
  refine HeadW_ready (rs := [8]) (by kernel_rfl) rfl rfl ?_
  refine AllW.cons rfl (fun K hK => ?_) AllW.nil
  refine oper_append (.tmp 56) (.tmp 59) 37 37 rfl rfl rfl R6.out ?_
  refine hK _ _ E6.out ?_
  clear hK K
  intro _
  refine ⟨by kernel_rfl, ?_⟩
  simp only [List.drop_succ_cons, List.drop_zero]
  have S := Lib.hid E6.out
  clear R5 R6 E5 E6 CX CY S0 HA HB
  obtain ⟨W9, hW9⟩ : ∃ W9, W9 = w6 := ⟨_, rfl⟩
  subst hW9
  have S6 := Lib.hid S.out
  have G8 := Lib.hid (below_step G7.out S.out)
  clear S
  have E0 : Hid (Below W9.heap.size W9 W9) := Below.refl _ _
  obtain ⟨rx, hrx⟩ : ∃ r, metI ask [x] = r := ⟨_, rfl⟩
  obtain ⟨ry, hry⟩ : ∃ r, metI ask [y] = r := ⟨_, rfl⟩
  have HME : Hid (metI ask [x ++ y] = max rx ry) := by show _ = _; rw [met_either, hrx, hry]
  have C0 := Lib.hid (fun V (hV : Below w.heap.size w V) => tgmet_is hrx (T0'.out V hV) (G0.out.up' hV) HS.out)
  have C1 := Lib.hid (fun V (hV : Below w.heap.size w V) => tgmet_is hry (T1'.out V hV) (G0.out.up' hV) HS.out)
  clear hrx hry
  go_upto_region 10 with fail
  refine wp_region_held_tail (fun w' => Below W9.heap.size W9 w') 17 (by kernel_rfl) (by kernel_rfl) ?_
  intro G
  change HeadW _ _ _ _ _ _ _ _ _ _ (W9.drewN 1)
  have S := Lib.hid (below_drewN E0.out 1)
  generalize W9.drewN 1 = z0 at *
  refine HeadW_take (i := 0) (v := ?_) G rfl (by kernel_rfl) (by kernel_rfl) (by kernel_rfl) (fun _ _ _ h => h) (Or.inl ⟨by rfl, ?_⟩) S.out ?_
  rotate_left
  · intro wz hS
    go_simp
    try with_reducible rfl
  refine HeadW_take (i := 2) (v := ?_) G rfl (by kernel_rfl) (by kernel_rfl) (by kernel_rfl) (fun _ _ _ h => h) (Or.inl ⟨by rfl, ?_⟩) S.out ?_
  rotate_left
  · intro wz hS
    go_simp
    try with_reducible rfl
  refine HeadW_take (i := 4) (v := ?_) G rfl (by kernel_rfl) (by kernel_rfl) (by kernel_rfl) (fun _ _ _ h => h) (Or.inl ⟨by rfl, ?_⟩) S.out ?_
  rotate_left
  · intro wz hS
    go_simp
    try with_reducible rfl
  refine HeadW_take (i := 5) (v := ?_) G rfl (by kernel_rfl) (by kernel_rfl) (by kernel_rfl) (fun _ _ _ h => h) (Or.inl ⟨by rfl, ?_⟩) S.out ?_
  rotate_left
  · intro wz hS
    go_simp
    try with_reducible rfl
  refine HeadW_take (i := 6) (v := ?_) G rfl (by kernel_rfl) (by kernel_rfl) (by kernel_rfl) (fun _ _ _ h => h) (Or.inl ⟨by rfl, ?_⟩) S.out ?_
  rotate_left
  · intro wz hS
    go_simp
    try with_reducible rfl
  refine HeadW_take (i := 8) (v := ?_) G rfl (by kernel_rfl) (by kernel_rfl) (by kernel_rfl) (fun _ _ _ h => h) (Or.inl ⟨by rfl, ?_⟩) S.out ?_
  rotate_left
  · intro wz hS
    go_simp
    try with_reducible rfl
  refine HeadW_take (i := 9) (v := ?_) G rfl (by kernel_rfl) (by kernel_rfl) (by kernel_rfl) (fun _ _ _ h => h) (Or.inl ⟨by rfl, ?_⟩) S.out ?_
  rotate_left
  · intro wz hS
    go_simp
    try with_reducible rfl
  refine HeadW_take (i := 10) (v := ?_) G rfl (by kernel_rfl) (by kernel_rfl) (by kernel_rfl) (fun _ _ _ h => h) (Or.inl ⟨by rfl, ?_⟩) S.out ?_
  rotate_left
  · intro wz hS
    go_simp
    try with_reducible rfl
  refine HeadW_ready (rs := [1]) (by kernel_rfl) rfl rfl ?_
  refine AllW.cons rfl (fun K hK => ?_) AllW.nil
  go_simp
  have hb : Below z0.heap.size z0 (z0.alloc (.cells #[.slice A6 q2 c6] 37)) := (Below.refl _ _).alloc (Nat.le_refl _) _
  have HT : Hid (Tg (z0.alloc (.cells #[.slice A6 q2 c6] 37)) (fun _ => True) (some ⟨z0.heap.size, 0, none⟩) 1 1 [x ++ y]) := tg_one z0 (HBO.out.up' S.out)
  have S := Lib.hid (S.out.trans (hb.mono S.out.size))
  refine hK _ _ S.out ?_
  clear hK K hb
  generalize z0.alloc (.cells #[.slice A6 q2 c6] 37) = z1 at *
  refine HeadW_ready (rs := [3]) (by kernel_rfl) rfl rfl ?_
  refine AllW.cons rfl (fun K hK => ?_) AllW.nil
  go_simp
  refine (tgmet_is HME.out HT.out (G0.out.up' (below_step G8.out S.out)) HS.out).mono ?_
  rintro e z2 ⟨rfl, hb⟩
  have S := Lib.hid (S.out.trans (hb.mono S.out.size))
  refine hK _ _ S.out ?_
  clear hK K hb
  refine HeadW_ready (rs := [7]) (by kernel_rfl) rfl rfl ?_
  refine AllW.cons rfl (fun K hK => ?_) AllW.nil
  go_simp
  refine (C0.out _ (below_step G8.out S.out)).mono ?_
  rintro e z3 ⟨rfl, hb⟩
  have S := Lib.hid (S.out.trans (hb.mono S.out.size))
  refine hK _ _ S.out ?_
  clear hK K hb
  refine HeadW_ready (rs := [11]) (by kernel_rfl) rfl rfl ?_
  refine AllW.cons rfl (fun K hK => ?_) AllW.nil
  go_simp
  refine (C1.out _ (below_step G8.out S.out)).mono ?_
  rintro e z4 ⟨rfl, hb⟩
  have S := Lib.hid (S.out.trans (hb.mono S.out.size))
  refine hK _ _ S.out ?_
  clear hK K hb
  refine HeadW_take (i := 12) (v := ?_) G rfl (by kernel_rfl) (by kernel_rfl) (by kernel_rfl) (fun _ _ _ h => h) (Or.inl ⟨by rfl, ?_⟩) S.out ?_
  rotate_left
  · intro wz hS
    go_simp
    try with_reducible rfl
  refine HeadW_take (i := 13) (v := ?_) G rfl (by kernel_rfl) (by kernel_rfl) (by kernel_rfl) (fun _ _ _ h => h) (Or.inl ⟨by rfl, ?_⟩) S.out ?_
  rotate_left
  · intro wz hS
    go_simp
    try with_reducible rfl
  refine HeadW_take (i := 14) (v := ?_) G rfl (by kernel_rfl) (by kernel_rfl) (by kernel_rfl) (fun _ _ _ h => h) (Or.inl ⟨by rfl, ?_⟩) S.out ?_
  rotate_left
  · intro wz hS
    go_simp
    try with_reducible rfl
  refine HeadW_ready (rs := [15]) (by kernel_rfl) rfl rfl ?_
  refine AllW.cons rfl (fun K hK => ?_) AllW.nil
  go_simp
  refine (tgruns_any _).mono ?_
  rintro e z5 ⟨rfl, hb⟩
  have S := Lib.hid (S.out.trans (hb.mono S.out.size))
  refine hK _ _ S.out ?_
  clear hK K hb
  refine HeadW_take (i := 16) (v := ?_) G rfl (by kernel_rfl) (by kernel_rfl) (by kernel_rfl) (fun _ _ _ h => h) (Or.inl ⟨by rfl, ?_⟩) S.out ?_
  rotate_left
  · intro wz hS
    go_simp
    try with_reducible rfl
  intro _
  refine ⟨by kernel_rfl, ?_⟩
  simp only [List.drop_succ_cons, List.drop_zero]
  go_wp2_with fail
  go_ret
  exact ⟨rfl, below_step G8.out S.out⟩
end Go.Proofs.Ytjpkemamfccfdaa
