/- A policy, one depth more (the project's walk.policy); Right, Rules. -/
import Derived.Test.YtjpkemamfccfdaaGreatDoorPolPol
namespace Go.Proofs.YtjpkemamfccfdaaGreatDoor
set_option linter.unusedVariables false
open Go.RowKit Go.Sort

theorem each_len {a b d n2 n3 l : Nat} (h : a + (16 + 16 * d) < 800000) (h1 : b ≤ a + l * 1) (hl : l = n2) (h2 : n2 ≤ 16) (h3 : n3 ≤ 16) : b + n3 * d < 800000 := by
  have : n3 * d ≤ 16 * d := Nat.mul_le_mul_right _ h3
  omega
set_option maxRecDepth 100000 in
set_option maxHeartbeats 3200000 in
theorem pol_succ {d : Nat} (ih : PolOk d) (hd : d ≤ 3) : PolOk (d + 1) := by
  intro w g B s R m p A1 A2 A3 A4 n1 k1 n2 k2 n3 k3 n4 k4 hk hlen hR hid h1 h2 h3 h4
  have e5 : (5 : Int) - ((d + 1 : Nat) : Int) = 4 - (d : Int) := by omega
  rw [e5]
  have hdd : 1 ≤ (4 - (d : Int)) ∧ (4 - (d : Int)) ≤ 4 := by omega
  have HW := Lib.hid hk
  have H1 := Lib.hid h1
  have H2 := Lib.hid h2
  have H3 := Lib.hid h3
  have H4 := Lib.hid h4
  have HRR := Lib.hid hR
  have HLEN := Lib.hid hlen
  have HN : Hid (p.rules.length = n2 ∧ p.kids.length = n3) := ⟨Rw.len h2, Rw.len h3⟩
  have HC23 : Hid ((n2 ≤ k2 ∧ k2 ≤ maxLen) ∧ n3 ≤ k3 ∧ k3 ≤ maxLen) := ⟨⟨Rw.le h2, Rw.cap h2⟩, Rw.le h3, Rw.cap h3⟩
  obtain ⟨q, hq⟩ : ∃ q, q = 4 - (d : Int) := ⟨_, rfl⟩
  rw [← hq] at hdd ⊢
  have HQ := Lib.hid hq
  clear hq e5
  have hkeep0 := ((hk.alloc (.cells #[.pointer (some ⟨g, 0, none⟩)] 123)).alloc (.cells #[.string p.id, .bool p.set, .int .i64 p.alg, .slice A1 n1 k1, .slice A2 n2 k2, .slice A3 n3 k3, .slice A4 n4 k4] 28)).alloc (.cells #[.int .i64 q] 3)
  have hl : s.ids.length < 1000000 := by omega
  have HF := Lib.hid (fresh_any p.id hid hkeep0.ob hkeep0.map hkeep0.ne hl)
  have hgl : g < w.heap.size := hk.ob.lt
  have hBl : B < w.heap.size := hk.map.lt
  have hne := hk.ne
  have HFT := Lib.hid (fun W => fits_any p.id p.set p.alg A1 A2 A3 A4 n1 n2 n3 n4 k1 k2 k3 k4 W)
  have HFE : Hid (fitsB p = fitsN p.set p.alg n2 n3) := by
    show fitsB p = fitsN p.set p.alg n2 n3
    rw [fits_eq, HN.out.1, HN.out.2]
  have PA : Hid (Ob (((w.alloc (.cells #[.pointer (some ⟨g, 0, none⟩)] 123)).alloc (.cells #[.string p.id, .bool p.set, .int .i64 p.alg, .slice A1 n1 k1, .slice A2 n2 k2, .slice A3 n3 k3, .slice A4 n4 k4] 28)).alloc (.cells #[.int .i64 q] 3)) w.heap.size 123 #[.pointer (some ⟨g, 0, none⟩)]) :=
    ((Ob.made w _ _).keep (Below.heap_alloc _ _ _ (by simp))).keep (Below.heap_alloc _ _ _ (by simp; omega))
  have XA : Hid (Ob (((w.alloc (.cells #[.pointer (some ⟨g, 0, none⟩)] 123)).alloc (.cells #[.string p.id, .bool p.set, .int .i64 p.alg, .slice A1 n1 k1, .slice A2 n2 k2, .slice A3 n3 k3, .slice A4 n4 k4] 28)).alloc (.cells #[.int .i64 q] 3)) (w.heap.size + 1) 28 #[.string p.id, .bool p.set, .int .i64 p.alg, .slice A1 n1 k1, .slice A2 n2 k2, .slice A3 n3 k3, .slice A4 n4 k4]) := by
    have := Ob.made (w.alloc (.cells #[.pointer (some ⟨g, 0, none⟩)] 123)) 28 #[.string p.id, .bool p.set, .int .i64 p.alg, .slice A1 n1 k1, .slice A2 n2 k2, .slice A3 n3 k3, .slice A4 n4 k4]
    rw [size_al] at this
    exact this.keep (Below.heap_alloc _ _ _ (by simp))
  have IA : Hid (Ob (((w.alloc (.cells #[.pointer (some ⟨g, 0, none⟩)] 123)).alloc (.cells #[.string p.id, .bool p.set, .int .i64 p.alg, .slice A1 n1 k1, .slice A2 n2 k2, .slice A3 n3 k3, .slice A4 n4 k4] 28)).alloc (.cells #[.int .i64 q] 3)) (w.heap.size + 1 + 1) 3 #[.int .i64 q]) := by
    have := Ob.made ((w.alloc (.cells #[.pointer (some ⟨g, 0, none⟩)] 123)).alloc (.cells #[.string p.id, .bool p.set, .int .i64 p.alg, .slice A1 n1 k1, .slice A2 n2 k2, .slice A3 n3 k3, .slice A4 n4 k4] 28)) 3 #[.int .i64 q]
    rw [size_al, size_al] at this
    exact this
  have GA : Hid (Only2 g B w (((w.alloc (.cells #[.pointer (some ⟨g, 0, none⟩)] 123)).alloc (.cells #[.string p.id, .bool p.set, .int .i64 p.alg, .slice A1 n1 k1, .slice A2 n2 k2, .slice A3 n3 k3, .slice A4 n4 k4] 28)).alloc (.cells #[.int .i64 q] 3))) := ((Only2.alloc _).trans (Only2.alloc _)).trans (Only2.alloc _)
  clear hk hkeep0 h1 h2 h3 h4 hR hlen hl hid
  by_cases hfr : (decide (Named (bl p.id)) && !metB p.id s.ids) = true
  · rw [hfr] at HF
    have HE : Hid (polS (d + 1) p s = (if fitsB p = false then (1, ⟨s.ids ++ [p.id], s.n⟩)
        else if orE (tgE p.tg) (obE p.ob) ≠ 0 then (orE (tgE p.tg) (obE p.ob), ⟨s.ids ++ [p.id], s.n⟩)
        else if 16 < n2 ∨ 16 < n3 then (6, ⟨s.ids ++ [p.id], s.n⟩)
        else if (firstS ruleS p.rules ⟨s.ids ++ [p.id], s.n⟩).1 ≠ 0 then firstS ruleS p.rules ⟨s.ids ++ [p.id], s.n⟩
        else firstS (polS d) p.kids (firstS ruleS p.rules ⟨s.ids ++ [p.id], s.n⟩).2)) := by
      show polS (d + 1) p s = _
      simp only [polS, idS_some hfr, HN.out.1, HN.out.2]
    have HS1 : Hid ((⟨s.ids ++ [p.id], s.n⟩ : Seen).ids.length = s.ids.length + 1) := by simp [Hid]
    clear hfr
    generalize polS (d + 1) p s = z at *
    by_cases hfit : fitsN p.set p.alg n2 n3 = false
    · rw [hfit] at HFE HFT
      rw [HFE.out, if_pos rfl] at HE
      clear hfit
      go_enter Tryz.func60, Tryz.ntmps60
      go_wp2_with (first
        | (go_at_call 75; refine HF.out.mono ?_; rintro e w1 ⟨rfl, hb1, hm1⟩; have X1 := Lib.hid (XA.out.keep (hb1.heap XA.out.lt (by omega))); have x0 := X1.out.cell 0; have x1 := X1.out.cell 1; have x2 := X1.out.cell 2; have x3 := X1.out.cell 3; have x4 := X1.out.cell 4; have x5 := X1.out.cell 5; have x6 := X1.out.cell 6)
        | (go_at_call 76; refine (HFT.out _).mono ?_; rintro e w2 ⟨rfl, hb2⟩))
      go_ret
      rw [HE.out]
      refine ⟨rfl, (GA.out.trans (Only2.of_B hb1)).trans (Only2.of_below hb2), ⟨s.ids ++ [p.id], s.n⟩, ?_, fun h => by cases h⟩
      have o0 : Ob w1 g 82 #[.map (some B), .int .i64 s.n] := (((HW.out.alloc _).alloc _).alloc _).ob.keep (hb1.heap (((HW.out.alloc _).alloc _).alloc _).ob.lt hne)
      exact ⟨o0.below hb2 o0.lt, hm1.below hb2, hne, by have := HW.out.few; show s.n ≤ (s.ids ++ [p.id]).length; simp; omega⟩
    · rw [Bool.not_eq_false] at hfit
      rw [hfit] at HFE HFT
      rw [HFE.out, if_neg (by simp)] at HE
      clear hfit
      go_enter Tryz.func60, Tryz.ntmps60
      go_wp2_with (first
        | (go_at_call 75; refine HF.out.mono ?_; rintro e w1 ⟨rfl, hb1, hm1⟩; have X1 := Lib.hid (XA.out.keep (hb1.heap XA.out.lt (by omega))); have x0 := X1.out.cell 0; have x1 := X1.out.cell 1; have x2 := X1.out.cell 2; have x3 := X1.out.cell 3; have x4 := X1.out.cell 4; have x5 := X1.out.cell 5; have x6 := X1.out.cell 6)
        | (go_at_call 76; refine (HFT.out _).mono ?_; rintro e w2 ⟨rfl, hb2⟩))
      have hB2 := (below_step hb2 (Below.refl _ _))
      have W2 : Hid (Wk w2 g B ⟨s.ids ++ [p.id], s.n⟩) := by
        have o0 : Ob w1 g 82 #[.map (some B), .int .i64 s.n] := (((HW.out.alloc _).alloc _).alloc _).ob.keep (hb1.heap (((HW.out.alloc _).alloc _).alloc _).ob.lt hne)
        exact ⟨o0.below hb2 o0.lt, hm1.below hb2, hne, by have := HW.out.few; show s.n ≤ (s.ids ++ [p.id]).length; simp; omega⟩
      have X2 := Lib.hid (X1.out.below hb2 X1.out.lt)
      have P2 : Hid (Ob w2 w.heap.size 123 #[.pointer (some ⟨g, 0, none⟩)]) := by
        have o0 := PA.out.keep (hb1.heap PA.out.lt (by omega))
        exact o0.below hb2 o0.lt
      have I2 : Hid (Ob w2 (w.heap.size + 1 + 1) 3 #[.int .i64 q]) := by
        have o0 := IA.out.keep (hb1.heap IA.out.lt (by omega))
        exact o0.below hb2 o0.lt
      have G2 : Hid (Only2 g B w w2) := (GA.out.trans (Only2.of_B hb1)).trans (Only2.of_below hb2)
      clear x0 x1 x2 x3 x4 x5 x6 hb1 hm1 hb2 hB2 X1 HF HFT PA XA IA GA
      have T1 := Lib.hid (H1.out.keep (G2.out.kept HRR.out) (fun _ h _ => h))
      have T4 := Lib.hid (H4.out.keep (G2.out.kept HRR.out) (fun _ h _ => h))
      have KK := Lib.hid (below_regrown w2)
      have Q1 : Hid (∀ d os, Calls Tryz.prog 78 #[.slice A1 n1 k1] (grow (redrawn w2 d) os) fun e w'' => e = .returned (.int .i64 (tgE p.tg)) ∧ ∃ p : Regrown, w'' = grow (redrawn w2 p.d) p.os) := fun d os => Calls.regrown_of (target_any _ (T1.out.keep (Kept.all (KK.out d os) R) (fun _ h _ => h)))
      have Q4 : Hid (∀ d os, Calls Tryz.prog 79 #[.slice A4 n4 k4] (grow (redrawn w2 d) os) fun e w'' => e = .returned (.int .i64 (obE p.ob)) ∧ ∃ p : Regrown, w'' = grow (redrawn w2 p.d) p.os) := fun d os => Calls.regrown_of (obls_any _ (T4.out.keep (Kept.all (KK.out d os) R) (fun _ h _ => h)))
      have y3 := fun d os => cell_regrown (X2.out.cell 3) d os
      have y6 := fun d os => cell_regrown (X2.out.cell 6) d os
      have HOR := Lib.hid (or2 (tgE p.tg) (obE p.ob))
      generalize tgE p.tg = a1 at *
      generalize obE p.ob = a3 at *
      refine wp_region_below_tail 6 (by kernel_rfl) (by kernel_rfl) ?_
      simp only [List.take_succ_cons, List.take_zero, List.drop_succ_cons, List.drop_zero]
      repeat (go_big_quiet_step ((first
        | (go_at_call 78; exact Q1.out _ _)
        | (go_at_call 79; exact Q4.out _ _))))
      refine wpQuiet_nil ?_
      intro _ hw'
      obtain ⟨⟨dq, osq⟩, hw''⟩ := hw'
      subst hw''
      have hbel := below_regrown w2 dq osq
      have W4 := Lib.hid (W2.out.below hbel)
      have X4 := Lib.hid (X2.out.below hbel X2.out.lt)
      have P4 := Lib.hid (P2.out.below hbel P2.out.lt)
      have I4 := Lib.hid (I2.out.below hbel I2.out.lt)
      have G4 := Lib.hid (G2.out.trans (Only2.of_below hbel))
      clear y3 y6 hbel Q1 Q4 KK W2 X2 P2 I2 G2 T1 T4
      dsimp only at W4 X4 P4 I4 G4 ⊢
      generalize grow (redrawn w2 dq) osq = w4 at *
      have HSL := Lib.hid (Sl.lit w4 64 (ev [a1, a3]) 2 rfl (by simp [maxLen]))
      have HOA := Lib.hid (or_any (l := [a1, a3]) HSL.out (by omega) (by simp))
      rw [HOR.out] at HOA
      obtain ⟨r, hr⟩ : ∃ r, r = orE a1 a3 := ⟨_, rfl⟩
      rw [← hr] at HOA HE
      have L4 : Hid (Below w4.heap.size w4 (w4.alloc (.cells (ev [a1, a3]).toArray 64))) := (Below.refl _ _).alloc (Nat.le_refl _) _
      have W5 := Lib.hid (W4.out.below L4.out)
      have X5 := Lib.hid (X4.out.below L4.out X4.out.lt)
      have P5 := Lib.hid (P4.out.below L4.out P4.out.lt)
      have I5 := Lib.hid (I4.out.below L4.out I4.out.lt)
      have G5 := Lib.hid (G4.out.trans (Only2.of_below L4.out))
      clear hr HOR W4 X4 P4 I4 G4 HSL
      by_cases hor : r = 0
      · subst hor
        rw [if_neg (by simp)] at HE
        by_cases hn : 16 < n2 ∨ 16 < n3
        · rw [if_pos hn] at HE
          by_cases hn2 : 16 < n2
          · have hz2 : (16 : Int) < (n2 : Int) := by omega
            clear hn
            go_wp2_with (first
              | (go_at_call 77; refine HOA.out.mono ?_; rintro e w5 ⟨rfl, hw5⟩; rw [← hw5] at W5 X5 P5 I5 G5; clear hw5; have x4 := X5.out.cell 4; have x5 := X5.out.cell 5))
            go_ret
            rw [HE.out]
            exact ⟨rfl, G5.out, _, W5.out, fun h => by cases h⟩
          · have hz2 : ¬ (16 : Int) < (n2 : Int) := by omega
            have hz3 : (16 : Int) < (n3 : Int) := by omega
            clear hn
            go_wp2_with (first
              | (go_at_call 77; refine HOA.out.mono ?_; rintro e w5 ⟨rfl, hw5⟩; rw [← hw5] at W5 X5 P5 I5 G5; clear hw5; have x4 := X5.out.cell 4; have x5 := X5.out.cell 5))
            go_ret
            rw [HE.out]
            exact ⟨rfl, G5.out, _, W5.out, fun h => by cases h⟩
        · rw [if_neg hn] at HE
          have hz2 : ¬ (16 : Int) < (n2 : Int) := by omega
          have hz3 : ¬ (16 : Int) < (n3 : Int) := by omega
          have HN16 : Hid (n2 ≤ 16 ∧ n3 ≤ 16) := ⟨by omega, by omega⟩
          clear hn
          have hl1 : (⟨s.ids ++ [p.id], s.n⟩ : Seen).ids.length + (16 + 16 * idsB d) < 800000 := by
            have e1 := HLEN.out
            have e3 : idsB (d + 1) = 17 + 16 * idsB d := rfl
            show (s.ids ++ [p.id]).length + (16 + 16 * idsB d) < 800000
            rw [List.length_append, List.length_singleton]
            omega
          have HL1 := Lib.hid hl1
          have R5 := Lib.hid (H2.out.keep (G5.out.kept HRR.out) (fun _ h _ => h))
          have HER := Lib.hid (each_rule W5.out (by have := HL1.out; omega) (by have := HN16.out; omega) HRR.out R5.out)
          have HRI := Lib.hid (firstS_ids (c := 1) ruleS_ids p.rules ⟨s.ids ++ [p.id], s.n⟩)
          have HGL : Hid ((w.heap.size < (w4.alloc (.cells (ev [a1, a3]).toArray 64)).heap.size) ∧ w.heap.size + 1 + 1 < (w4.alloc (.cells (ev [a1, a3]).toArray 64)).heap.size) := ⟨P5.out.lt, I5.out.lt⟩
          clear hl1
          generalize (⟨s.ids ++ [p.id], s.n⟩ : Seen) = s1 at *
          obtain ⟨r1, hr1⟩ : ∃ r1, r1 = firstS ruleS p.rules s1 := ⟨_, rfl⟩
          rw [← hr1] at HER HE HRI
          clear hr1
          by_cases hrz : r1.1 = 0
          · have HRZ := Lib.hid hrz
            rw [hrz] at HER HE
            rw [if_neg (by simp)] at HE
            clear hrz
            have HHH : Hid ((w.heap.size ≠ g ∧ w.heap.size ≠ B) ∧ w.heap.size + 1 + 1 ≠ g ∧ w.heap.size + 1 + 1 ≠ B) := ⟨⟨by omega, by omega⟩, by omega, by omega⟩
            have HD4 : Hid (d ≤ 4) := Nat.le_succ_of_le hd
            have HEL := Lib.hid (each_len HL1.out HRI.out HN.out.1 HN16.out.1 HN16.out.2)
            have I5' := I5.out
            rw [HQ.out] at I5'
            have J5 := Lib.hid I5'
            clear I5'
            go_wp2_with (first
              | (go_at_call 77; refine HOA.out.mono ?_; rintro e w5 ⟨rfl, hw5⟩; rw [← hw5] at W5 X5 P5 I5 G5 HER HGL J5; clear hw5; have x4 := X5.out.cell 4; have x5 := X5.out.cell 5; have p5 := P5.out.cell 0)
              | (go_at_call 80; refine HER.out.mono ?_; rintro e w6 ⟨rfl, hb6, hw6⟩; have B6 := Lib.hid hb6; have W6 := Lib.hid (hw6.ok HRZ.out); have X6 := Lib.hid (X5.out.keep (hb6.heap X5.out.lt (by omega) (by omega))); have P6 := Lib.hid (P5.out.keep (hb6.heap P5.out.lt (by omega) (by omega))); have I6 := Lib.hid (J5.out.keep (hb6.heap J5.out.lt (by omega) (by omega))); have y5 := X6.out.cell 5; have K6 := Lib.hid (H3.out.keep ((G5.out.trans hb6).kept HRR.out) (fun _ h _ => h)); clear hb6 hw6 x4 x5 p5)
              | (go_at_call 82; refine (each_pol ih HD4.out W6.out HEL.out HRR.out P6.out I6.out HHH.out K6.out).mono ?_; rintro e w7 ⟨rfl, hb7, hw7⟩))
            go_ret
            rw [HE.out]
            exact ⟨rfl, (G5.out.trans B6.out).trans hb7, hw7⟩
          · have hne1 : (r1.1 != 0) = true := by simpa using hrz
            rw [if_pos hrz] at HE
            have HRZ := Lib.hid hrz
            clear hrz
            go_wp2_with (first
              | (go_at_call 77; refine HOA.out.mono ?_; rintro e w5 ⟨rfl, hw5⟩; rw [← hw5] at W5 X5 P5 I5 G5 HER HGL; clear hw5; have x4 := X5.out.cell 4; have x5 := X5.out.cell 5; have p5 := P5.out.cell 0)
              | (go_at_call 80; refine HER.out.mono ?_; rintro e w6 ⟨rfl, hb6, hw6⟩; have B6 := Lib.hid hb6; have W6 := Lib.hid hw6; clear hw6))
            go_ret
            rw [HE.out]
            exact ⟨rfl, G5.out.trans B6.out, W6.out⟩
      · have hne0 : (r != 0) = true := by simpa using hor
        rw [if_pos hor] at HE
        have HOZ := Lib.hid hor
        clear hor
        go_wp2_with (first
          | (go_at_call 77; refine HOA.out.mono ?_; rintro e w5 ⟨rfl, rfl⟩))
        go_ret
        rw [HE.out]
        exact ⟨rfl, G5.out, _, W5.out, fun h => absurd h HOZ.out⟩
  · rw [Bool.not_eq_true] at hfr
    rw [hfr] at HF
    have HE : Hid (polS (d + 1) p s = (1, s)) := by
      show polS (d + 1) p s = _
      simp only [polS, idS_none hfr]
    clear hfr
    generalize polS (d + 1) p s = z at *
    go_enter Tryz.func60, Tryz.ntmps60
    go_wp2_with (first
      | (go_at_call 75; refine HF.out.mono ?_; rintro e w1 ⟨rfl, hb1, hm1⟩))
    go_ret
    rw [HE.out]
    have o0 : Ob w1 g 82 #[.map (some B), .int .i64 s.n] := (((HW.out.alloc _).alloc _).alloc _).ob.keep (hb1.heap (((HW.out.alloc _).alloc _).alloc _).ob.lt hne)
    exact ⟨rfl, (((Only2.alloc _).trans (Only2.alloc _)).trans (Only2.alloc _)).trans (Only2.of_B hb1), ⟨s.ids ++ [p.id], s.n⟩, ⟨o0, hm1, hne, by have := HW.out.few; show s.n ≤ (s.ids ++ [p.id]).length; simp; omega⟩, fun h => by cases h⟩
end Go.Proofs.YtjpkemamfccfdaaGreatDoor
