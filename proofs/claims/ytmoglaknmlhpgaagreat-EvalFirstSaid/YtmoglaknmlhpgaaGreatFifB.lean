/- Several texts in one: PolSucc, PolRight, PolLit, PolApp, PolicyExprsM, ExprMath, TgtMath, MarkNums, Within, Marks, Mk, Cells, MarkRow, Comb, MkLaws, KeepLeft, KeepSmall, PolCountsM, PolicyNamesM, EvalMath, CellRows, MarkApp, PolOw, Gr, EvalMem, Make, Clone, EvalOn, VApp, AskMem, VBoxPut, AskCopied, AskPlace. -/
import Derived.Test.YtmoglaknmlhpgaaGreatFifA
import Derived.Maps.AppendAt
import Derived.Deep.RegionLaw
import Derived.Test.YtmoglaknmlhpgaaGreatRows
import Derived.WalkKit
import Derived.WalkLawsBesides
import Derived.Lib.Hide
import Derived.Lib.Strings
import Derived.Lib.Walk
import Derived.Lib.BufferWrite
import Derived.Lib.UnsafeStr
import Derived.Laws.MakeOwn
import Derived.Laws.OwnMore
/- A policy, one depth more (the project's walk.policy); Right, Rules. -/
namespace Go.Proofs.YtmoglaknmlhpgaaGreat
set_option linter.unusedVariables false
open Go.RowKit Go.Sort

theorem each_len {a b d n2 n3 l : Nat} (h : a + (16 + 16 * d) < 800000) (h1 : b ≤ a + l * 1) (hl : l = n2) (h2 : n2 ≤ 16) (h3 : n3 ≤ 16) : b + n3 * d < 800000 := by
  have : n3 * d ≤ 16 * d := Nat.mul_le_mul_right _ h3
  omega
set_option maxRecDepth 100000 in
set_option maxHeartbeats 3200000 in
theorem pol_succ {d : Nat} (ih : PolOk d) (hd : d ≤ 3) : PolOk (d + 1) := by
  intro w g B s R m p A1 A2 A3 A4 n1 k1 n2 k2 n3 k3 n4 k4 hk hlen hR hid h1 h2 h3 h4
  have e5 : (5 : Int) - ((d + 1 : Nat) : Int) = 4 - (d : Int) := by omega
  rw [e5]
  have hdd : 1 ≤ (4 - (d : Int)) ∧ (4 - (d : Int)) ≤ 4 := by omega
  have HW := Lib.hid hk
  have H1 := Lib.hid h1
  have H2 := Lib.hid h2
  have H3 := Lib.hid h3
  have H4 := Lib.hid h4
  have HRR := Lib.hid hR
  have HLEN := Lib.hid hlen
  have HN : Hid (p.rules.length = n2 ∧ p.kids.length = n3) := ⟨Rw.len h2, Rw.len h3⟩
  have HC23 : Hid ((n2 ≤ k2 ∧ k2 ≤ maxLen) ∧ n3 ≤ k3 ∧ k3 ≤ maxLen) := ⟨⟨Rw.le h2, Rw.cap h2⟩, Rw.le h3, Rw.cap h3⟩
  obtain ⟨q, hq⟩ : ∃ q, q = 4 - (d : Int) := ⟨_, rfl⟩
  rw [← hq] at hdd ⊢
  have HQ := Lib.hid hq
  clear hq e5
  have hkeep0 := ((hk.alloc (.cells #[.pointer (some ⟨g, 0, none⟩)] 137)).alloc (.cells #[.string p.id, .bool p.set, .int .i64 p.alg, .slice A1 n1 k1, .slice A2 n2 k2, .slice A3 n3 k3, .slice A4 n4 k4] 28)).alloc (.cells #[.int .i64 q] 3)
  have hl : s.ids.length < 1000000 := by omega
  have HF := Lib.hid (fresh_any p.id hid hkeep0.ob hkeep0.map hkeep0.ne hl)
  have hgl : g < w.heap.size := hk.ob.lt
  have hBl : B < w.heap.size := hk.map.lt
  have hne := hk.ne
  have HFT := Lib.hid (fun W => fits_any p.id p.set p.alg A1 A2 A3 A4 n1 n2 n3 n4 k1 k2 k3 k4 W)
  have HFE : Hid (fitsB p = fitsN p.set p.alg n2 n3) := by
    show fitsB p = fitsN p.set p.alg n2 n3
    rw [fits_eq, HN.out.1, HN.out.2]
  have PA : Hid (Ob (((w.alloc (.cells #[.pointer (some ⟨g, 0, none⟩)] 137)).alloc (.cells #[.string p.id, .bool p.set, .int .i64 p.alg, .slice A1 n1 k1, .slice A2 n2 k2, .slice A3 n3 k3, .slice A4 n4 k4] 28)).alloc (.cells #[.int .i64 q] 3)) w.heap.size 137 #[.pointer (some ⟨g, 0, none⟩)]) :=
    ((Ob.made w _ _).keep (Below.heap_alloc _ _ _ (by simp))).keep (Below.heap_alloc _ _ _ (by simp; omega))
  have XA : Hid (Ob (((w.alloc (.cells #[.pointer (some ⟨g, 0, none⟩)] 137)).alloc (.cells #[.string p.id, .bool p.set, .int .i64 p.alg, .slice A1 n1 k1, .slice A2 n2 k2, .slice A3 n3 k3, .slice A4 n4 k4] 28)).alloc (.cells #[.int .i64 q] 3)) (w.heap.size + 1) 28 #[.string p.id, .bool p.set, .int .i64 p.alg, .slice A1 n1 k1, .slice A2 n2 k2, .slice A3 n3 k3, .slice A4 n4 k4]) := by
    have := Ob.made (w.alloc (.cells #[.pointer (some ⟨g, 0, none⟩)] 137)) 28 #[.string p.id, .bool p.set, .int .i64 p.alg, .slice A1 n1 k1, .slice A2 n2 k2, .slice A3 n3 k3, .slice A4 n4 k4]
    rw [size_al] at this
    exact this.keep (Below.heap_alloc _ _ _ (by simp))
  have IA : Hid (Ob (((w.alloc (.cells #[.pointer (some ⟨g, 0, none⟩)] 137)).alloc (.cells #[.string p.id, .bool p.set, .int .i64 p.alg, .slice A1 n1 k1, .slice A2 n2 k2, .slice A3 n3 k3, .slice A4 n4 k4] 28)).alloc (.cells #[.int .i64 q] 3)) (w.heap.size + 1 + 1) 3 #[.int .i64 q]) := by
    have := Ob.made ((w.alloc (.cells #[.pointer (some ⟨g, 0, none⟩)] 137)).alloc (.cells #[.string p.id, .bool p.set, .int .i64 p.alg, .slice A1 n1 k1, .slice A2 n2 k2, .slice A3 n3 k3, .slice A4 n4 k4] 28)) 3 #[.int .i64 q]
    rw [size_al, size_al] at this
    exact this
  have GA : Hid (Only2 g B w (((w.alloc (.cells #[.pointer (some ⟨g, 0, none⟩)] 137)).alloc (.cells #[.string p.id, .bool p.set, .int .i64 p.alg, .slice A1 n1 k1, .slice A2 n2 k2, .slice A3 n3 k3, .slice A4 n4 k4] 28)).alloc (.cells #[.int .i64 q] 3))) := ((Only2.alloc _).trans (Only2.alloc _)).trans (Only2.alloc _)
  clear hk hkeep0 h1 h2 h3 h4 hR hlen hl hid
  by_cases hfr : (decide (Named (bl p.id)) && !metB p.id s.ids) = true
  · rw [hfr] at HF
    have HE : Hid (polS (d + 1) p s = (if fitsB p = false then (1, ⟨s.ids ++ [p.id], s.n⟩)
        else if orE (tgE p.tg) (obE p.ob) ≠ 0 then (orE (tgE p.tg) (obE p.ob), ⟨s.ids ++ [p.id], s.n⟩)
        else if 16 < n2 ∨ 16 < n3 then (6, ⟨s.ids ++ [p.id], s.n⟩)
        else if (firstS ruleS p.rules ⟨s.ids ++ [p.id], s.n⟩).1 ≠ 0 then firstS ruleS p.rules ⟨s.ids ++ [p.id], s.n⟩
        else firstS (polS d) p.kids (firstS ruleS p.rules ⟨s.ids ++ [p.id], s.n⟩).2)) := by
      show polS (d + 1) p s = _
      simp only [polS, idS_some hfr, HN.out.1, HN.out.2]
    have HS1 : Hid ((⟨s.ids ++ [p.id], s.n⟩ : Seen).ids.length = s.ids.length + 1) := by simp [Hid]
    clear hfr
    generalize polS (d + 1) p s = z at *
    by_cases hfit : fitsN p.set p.alg n2 n3 = false
    · rw [hfit] at HFE HFT
      rw [HFE.out, if_pos rfl] at HE
      clear hfit
      go_enter Tryz.func46, Tryz.ntmps46
      go_wp2_with (first
        | (go_at_call 70; refine HF.out.mono ?_; rintro e w1 ⟨rfl, hb1, hm1⟩; have X1 := Lib.hid (XA.out.keep (hb1.heap XA.out.lt (by omega))); have x0 := X1.out.cell 0; have x1 := X1.out.cell 1; have x2 := X1.out.cell 2; have x3 := X1.out.cell 3; have x4 := X1.out.cell 4; have x5 := X1.out.cell 5; have x6 := X1.out.cell 6)
        | (go_at_call 71; refine (HFT.out _).mono ?_; rintro e w2 ⟨rfl, hb2⟩))
      go_ret
      rw [HE.out]
      refine ⟨rfl, (GA.out.trans (Only2.of_B hb1)).trans (Only2.of_below hb2), ⟨s.ids ++ [p.id], s.n⟩, ?_, fun h => by cases h⟩
      have o0 : Ob w1 g 87 #[.map (some B), .int .i64 s.n] := (((HW.out.alloc _).alloc _).alloc _).ob.keep (hb1.heap (((HW.out.alloc _).alloc _).alloc _).ob.lt hne)
      exact ⟨o0.below hb2 o0.lt, hm1.below hb2, hne, by have := HW.out.few; show s.n ≤ (s.ids ++ [p.id]).length; simp; omega⟩
    · rw [Bool.not_eq_false] at hfit
      rw [hfit] at HFE HFT
      rw [HFE.out, if_neg (by simp)] at HE
      clear hfit
      go_enter Tryz.func46, Tryz.ntmps46
      go_wp2_with (first
        | (go_at_call 70; refine HF.out.mono ?_; rintro e w1 ⟨rfl, hb1, hm1⟩; have X1 := Lib.hid (XA.out.keep (hb1.heap XA.out.lt (by omega))); have x0 := X1.out.cell 0; have x1 := X1.out.cell 1; have x2 := X1.out.cell 2; have x3 := X1.out.cell 3; have x4 := X1.out.cell 4; have x5 := X1.out.cell 5; have x6 := X1.out.cell 6)
        | (go_at_call 71; refine (HFT.out _).mono ?_; rintro e w2 ⟨rfl, hb2⟩))
      have hB2 := (below_step hb2 (Below.refl _ _))
      have W2 : Hid (Wk w2 g B ⟨s.ids ++ [p.id], s.n⟩) := by
        have o0 : Ob w1 g 87 #[.map (some B), .int .i64 s.n] := (((HW.out.alloc _).alloc _).alloc _).ob.keep (hb1.heap (((HW.out.alloc _).alloc _).alloc _).ob.lt hne)
        exact ⟨o0.below hb2 o0.lt, hm1.below hb2, hne, by have := HW.out.few; show s.n ≤ (s.ids ++ [p.id]).length; simp; omega⟩
      have X2 := Lib.hid (X1.out.below hb2 X1.out.lt)
      have P2 : Hid (Ob w2 w.heap.size 137 #[.pointer (some ⟨g, 0, none⟩)]) := by
        have o0 := PA.out.keep (hb1.heap PA.out.lt (by omega))
        exact o0.below hb2 o0.lt
      have I2 : Hid (Ob w2 (w.heap.size + 1 + 1) 3 #[.int .i64 q]) := by
        have o0 := IA.out.keep (hb1.heap IA.out.lt (by omega))
        exact o0.below hb2 o0.lt
      have G2 : Hid (Only2 g B w w2) := (GA.out.trans (Only2.of_B hb1)).trans (Only2.of_below hb2)
      clear x0 x1 x2 x3 x4 x5 x6 hb1 hm1 hb2 hB2 X1 HF HFT PA XA IA GA
      have T1 := Lib.hid (H1.out.keep (G2.out.kept HRR.out) (fun _ h _ => h))
      have T4 := Lib.hid (H4.out.keep (G2.out.kept HRR.out) (fun _ h _ => h))
      have KK := Lib.hid (below_regrown w2)
      have Q1 : Hid (∀ d os, Calls Tryz.prog 73 #[.slice A1 n1 k1] (grow (redrawn w2 d) os) fun e w'' => e = .returned (.int .i64 (tgE p.tg)) ∧ ∃ p : Regrown, w'' = grow (redrawn w2 p.d) p.os) := fun d os => Calls.regrown_of (target_any _ (T1.out.keep (Kept.all (KK.out d os) R) (fun _ h _ => h)))
      have Q4 : Hid (∀ d os, Calls Tryz.prog 74 #[.slice A4 n4 k4] (grow (redrawn w2 d) os) fun e w'' => e = .returned (.int .i64 (obE p.ob)) ∧ ∃ p : Regrown, w'' = grow (redrawn w2 p.d) p.os) := fun d os => Calls.regrown_of (obls_any _ (T4.out.keep (Kept.all (KK.out d os) R) (fun _ h _ => h)))
      have y3 := fun d os => cell_regrown (X2.out.cell 3) d os
      have y6 := fun d os => cell_regrown (X2.out.cell 6) d os
      have HOR := Lib.hid (or2 (tgE p.tg) (obE p.ob))
      generalize tgE p.tg = a1 at *
      generalize obE p.ob = a3 at *
      refine wp_region_below_tail 6 (by kernel_rfl) (by kernel_rfl) ?_
      simp only [List.take_succ_cons, List.take_zero, List.drop_succ_cons, List.drop_zero]
      repeat (go_big_quiet_step ((first
        | (go_at_call 73; exact Q1.out _ _)
        | (go_at_call 74; exact Q4.out _ _))))
      refine wpQuiet_nil ?_
      intro _ hw'
      obtain ⟨⟨dq, osq⟩, hw''⟩ := hw'
      subst hw''
      have hbel := below_regrown w2 dq osq
      have W4 := Lib.hid (W2.out.below hbel)
      have X4 := Lib.hid (X2.out.below hbel X2.out.lt)
      have P4 := Lib.hid (P2.out.below hbel P2.out.lt)
      have I4 := Lib.hid (I2.out.below hbel I2.out.lt)
      have G4 := Lib.hid (G2.out.trans (Only2.of_below hbel))
      clear y3 y6 hbel Q1 Q4 KK W2 X2 P2 I2 G2 T1 T4
      dsimp only at W4 X4 P4 I4 G4 ⊢
      generalize grow (redrawn w2 dq) osq = w4 at *
      have HSL := Lib.hid (Sl.lit w4 34 (ev [a1, a3]) 2 rfl (by simp [maxLen]))
      have HOA := Lib.hid (or_any (l := [a1, a3]) HSL.out (by omega) (by simp))
      rw [HOR.out] at HOA
      obtain ⟨r, hr⟩ : ∃ r, r = orE a1 a3 := ⟨_, rfl⟩
      rw [← hr] at HOA HE
      have L4 : Hid (Below w4.heap.size w4 (w4.alloc (.cells (ev [a1, a3]).toArray 34))) := (Below.refl _ _).alloc (Nat.le_refl _) _
      have W5 := Lib.hid (W4.out.below L4.out)
      have X5 := Lib.hid (X4.out.below L4.out X4.out.lt)
      have P5 := Lib.hid (P4.out.below L4.out P4.out.lt)
      have I5 := Lib.hid (I4.out.below L4.out I4.out.lt)
      have G5 := Lib.hid (G4.out.trans (Only2.of_below L4.out))
      clear hr HOR W4 X4 P4 I4 G4 HSL
      by_cases hor : r = 0
      · subst hor
        rw [if_neg (by simp)] at HE
        by_cases hn : 16 < n2 ∨ 16 < n3
        · rw [if_pos hn] at HE
          by_cases hn2 : 16 < n2
          · have hz2 : (16 : Int) < (n2 : Int) := by omega
            clear hn
            go_wp2_with (first
              | (go_at_call 72; refine HOA.out.mono ?_; rintro e w5 ⟨rfl, hw5⟩; rw [← hw5] at W5 X5 P5 I5 G5; clear hw5; have x4 := X5.out.cell 4; have x5 := X5.out.cell 5))
            go_ret
            rw [HE.out]
            exact ⟨rfl, G5.out, _, W5.out, fun h => by cases h⟩
          · have hz2 : ¬ (16 : Int) < (n2 : Int) := by omega
            have hz3 : (16 : Int) < (n3 : Int) := by omega
            clear hn
            go_wp2_with (first
              | (go_at_call 72; refine HOA.out.mono ?_; rintro e w5 ⟨rfl, hw5⟩; rw [← hw5] at W5 X5 P5 I5 G5; clear hw5; have x4 := X5.out.cell 4; have x5 := X5.out.cell 5))
            go_ret
            rw [HE.out]
            exact ⟨rfl, G5.out, _, W5.out, fun h => by cases h⟩
        · rw [if_neg hn] at HE
          have hz2 : ¬ (16 : Int) < (n2 : Int) := by omega
          have hz3 : ¬ (16 : Int) < (n3 : Int) := by omega
          have HN16 : Hid (n2 ≤ 16 ∧ n3 ≤ 16) := ⟨by omega, by omega⟩
          clear hn
          have hl1 : (⟨s.ids ++ [p.id], s.n⟩ : Seen).ids.length + (16 + 16 * idsB d) < 800000 := by
            have e1 := HLEN.out
            have e3 : idsB (d + 1) = 17 + 16 * idsB d := rfl
            show (s.ids ++ [p.id]).length + (16 + 16 * idsB d) < 800000
            rw [List.length_append, List.length_singleton]
            omega
          have HL1 := Lib.hid hl1
          have R5 := Lib.hid (H2.out.keep (G5.out.kept HRR.out) (fun _ h _ => h))
          have HER := Lib.hid (each_rule W5.out (by have := HL1.out; omega) (by have := HN16.out; omega) HRR.out R5.out)
          have HRI := Lib.hid (firstS_ids (c := 1) ruleS_ids p.rules ⟨s.ids ++ [p.id], s.n⟩)
          have HGL : Hid ((w.heap.size < (w4.alloc (.cells (ev [a1, a3]).toArray 34)).heap.size) ∧ w.heap.size + 1 + 1 < (w4.alloc (.cells (ev [a1, a3]).toArray 34)).heap.size) := ⟨P5.out.lt, I5.out.lt⟩
          clear hl1
          generalize (⟨s.ids ++ [p.id], s.n⟩ : Seen) = s1 at *
          obtain ⟨r1, hr1⟩ : ∃ r1, r1 = firstS ruleS p.rules s1 := ⟨_, rfl⟩
          rw [← hr1] at HER HE HRI
          clear hr1
          by_cases hrz : r1.1 = 0
          · have HRZ := Lib.hid hrz
            rw [hrz] at HER HE
            rw [if_neg (by simp)] at HE
            clear hrz
            have HHH : Hid ((w.heap.size ≠ g ∧ w.heap.size ≠ B) ∧ w.heap.size + 1 + 1 ≠ g ∧ w.heap.size + 1 + 1 ≠ B) := ⟨⟨by omega, by omega⟩, by omega, by omega⟩
            have HD4 : Hid (d ≤ 4) := Nat.le_succ_of_le hd
            have HEL := Lib.hid (each_len HL1.out HRI.out HN.out.1 HN16.out.1 HN16.out.2)
            have I5' := I5.out
            rw [HQ.out] at I5'
            have J5 := Lib.hid I5'
            clear I5'
            go_wp2_with (first
              | (go_at_call 72; refine HOA.out.mono ?_; rintro e w5 ⟨rfl, hw5⟩; rw [← hw5] at W5 X5 P5 I5 G5 HER HGL J5; clear hw5; have x4 := X5.out.cell 4; have x5 := X5.out.cell 5; have p5 := P5.out.cell 0)
              | (go_at_call 75; refine HER.out.mono ?_; rintro e w6 ⟨rfl, hb6, hw6⟩; have B6 := Lib.hid hb6; have W6 := Lib.hid (hw6.ok HRZ.out); have X6 := Lib.hid (X5.out.keep (hb6.heap X5.out.lt (by omega) (by omega))); have P6 := Lib.hid (P5.out.keep (hb6.heap P5.out.lt (by omega) (by omega))); have I6 := Lib.hid (J5.out.keep (hb6.heap J5.out.lt (by omega) (by omega))); have y5 := X6.out.cell 5; have K6 := Lib.hid (H3.out.keep ((G5.out.trans hb6).kept HRR.out) (fun _ h _ => h)); clear hb6 hw6 x4 x5 p5)
              | (go_at_call 77; refine (each_pol ih HD4.out W6.out HEL.out HRR.out P6.out I6.out HHH.out K6.out).mono ?_; rintro e w7 ⟨rfl, hb7, hw7⟩))
            go_ret
            rw [HE.out]
            exact ⟨rfl, (G5.out.trans B6.out).trans hb7, hw7⟩
          · have hne1 : (r1.1 != 0) = true := by simpa using hrz
            rw [if_pos hrz] at HE
            have HRZ := Lib.hid hrz
            clear hrz
            go_wp2_with (first
              | (go_at_call 72; refine HOA.out.mono ?_; rintro e w5 ⟨rfl, hw5⟩; rw [← hw5] at W5 X5 P5 I5 G5 HER HGL; clear hw5; have x4 := X5.out.cell 4; have x5 := X5.out.cell 5; have p5 := P5.out.cell 0)
              | (go_at_call 75; refine HER.out.mono ?_; rintro e w6 ⟨rfl, hb6, hw6⟩; have B6 := Lib.hid hb6; have W6 := Lib.hid hw6; clear hw6))
            go_ret
            rw [HE.out]
            exact ⟨rfl, G5.out.trans B6.out, W6.out⟩
      · have hne0 : (r != 0) = true := by simpa using hor
        rw [if_pos hor] at HE
        have HOZ := Lib.hid hor
        clear hor
        go_wp2_with (first
          | (go_at_call 72; refine HOA.out.mono ?_; rintro e w5 ⟨rfl, rfl⟩))
        go_ret
        rw [HE.out]
        exact ⟨rfl, G5.out, _, W5.out, fun h => absurd h HOZ.out⟩
  · rw [Bool.not_eq_true] at hfr
    rw [hfr] at HF
    have HE : Hid (polS (d + 1) p s = (1, s)) := by
      show polS (d + 1) p s = _
      simp only [polS, idS_none hfr]
    clear hfr
    generalize polS (d + 1) p s = z at *
    go_enter Tryz.func46, Tryz.ntmps46
    go_wp2_with (first
      | (go_at_call 70; refine HF.out.mono ?_; rintro e w1 ⟨rfl, hb1, hm1⟩))
    go_ret
    rw [HE.out]
    have o0 : Ob w1 g 87 #[.map (some B), .int .i64 s.n] := (((HW.out.alloc _).alloc _).alloc _).ob.keep (hb1.heap (((HW.out.alloc _).alloc _).alloc _).ob.lt hne)
    exact ⟨rfl, (((Only2.alloc _).trans (Only2.alloc _)).trans (Only2.alloc _)).trans (Only2.of_B hb1), ⟨s.ids ++ [p.id], s.n⟩, ⟨o0, hm1, hne, by have := HW.out.few; show s.n ≤ (s.ids ++ [p.id]).length; simp; omega⟩, fun h => by cases h⟩
end Go.Proofs.YtmoglaknmlhpgaaGreat
/- Right, Rules (the project's), over any policy. -/
namespace Go.Proofs.YtmoglaknmlhpgaaGreat
set_option linter.unusedVariables false
open Go.RowKit Go.Sort

theorem pol_four : PolOk 4 := pol_succ (pol_succ (pol_succ (pol_succ pol_zero (by omega)) (by omega)) (by omega)) (by omega)

theorem walk_ret2 {fn : Func} {p u : Tmp} {tmps : Array Value} {w : World} {g : Nat} {a b v : Value} (h : fn.results = #[.cell p 87, .tmp u]) (hp : tmps.getD p undef = .pointer (some ⟨g, 0, none⟩)) (hu : tmps.getD u undef = v) (hg : Ob w g 87 #[a, b]) :
    (results fn tmps).run Tryz.prog w = .ok (.tuple #[.agg #[a, b], v]) w := by
  rw [results_cell_tmp h, hp, hu]
  have hl := run_loadVar_row (P := Tryz.prog) w g 87 _ _ (0, 0) _ hg Tryz.underlying87 rfl (by kernel_rfl)
  simp [asAddr, hl, Result.andThen]

def PolIn (w : World) (R : Nat → Prop) (p : Pol) (A1 : Option Addr) (n1 k1 : Nat) (A2 : Option Addr) (n2 k2 : Nat) (A3 : Option Addr) (n3 k3 : Nat) (A4 : Option Addr) (n4 k4 : Nat) : Prop :=
  (p.id.size ≤ maxLen ∧ InI p.alg) ∧ Tg w R A1 n1 k1 p.tg ∧ Rus w R A2 n2 k2 p.rules ∧ (∃ m, Pls w R m A3 n3 k3 p.kids) ∧ Dus w R A4 n4 k4 p.ob
section
variable {w w' : World} {R R' : Nat → Prop} {p : Pol} {A1 A2 A3 A4 : Option Addr} {n1 k1 n2 k2 n3 k3 n4 k4 : Nat}
theorem PolIn.keep (h : PolIn w R p A1 n1 k1 A2 n2 k2 A3 n3 k3 A4 n4 k4) (hk : Kept R w w') (hR : ∀ b, R b → b < w.heap.size → R' b) : PolIn w' R' p A1 n1 k1 A2 n2 k2 A3 n3 k3 A4 n4 k4 := by
  obtain ⟨h0, h1, h2, ⟨m, h3⟩, h4⟩ := h
  exact ⟨h0, h1.keep hk hR, h2.keep hk hR, ⟨m, h3.keep hk hR⟩, h4.keep hk hR⟩
theorem PolIn.low (h : PolIn w R p A1 n1 k1 A2 n2 k2 A3 n3 k3 A4 n4 k4) : PolIn w (fun b => b < w.heap.size) p A1 n1 k1 A2 n2 k2 A3 n3 k3 A4 n4 k4 := h.keep (Kept.refl _ _) fun _ _ h => h
theorem PolIn.then_ (h : PolIn w R p A1 n1 k1 A2 n2 k2 A3 n3 k3 A4 n4 k4) (hb : Below w.heap.size w w') : PolIn w' R p A1 n1 k1 A2 n2 k2 A3 n3 k3 A4 n4 k4 := h.keep (Kept.all hb R) fun _ h _ => h

set_option maxRecDepth 100000 in
set_option maxHeartbeats 1600000 in
theorem through_any (h : PolIn w R p A1 n1 k1 A2 n2 k2 A3 n3 k3 A4 n4 k4) :
    Calls Tryz.prog 31 #[.agg #[.string p.id, .bool p.set, .int .i64 p.alg, .slice A1 n1 k1, .slice A2 n2 k2, .slice A3 n3 k3, .slice A4 n4 k4]] w
      fun e w' => ∃ (B n : Nat), e = .returned (.tuple #[.agg #[.map (some B), .int .i64 n], .int .i64 (rightE p)]) ∧ (rightE p = 0 → n = rulesN p) ∧ Below w.heap.size w w' := by
  have hmm := @run_makeMap Tryz.prog
  have h' := h.low
  have HP := Lib.hid h'
  obtain ⟨⟨hid, halg⟩, _⟩ := h
  have HID := Lib.hid hid
  clear h' hid halg
  have W0 : Hid (Wk ((((w.alloc (.cells #[.string p.id, .bool p.set, .int .i64 p.alg, .slice A1 n1 k1, .slice A2 n2 k2, .slice A3 n3 k3, .slice A4 n4 k4] 28)).alloc (.cells #[.map none, .int .i64 0] 87)).alloc (.map #[] 0)).alloc (.cells #[.map (some (w.heap.size + 1 + 1)), .int .i64 0] 87)) (w.heap.size + 1 + 1 + 1) (w.heap.size + 1 + 1) ⟨[], 0⟩) := by
    refine ⟨?_, ?_, by omega, Nat.le_refl _⟩
    · have := Ob.made (((w.alloc (.cells #[.string p.id, .bool p.set, .int .i64 p.alg, .slice A1 n1 k1, .slice A2 n2 k2, .slice A3 n3 k3, .slice A4 n4 k4] 28)).alloc (.cells #[.map none, .int .i64 0] 87)).alloc (.map #[] 0)) 87 #[.map (some (w.heap.size + 1 + 1)), .int .i64 0]
      rwa [size_al, size_al, size_al] at this
    · have := (MapIs.made ((w.alloc (.cells #[.string p.id, .bool p.set, .int .i64 p.alg, .slice A1 n1 k1, .slice A2 n2 k2, .slice A3 n3 k3, .slice A4 n4 k4] 28)).alloc (.cells #[.map none, .int .i64 0] 87))).below ((Below.refl _ (((w.alloc (.cells #[.string p.id, .bool p.set, .int .i64 p.alg, .slice A1 n1 k1, .slice A2 n2 k2, .slice A3 n3 k3, .slice A4 n4 k4] 28)).alloc (.cells #[.map none, .int .i64 0] 87)).alloc (.map #[] 0))).alloc (Nat.le_refl _) (.cells #[.map (some (w.heap.size + 1 + 1)), .int .i64 0] 87))
      rwa [size_al, size_al] at this
  have R0 : Hid (Ob ((((w.alloc (.cells #[.string p.id, .bool p.set, .int .i64 p.alg, .slice A1 n1 k1, .slice A2 n2 k2, .slice A3 n3 k3, .slice A4 n4 k4] 28)).alloc (.cells #[.map none, .int .i64 0] 87)).alloc (.map #[] 0)).alloc (.cells #[.map (some (w.heap.size + 1 + 1)), .int .i64 0] 87)) (w.heap.size + 1) 87 #[.map none, .int .i64 0]) := by
    have h0 := Ob.made (w.alloc (.cells #[.string p.id, .bool p.set, .int .i64 p.alg, .slice A1 n1 k1, .slice A2 n2 k2, .slice A3 n3 k3, .slice A4 n4 k4] 28)) 87 #[.map none, .int .i64 0]
    rw [size_al] at h0
    have h1 := h0.keep (Below.heap_alloc ((w.alloc (.cells #[.string p.id, .bool p.set, .int .i64 p.alg, .slice A1 n1 k1, .slice A2 n2 k2, .slice A3 n3 k3, .slice A4 n4 k4] 28)).alloc (.cells #[.map none, .int .i64 0] 87)) (.map #[] 0) _ (by simp))
    exact h1.keep (Below.heap_alloc _ _ _ (by first | (simp; done) | (simp; omega)))
  have D0 : Hid (Below w.heap.size w ((((w.alloc (.cells #[.string p.id, .bool p.set, .int .i64 p.alg, .slice A1 n1 k1, .slice A2 n2 k2, .slice A3 n3 k3, .slice A4 n4 k4] 28)).alloc (.cells #[.map none, .int .i64 0] 87)).alloc (.map #[] 0)).alloc (.cells #[.map (some (w.heap.size + 1 + 1)), .int .i64 0] 87))) := ((((Below.refl _ w).alloc (Nat.le_refl _) _).alloc (by simp) _).alloc (by first | (simp; done) | (simp; omega)) _).alloc (by first | (simp; done) | (simp; omega)) _
  have HIN := Lib.hid (HP.out.keep (Kept.below D0.out (R := fun b => b < w.heap.size) (fun _ h _ => h)) (fun _ h _ => h))
  have HC : Hid (Calls Tryz.prog 46 #[.pointer (some ⟨w.heap.size + 1 + 1 + 1, 0, none⟩), .agg #[.string p.id, .bool p.set, .int .i64 p.alg, .slice A1 n1 k1, .slice A2 n2 k2, .slice A3 n3 k3, .slice A4 n4 k4], .int .i64 1] ((((w.alloc (.cells #[.string p.id, .bool p.set, .int .i64 p.alg, .slice A1 n1 k1, .slice A2 n2 k2, .slice A3 n3 k3, .slice A4 n4 k4] 28)).alloc (.cells #[.map none, .int .i64 0] 87)).alloc (.map #[] 0)).alloc (.cells #[.map (some (w.heap.size + 1 + 1)), .int .i64 0] 87))
      fun e w' => e = .returned (.int .i64 (polS 4 p ⟨[], 0⟩).1) ∧ Only2 (w.heap.size + 1 + 1 + 1) (w.heap.size + 1 + 1) ((((w.alloc (.cells #[.string p.id, .bool p.set, .int .i64 p.alg, .slice A1 n1 k1, .slice A2 n2 k2, .slice A3 n3 k3, .slice A4 n4 k4] 28)).alloc (.cells #[.map none, .int .i64 0] 87)).alloc (.map #[] 0)).alloc (.cells #[.map (some (w.heap.size + 1 + 1)), .int .i64 0] 87)) w' ∧ WkE w' (w.heap.size + 1 + 1 + 1) (w.heap.size + 1 + 1) (polS 4 p ⟨[], 0⟩)) := by
    obtain ⟨h0, h1, h2, ⟨m, h3⟩, h4⟩ := HIN.out
    exact pol_four W0.out (by simp [idsB]) (fun b hb => ⟨by omega, by omega⟩) h0.1 h1 h2 h3 h4
  have HE : Hid (rightE p = (polS 4 p ⟨[], 0⟩).1 ∧ rulesN p = (polS 4 p ⟨[], 0⟩).2.n) := ⟨rfl, rfl⟩
  generalize polS 4 p ⟨[], 0⟩ = z at *
  go_enter Tryz.func31, Tryz.ntmps31
  go_wp2_with (first
    | (go_at_call 46; refine HC.out.mono ?_; rintro e w1 ⟨rfl, hb1, s', hs', hz'⟩; have S1 := Lib.hid hs'; have O1 := hs'.ob; have Z1 := Lib.hid hz'; have D1 := Lib.hid (D0.out.trans (hb1.below D0.out.size (by omega) (by omega))); have c0 := O1.cell 0; have c1 := O1.cell 1; have R1 := Lib.hid (R0.out.keep (hb1.heap R0.out.lt (by omega) (by omega))); have d0 := R1.out.cell 0; have d1 := R1.out.cell 1; have f0 := R1.out.frozen 0; have f1 := R1.out.frozen 1; clear hb1 hs' hz' O1))
  try simp only [Exit.inBlock, Exit.then]
  refine bodyPost_ret (walk_ret2 (a := .map (some (w.heap.size + 1 + 1))) (b := .int .i64 (s'.n : Int)) rfl rfl rfl (by simpa using (R1.out.put 0 (.map (some (w.heap.size + 1 + 1)))).put 1 (.int .i64 (s'.n : Int)))) rfl ?_
  refine ⟨w.heap.size + 1 + 1, s'.n, by rw [HE.out.1]; rfl, fun h => ?_, (D1.out.setCell (p := ⟨w.heap.size + 1, 0, none⟩) (by simp) _).setCell (p := ⟨w.heap.size + 1, 1, none⟩) (by simp) _⟩
  rw [Z1.out (by rw [← HE.out.1]; exact h), HE.out.2]

theorem right_pol (h : PolIn w R p A1 n1 k1 A2 n2 k2 A3 n3 k3 A4 n4 k4) :
    Calls Tryz.prog 16 #[.agg #[.string p.id, .bool p.set, .int .i64 p.alg, .slice A1 n1 k1, .slice A2 n2 k2, .slice A3 n3 k3, .slice A4 n4 k4]] w
      fun e w' => e = .returned (.int .i64 (rightE p)) ∧ Below w.heap.size w w' := by
  have HC := Lib.hid (through_any (h.then_ ((Below.refl _ w).alloc (Nat.le_refl _) (.cells #[.string p.id, .bool p.set, .int .i64 p.alg, .slice A1 n1 k1, .slice A2 n2 k2, .slice A3 n3 k3, .slice A4 n4 k4] 28))))
  clear h
  generalize rightE p = r at *
  go_enter Tryz.func16, Tryz.ntmps16
  go_wp2_with (first
    | (go_at_call 31; refine HC.out.mono ?_; rintro e w1 ⟨B, n, rfl, hn, hb1⟩; have D1 := Lib.hid (Below.lit hb1); clear hb1 hn))
  go_ret
  exact ⟨rfl, D1.out.alloc D1.out.size _⟩
end
end Go.Proofs.YtmoglaknmlhpgaaGreat
/- Rows that are laid as literals. -/
namespace Go.Proofs.YtmoglaknmlhpgaaGreat
set_option linter.unusedVariables false
open Go.RowKit

theorem flat_at {α : Type} {f : α → List Value} {k : Nat} : ∀ {l : List α} {j : Nat} {x : α} {i : Nat} {v : Value}, (∀ y ∈ l, (f y).length = k) → l[j]? = some x → (f x)[i]? = some v → (l.flatMap f)[j * k + i]? = some v
  | [], _, _, _, _, _, hx, _ => by simp at hx
  | y :: l, 0, x, i, v, hk, hx, hv => by
    simp at hx
    subst hx
    rw [List.flatMap_cons, Nat.zero_mul, Nat.zero_add, List.getElem?_append_left (by rw [List.getElem?_eq_some_iff] at hv; exact hv.1)]
    exact hv
  | y :: l, j + 1, x, i, v, hk, hx, hv => by
    have hy := hk y (by simp)
    rw [List.flatMap_cons, List.getElem?_append_right (by rw [hy, Nat.add_mul]; omega), hy, show (j + 1) * k + i - k = j * k + i by rw [Nat.add_mul]; omega]
    exact flat_at (fun y h => hk y (by simp [h])) (by simpa using hx) hv
theorem Rw.lit {α : Type} {k : Nat} {P : List Value → α → Prop} {R : Nat → Prop} (w : World) (t : TypeId) (f : α → List Value) (l : List α) {n : Nat} (hn : l.length = n) (hc : n ≤ 1000000) (hR : R w.heap.size) (hk : ∀ x ∈ l, (f x).length = k) (hP : ∀ x ∈ l, P (f x) x) :
    Rw k P (w.alloc (.cells (l.flatMap f).toArray t)) R (some ⟨w.heap.size, 0, none⟩) n n l := by
  refine ⟨hn, Nat.le_refl _, ⟨by simp [maxLen]; omega, by omega⟩, .inr ⟨w.heap.size, 0, rfl, hR, by simp, fun j x hx => ⟨f x, hk x (List.mem_of_getElem? hx), fun i v hv => ?_, hP x (List.mem_of_getElem? hx)⟩⟩⟩
  have := (Ob.made w t (l.flatMap f).toArray).cell (j * k + i)
  rw [Nat.zero_add, this, List.getElem?_toArray]
  exact flat_at hk hx hv
theorem Nds.lit (w : World) {R : Nat → Prop} (l : List Nod) {n : Nat} (hn : l.length = n) (hc : n ≤ 1000000) (hR : R w.heap.size) (hok : ∀ x ∈ l, x.ok) : Nds (w.alloc (.cells (l.flatMap Nod.cells).toArray 58)) R (some ⟨w.heap.size, 0, none⟩) n n l :=
  Rw.lit w _ Nod.cells l hn hc hR (fun _ _ => rfl) fun x hx => ⟨rfl, hok x hx⟩
theorem Dus.lit (w : World) {R : Nat → Prop} (l : List Dut) {n : Nat} (hn : l.length = n) (hc : n ≤ 1000000) (hR : R w.heap.size) (hok : ∀ x ∈ l, x.ok) : Dus (w.alloc (.cells (l.flatMap Dut.cells).toArray 42)) R (some ⟨w.heap.size, 0, none⟩) n n l :=
  Rw.lit w _ Dut.cells l hn hc hR (fun _ _ => rfl) fun x hx => ⟨rfl, hok x hx⟩
end Go.Proofs.YtmoglaknmlhpgaaGreat
/- Rows of structs of the call's own: append. -/
namespace Go.Proofs.YtmoglaknmlhpgaaGreat
set_option linter.unusedVariables false
open Go.RowKit

def Fl (w : World) (k : Nat) (A : Option Addr) (n : Nat) (ys : List Value) : Prop :=
  ys.length = n * k ∧ (∀ v ∈ ys, v.oneCell' = true) ∧ (n = 0 ∨ ∃ b o, A = some ⟨b, o, none⟩ ∧ ∀ j u, ys[j]? = some u → w.cell? ⟨b, o + j, none⟩ = some u)

theorem append_rows {P : Program} {T E : TypeId} {i : TypeInfo} {z : Value} {k by_ : Nat} (ht : P.underlying T = some (.slice E)) (hi : P.info? E = some i) (hz : i.zero = some z) (hs : i.size = k) (hb : i.bytes = by_) (hzs : z.cells.size = k) (hk : 0 < k) (hby : by_ ≤ 1000)
    {w : World} {base n c m c2 ty : Nat} {A A2 : Option Addr} {xs ys : List Value} (h : w.ownsRow base E k (.slice A n c) n xs) (hy : Fl w k A2 m ys) (hn : n + m ≤ 1000000) (hbase : base ≤ w.heap.size) :
    ∃ A' c' w', (Builtin.append_ #[T, T] ty #[.slice A n c, .slice A2 m c2]).run P w = .ok (.slice A' (n + m) c') w' ∧
      w'.ownsRow base E k (.slice A' (n + m) c') (n + m) (xs ++ ys) ∧ Below base w w' ∧ w.grownBy w' (Value.slice A n c).ownBlock ∧
      ((Value.slice A' (n + m) c').ownBlock = (Value.slice A n c).ownBlock ∨ (Value.slice A' (n + m) c').ownBlock = some w.heap.size) := by
  obtain ⟨hlen, h1, hy⟩ := hy
  have fin : ∀ (ad : Addr), A2 = some ad → (∀ j u, ys[j]? = some u → w.cell? (ad.add j) = some u) → ∃ A' c' w', (Builtin.append_ #[T, T] ty #[.slice A n c, .slice A2 m c2]).run P w = .ok (.slice A' (n + m) c') w' ∧
      w'.ownsRow base E k (.slice A' (n + m) c') (n + m) (xs ++ ys) ∧ Below base w w' ∧ w.grownBy w' (Value.slice A n c).ownBlock ∧
      ((Value.slice A' (n + m) c').ownBlock = (Value.slice A n c).ownBlock ∨ (Value.slice A' (n + m) c').ownBlock = some w.heap.size) := by
    rintro ad rfl hc
    have hb2 : (n + m) * by_ ≤ 1000000 * 1000 := Nat.mul_le_mul hn hby
    obtain ⟨v', w', hrun, h2, h3, h4, h5⟩ := run_append_own_at (P := P) w base T ty E i z k by_ ht hi hz hs hb hzs hk (.slice A n c) n xs h
      ad m c2 ys hlen hc h1 (by unfold maxLen; omega) (by omega) hbase
    have hform : ∃ A' c', v' = .slice A' (n + m) c' := by
      rcases h2.2 with ⟨hv, hz⟩ | ⟨g, cap, cur, hv, _⟩
      · exact ⟨_, _, by rw [hv, hz]⟩
      · exact ⟨_, _, hv⟩
    obtain ⟨A', c', rfl⟩ := hform
    exact ⟨A', c', w', hrun, h2, (Below.refl base w).grown h3 hbase (fun k hk => (h.lt k hk).1), h3, h5⟩
  rcases hy with h0 | ⟨b, o, e, hc⟩
  · subst h0
    obtain rfl : ys = [] := List.eq_nil_of_length_eq_zero (by omega)
    rcases A2 with _ | ad
    · exact ⟨A, c, w, append_nil_src ht hi h, by simpa using h, Below.refl _ _, ⟨rfl, rfl, rfl, Nat.le_refl _, fun _ _ _ => rfl⟩, .inl rfl⟩
    · exact fin ad rfl (fun j u hu => by simp at hu)
  · refine fin _ e fun j u hu => ?_
    have := hc j u hu
    by_cases hj : j = 0
    · subst hj; simpa [Addr.add] using this
    · simpa [Addr.add, hj] using this

theorem flatten_at {k : Nat} : ∀ {l : List (List Value)} {j : Nat} {x : List Value} {i : Nat} {v : Value}, (∀ y ∈ l, y.length = k) → l[j]? = some x → x[i]? = some v → l.flatten[j * k + i]? = some v
  | [], _, _, _, _, _, hx, _ => by simp at hx
  | y :: l, 0, x, i, v, hk, hx, hv => by
    simp at hx
    subst hx
    rw [List.flatten_cons, Nat.zero_mul, Nat.zero_add, List.getElem?_append_left (by rw [List.getElem?_eq_some_iff] at hv; exact hv.1)]
    exact hv
  | y :: l, j + 1, x, i, v, hk, hx, hv => by
    have hy := hk y (by simp)
    rw [List.flatten_cons, List.getElem?_append_right (by rw [hy, Nat.add_mul]; omega), hy, show (j + 1) * k + i - k = j * k + i by rw [Nat.add_mul]; omega]
    exact flatten_at (fun y h => hk y (by simp [h])) (by simpa using hx) hv
theorem flatten_len {k : Nat} : ∀ {l : List (List Value)}, (∀ y ∈ l, y.length = k) → l.flatten.length = l.length * k
  | [], _ => by simp
  | y :: l, h => by
    rw [List.flatten_cons, List.length_append, h y (by simp), flatten_len fun y hy => h y (by simp [hy]), List.length_cons, Nat.add_mul]
    omega
theorem flatten_of {k : Nat} (hk : 0 < k) {l : List (List Value)} {j : Nat} {u : Value} (hl : ∀ y ∈ l, y.length = k) (h : l.flatten[j]? = some u) : ∃ x, l[j / k]? = some x ∧ x[j % k]? = some u := by
  have hj : j < l.length * k := by rw [← flatten_len hl]; exact (List.getElem?_eq_some_iff.1 h).1
  have hd : j / k < l.length := Nat.div_lt_of_lt_mul (by rw [Nat.mul_comm]; exact hj)
  have hx : l[j / k]? = some l[j / k] := List.getElem?_eq_getElem hd
  refine ⟨l[j / k], hx, ?_⟩
  have hm : j % k < (l[j / k]).length := by rw [hl _ (List.getElem_mem hd)]; exact Nat.mod_lt _ hk
  have hv : (l[j / k])[j % k]? = some (l[j / k])[j % k] := List.getElem?_eq_getElem hm
  have := flatten_at hl hx hv
  rw [show j / k * k + j % k = j from by rw [Nat.mul_comm]; exact Nat.div_add_mod j k] at this
  rw [hv, ← this, h]

theorem Rw.raw {α : Type} {k : Nat} {P : List Value → α → Prop} {w : World} {R : Nat → Prop} {A : Option Addr} {n c : Nat} {l : List α} (h : Rw k P w R A n c l) :
    n = 0 ∨ ∃ raw : List (List Value), raw.length = n ∧ (∀ y ∈ raw, y.length = k) ∧ (∀ (j : Nat) (vs : List Value) (x : α), raw[j]? = some vs → l[j]? = some x → P vs x) ∧ ∃ b o, A = some ⟨b, o, none⟩ ∧ ∀ (j : Nat) (vs : List Value), raw[j]? = some vs → ∀ (i : Nat) v, vs[i]? = some v → w.cell? ⟨b, o + j * k + i, none⟩ = some v := by
  obtain ⟨h1, h2, h3, h4⟩ := h
  rcases h4 with h4 | ⟨b, o, e, hb, hlt, hc⟩
  · exact .inl h4
  right
  have hall : ∀ j, j < n → ∃ vs : List Value, vs.length = k ∧ (∀ (i : Nat) v, vs[i]? = some v → w.cell? ⟨b, o + j * k + i, none⟩ = some v) ∧ ∀ x, l[j]? = some x → P vs x := fun j hj => by
    have hl : j < l.length := by omega
    obtain ⟨vs, a1, a2, a3⟩ := hc j l[j] (List.getElem?_eq_getElem hl)
    refine ⟨vs, a1, a2, fun x hx => ?_⟩
    rw [List.getElem?_eq_getElem hl] at hx
    exact Option.some.inj hx ▸ a3
  obtain ⟨V, hV⟩ : ∃ V : Nat → List Value, ∀ j, j < n → (V j).length = k ∧ (∀ (i : Nat) v, (V j)[i]? = some v → w.cell? ⟨b, o + j * k + i, none⟩ = some v) ∧ ∀ x, l[j]? = some x → P (V j) x :=
    ⟨fun j => if hj : j < n then Classical.choose (hall j hj) else [], fun j hj => by simp only [hj, dif_pos]; exact Classical.choose_spec (hall j hj)⟩
  have hget : ∀ (j : Nat) (vs : List Value), ((List.range n).map V)[j]? = some vs → j < n ∧ vs = V j := fun j vs hj => by
    rw [List.getElem?_map, Option.map_eq_some_iff] at hj
    obtain ⟨i, hi, rfl⟩ := hj
    have hjn : j < n := by have := (List.getElem?_eq_some_iff.1 hi).1; simpa using this
    rw [List.getElem?_range hjn] at hi
    exact ⟨hjn, by rw [Option.some.inj hi]⟩
  refine ⟨(List.range n).map V, by simp, fun y hy => ?_, fun j vs x hj hx => ?_, b, o, e, fun j vs hj i v hv => ?_⟩
  · obtain ⟨i, hi, rfl⟩ := List.mem_map.1 hy
    exact (hV i (by simpa using hi)).1
  · obtain ⟨hjn, rfl⟩ := hget j vs hj
    exact (hV j hjn).2.2 x hx
  · obtain ⟨hjn, rfl⟩ := hget j vs hj
    exact (hV j hjn).2.1 i v hv

theorem Rw.of_own {α : Type} {k : Nat} {P : List Value → α → Prop} {w : World} {base n c : Nat} {E : TypeId} {A : Option Addr} {l : List α} {raw : List (List Value)} {R : Nat → Prop} (h : w.ownsRow base E k (.slice A n c) n raw.flatten)
    (hbig : n ≤ 140737488351232) (hl : raw.length = n) (hln : l.length = n) (hk : ∀ y ∈ raw, y.length = k) (hP : ∀ (j : Nat) (vs : List Value) (x : α), raw[j]? = some vs → l[j]? = some x → P vs x) (hR : ∀ ad, A = some ad → base ≤ ad.block → R ad.block) : Rw k P w R A n c l := by
  rcases h.2 with ⟨hv, hn⟩ | ⟨g, cap, cur, hv, hb, hg, hnc, hcm, hcs, ht⟩
  · injection hv with h1 h2 h3
    subst h1 h2 h3
    exact ⟨hln, Nat.le_refl _, ⟨by simp [maxLen], by omega⟩, .inl rfl⟩
  · injection hv with h1 h2 h3
    subst h1 h3
    refine ⟨hln, hnc, ⟨hcm, hbig⟩, .inr ⟨g, 0, rfl, hR _ rfl hb, ?_, fun j x hx => ?_⟩⟩
    · rcases Nat.lt_or_ge g w.heap.size with hlt | hge
      · exact hlt
      · rw [Array.getElem?_eq_none hge] at hg; cases hg
    · have hjr : j < raw.length := by have := (List.getElem?_eq_some_iff.1 hx).1; omega
      refine ⟨raw[j], hk _ (List.getElem_mem hjr), fun i v hv => ?_, hP j _ x (List.getElem?_eq_getElem hjr) hx⟩
      have := h.cells (g := g) rfl (j * k + i) v (flatten_at hk (List.getElem?_eq_getElem hjr) hv)
      have add : (⟨g, 0, none⟩ : Addr).add (j * k + i) = ⟨g, 0 + j * k + i, none⟩ := by by_cases hj : j * k + i = 0 <;> simp [Addr.add, hj]; omega
      rwa [add] at this
theorem Rw.fl {α : Type} {k : Nat} {P : List Value → α → Prop} {w : World} {R : Nat → Prop} {A : Option Addr} {n c : Nat} {l : List α} (h : Rw k P w R A n c l) (hk : 0 < k) (h1 : ∀ vs x, P vs x → ∀ v ∈ vs, v.oneCell' = true) :
    ∃ raw : List (List Value), raw.length = n ∧ (∀ y ∈ raw, y.length = k) ∧ (∀ (j : Nat) (vs : List Value) (x : α), raw[j]? = some vs → l[j]? = some x → P vs x) ∧ Fl w k A n raw.flatten := by
  rcases h.raw with h0 | ⟨raw, r1, r2, r3, b, o, e, r4⟩
  · subst h0
    exact ⟨[], rfl, by simp, by simp, by simp, by simp, .inl rfl⟩
  · refine ⟨raw, r1, r2, r3, by rw [flatten_len r2, r1], fun v hv => ?_, .inr ⟨b, o, e, fun j u hu => ?_⟩⟩
    · obtain ⟨y, hy, hv⟩ := List.mem_flatten.1 hv
      obtain ⟨j, hj, rfl⟩ := List.getElem_of_mem hy
      have hjl : j < l.length := by have := h.1; omega
      exact h1 _ _ (r3 j _ _ (List.getElem?_eq_getElem hj) (List.getElem?_eq_getElem hjl)) v hv
    · obtain ⟨x, hx, hv⟩ := flatten_of hk r2 hu
      have := r4 _ _ hx _ _ hv
      rwa [Nat.add_assoc, show j / k * k + j % k = j from by rw [Nat.mul_comm]; exact Nat.div_add_mod j k] at this

theorem Rw.flat_fl {α : Type} {k : Nat} {f : α → List Value} {okp : α → Prop} {w : World} {R : Nat → Prop} {A : Option Addr} {n c : Nat} {l : List α} (h : Rw k (fun vs x => vs = f x ∧ okp x) w R A n c l) (hk : 0 < k) (h1 : ∀ x, ∀ v ∈ f x, v.oneCell' = true) : Fl w k A n (l.flatMap f) := by
  obtain ⟨raw, r1, r2, r3, r4⟩ := Rw.fl h hk (fun vs x hp v hv => h1 x v (hp.1 ▸ hv))
  have hl := h.1
  have e : raw = l.map f := by
    apply List.ext_getElem?
    intro j
    by_cases hj : j < n
    · have a1 : raw[j]? = some raw[j] := List.getElem?_eq_getElem (by omega)
      have a2 : l[j]? = some l[j] := List.getElem?_eq_getElem (by omega)
      have := (r3 j _ _ a1 a2).1
      rw [a1, List.getElem?_map, a2, this]; rfl
    · rw [List.getElem?_eq_none (by omega), List.getElem?_eq_none (by rw [List.length_map]; omega)]
  rw [e, ← List.flatMap_def] at r4
  exact r4
theorem Rw.flat_own {α : Type} {k : Nat} {f : α → List Value} {okp : α → Prop} {w : World} {base n c : Nat} {E : TypeId} {A : Option Addr} {l : List α} {R : Nat → Prop} (h : w.ownsRow base E k (.slice A n c) n (l.flatMap f)) (hbig : n ≤ 140737488351232) (hln : l.length = n) (hf : ∀ x, (f x).length = k) (hok : ∀ x ∈ l, okp x)
    (hR : ∀ ad, A = some ad → base ≤ ad.block → R ad.block) : Rw k (fun vs x => vs = f x ∧ okp x) w R A n c l := by
  rw [List.flatMap_def] at h
  refine Rw.of_own h hbig (by rw [List.length_map]; exact hln) hln (fun y hy => ?_) (fun j vs x h1 h2 => ?_) hR
  · obtain ⟨x, _, rfl⟩ := List.mem_map.1 hy
    exact hf x
  · rw [List.getElem?_map, h2] at h1
    exact ⟨(Option.some.inj h1).symm, hok x (List.mem_of_getElem? h2)⟩
theorem Dut.one (x : Dut) : ∀ v ∈ x.cells, v.oneCell' = true := by intro v hv; simp [Dut.cells] at hv; rcases hv with rfl | rfl | rfl <;> rfl
theorem Nod.one (x : Nod) : ∀ v ∈ x.cells, v.oneCell' = true := by intro v hv; simp [Nod.cells] at hv; rcases hv with rfl | rfl | rfl | rfl | rfl | rfl | rfl <;> rfl
theorem Mat.one (x : Mat) : ∀ v ∈ x.cells, v.oneCell' = true := by intro v hv; simp [Mat.cells] at hv; rcases hv with rfl | rfl | rfl | rfl | rfl | rfl | rfl <;> rfl
theorem Dus.fl {w : World} {R : Nat → Prop} {A : Option Addr} {n c : Nat} {l : List Dut} (h : Dus w R A n c l) : Fl w 3 A n (l.flatMap Dut.cells) := Rw.flat_fl h (by omega) Dut.one
theorem Nds.fl {w : World} {R : Nat → Prop} {A : Option Addr} {n c : Nat} {l : List Nod} (h : Nds w R A n c l) : Fl w 7 A n (l.flatMap Nod.cells) := Rw.flat_fl h (by omega) Nod.one
theorem Ms.fl {w : World} {R : Nat → Prop} {A : Option Addr} {n c : Nat} {l : List Mat} (h : Ms w R A n c l) : Fl w 7 A n (l.flatMap Mat.cells) := Rw.flat_fl h (by omega) Mat.one
theorem Rw.all {α : Type} {k : Nat} {f : α → List Value} {okp : α → Prop} {w : World} {R : Nat → Prop} {A : Option Addr} {n c : Nat} {l : List α} (h : Rw k (fun vs x => vs = f x ∧ okp x) w R A n c l) : ∀ x ∈ l, okp x := by
  intro x hx
  obtain ⟨j, hj, rfl⟩ := List.getElem_of_mem hx
  obtain ⟨b, o, y, vs, _, _, _, hy, _, _, hp⟩ := h.at_ (j := j) (by have := h.1; omega)
  rw [List.getElem?_eq_getElem hj] at hy
  exact Option.some.inj hy ▸ hp.2
theorem own_none (w : World) (E : TypeId) (k : Nat) : (w.alloc (.cells #[] E)).ownsRow w.heap.size E k (.slice (some ⟨w.heap.size, 0, none⟩) 0 0) 0 [] :=
  World.ownsRow_lit w #[] 0 (Nat.le_refl _) (by simp [maxLen]) (by simp)
theorem flatMap_app {α β : Type} (f : α → List β) (l m : List α) : (l ++ m).flatMap f = l.flatMap f ++ m.flatMap f := List.flatMap_append

theorem info_of {P : Program} {E : TypeId} {z : Value} {k b : Nat} (h : (P.info? E).map (fun i => (i.zero, i.size, i.bytes)) = some (some z, k, b)) : ∃ i, P.info? E = some i ∧ i.zero = some z ∧ i.size = k ∧ i.bytes = b := by
  cases hi : P.info? E with
  | none => rw [hi] at h; cases h
  | some i =>
    rw [hi] at h
    simp only [Option.map_some, Option.some.injEq, Prod.mk.injEq] at h
    exact ⟨i, rfl, h.1, h.2.1, h.2.2⟩
theorem dutinfo : (Tryz.prog.info? 42).map (fun i => (i.zero, i.size, i.bytes)) = some (some (.agg #[.int .i64 0, .int .i64 0, .string ⟨#[]⟩]), 3, 32) := by kernel_rfl
theorem nodinfo : (Tryz.prog.info? 58).map (fun i => (i.zero, i.size, i.bytes)) = some (some (.agg #[.int .i64 0, .int .i64 0, .int .i64 0, .string ⟨#[]⟩, .int .i64 0, .string ⟨#[]⟩, .bool false]), 7, 72) := by kernel_rfl
theorem append_duts {w : World} {base n c m c2 ty : Nat} {R : Nat → Prop} {A A2 : Option Addr} {xs ys : List Dut} (h : w.ownsRow base 42 3 (.slice A n c) n (xs.flatMap Dut.cells)) (hy : Dus w R A2 m c2 ys) (hn : n + m ≤ 1000000) (hbase : base ≤ w.heap.size) :
    ∃ A' c' w', (Builtin.append_ #[26, 26] ty #[.slice A n c, .slice A2 m c2]).run Tryz.prog w = .ok (.slice A' (n + m) c') w' ∧
      w'.ownsRow base 42 3 (.slice A' (n + m) c') (n + m) ((xs ++ ys).flatMap Dut.cells) ∧ Below base w w' ∧ w.grownBy w' (Value.slice A n c).ownBlock ∧
      ((Value.slice A' (n + m) c').ownBlock = (Value.slice A n c).ownBlock ∨ (Value.slice A' (n + m) c').ownBlock = some w.heap.size) := by
  obtain ⟨i, hi, hz, hs, hb⟩ := info_of dutinfo
  rw [flatMap_app]
  exact append_rows Tryz.underlying26 hi hz hs hb rfl (by omega) (by omega) h hy.fl hn hbase
theorem append_nods {w : World} {base n c m c2 ty : Nat} {R : Nat → Prop} {A A2 : Option Addr} {xs ys : List Nod} (h : w.ownsRow base 58 7 (.slice A n c) n (xs.flatMap Nod.cells)) (hy : Nds w R A2 m c2 ys) (hn : n + m ≤ 1000000) (hbase : base ≤ w.heap.size) :
    ∃ A' c' w', (Builtin.append_ #[54, 54] ty #[.slice A n c, .slice A2 m c2]).run Tryz.prog w = .ok (.slice A' (n + m) c') w' ∧
      w'.ownsRow base 58 7 (.slice A' (n + m) c') (n + m) ((xs ++ ys).flatMap Nod.cells) ∧ Below base w w' ∧ w.grownBy w' (Value.slice A n c).ownBlock ∧
      ((Value.slice A' (n + m) c').ownBlock = (Value.slice A n c).ownBlock ∨ (Value.slice A' (n + m) c').ownBlock = some w.heap.size) := by
  obtain ⟨i, hi, hz, hs, hb⟩ := info_of nodinfo
  rw [flatMap_app]
  exact append_rows Tryz.underlying54 hi hz hs hb rfl (by omega) (by omega) h hy.fl hn hbase

theorem both_dus {w : World} {R : Nat → Prop} {A0 A1 : Option Addr} {p0 c0 p1 c1 q : Nat} {L0 L1 : List Dut} (h0 : Dus w R A0 p0 c0 L0) (h1 : Dus w R A1 p1 c1 L1) (h : p0 + p1 ≤ 1000000) (hq : q = p0 + p1) :
    ∃ A5 c5 w5 A6 c6 w6, (Builtin.append_ #[26, 26] 26 #[.slice (some ⟨w.heap.size, 0, none⟩) 0 0, .slice A0 p0 c0]).run Tryz.prog (w.alloc (.cells #[] 42)) = .ok (.slice A5 p0 c5) w5 ∧
      (Builtin.append_ #[26, 26] 26 #[.slice A5 p0 c5, .slice A1 p1 c1]).run Tryz.prog w5 = .ok (.slice A6 q c6) w6 ∧ Below w.heap.size w w6 ∧ Dus w6 (fun _ => True) A6 q c6 (L0 ++ L1) ∧ w6.ownsRow w.heap.size 42 3 (.slice A6 q c6) q ((L0 ++ L1).flatMap Dut.cells) := by
  subst hq
  have e1 : Below w.heap.size w (w.alloc (.cells #[] 42)) := (Below.refl _ _).alloc (Nat.le_refl _) _
  obtain ⟨A5, c5, w5, r5, o5, b5, _, _⟩ := append_duts (ty := 26) (xs := []) (own_none w 42 3) (h0.keep (Kept.all e1 R) (fun _ h _ => h)) (by omega) e1.size
  rw [Nat.zero_add] at r5 o5
  have e5 := e1.trans b5
  obtain ⟨A6, c6, w6, r6, o6, b6, _, _⟩ := append_duts (ty := 26) o5 (h1.keep (Kept.all e5 R) (fun _ h _ => h)) h e5.size
  refine ⟨A5, c5, w5, A6, c6, w6, r5, r6, e5.trans b6, ?_, o6⟩
  exact Rw.flat_own o6 (by omega) (by rw [List.length_append, Rw.len h0, Rw.len h1]) (fun _ => rfl) (fun x hx => (List.mem_append.1 hx).elim (Rw.all h0 x) (Rw.all h1 x)) (fun _ _ _ => trivial)
theorem both_dus_one {w : World} (x : Dut) (hx : x.ok) :
    ∃ A5 c5 w5, (Builtin.append_ #[26, 26] 26 #[.slice (some ⟨w.heap.size, 0, none⟩) 0 0, .slice (some ⟨w.heap.size + 1, 0, none⟩) 1 1]).run Tryz.prog ((w.alloc (.cells #[] 42)).alloc (.cells x.cells.toArray 42)) = .ok (.slice A5 1 c5) w5 ∧
      Below w.heap.size w w5 ∧ Dus w5 (fun _ => True) A5 1 c5 [x] := by
  have h1 := Rw.lit (k := 3) (R := fun _ => True) (P := fun vs (y : Dut) => vs = y.cells ∧ y.ok) (w.alloc (.cells #[] 42)) 42 Dut.cells [x] (n := 1) rfl (by omega) trivial (fun _ _ => rfl) (fun y hy => ⟨rfl, by simp at hy; subst hy; exact hx⟩)
  rw [size_al] at h1
  have e1 : Below w.heap.size w ((w.alloc (.cells #[] 42)).alloc (.cells (List.flatMap Dut.cells [x]).toArray 42)) := ((Below.refl _ _).alloc (Nat.le_refl _) _).alloc (by simp only [size_al]; omega) _
  obtain ⟨A5, c5, w5, r5, o5, b5, _, _⟩ := append_duts (ty := 26) (xs := []) ((own_none w 42 3).alloc (.cells (List.flatMap Dut.cells [x]).toArray 42)) h1 (by omega) e1.size
  rw [Nat.zero_add] at r5 o5
  refine ⟨A5, c5, w5, by simpa using r5, e1.trans b5, ?_⟩
  exact Rw.flat_own o5 (by omega) rfl (fun _ => rfl) (fun y hy => by simp at hy; subst hy; exact hx) (fun _ _ _ => trivial)

theorem both_nds {w : World} {R : Nat → Prop} {A0 A1 : Option Addr} {p0 c0 p1 c1 q : Nat} {L0 L1 : List Nod} (h0 : Nds w R A0 p0 c0 L0) (h1 : Nds w R A1 p1 c1 L1) (h : p0 + p1 ≤ 1000000) (hq : q = p0 + p1) :
    ∃ A5 c5 w5 A6 c6 w6, (Builtin.append_ #[54, 54] 54 #[.slice (some ⟨w.heap.size, 0, none⟩) 0 0, .slice A0 p0 c0]).run Tryz.prog (w.alloc (.cells #[] 58)) = .ok (.slice A5 p0 c5) w5 ∧
      (Builtin.append_ #[54, 54] 54 #[.slice A5 p0 c5, .slice A1 p1 c1]).run Tryz.prog w5 = .ok (.slice A6 q c6) w6 ∧ Below w.heap.size w w6 ∧ Nds w6 (fun _ => True) A6 q c6 (L0 ++ L1) ∧ w6.ownsRow w.heap.size 58 7 (.slice A6 q c6) q ((L0 ++ L1).flatMap Nod.cells) := by
  subst hq
  have e1 : Below w.heap.size w (w.alloc (.cells #[] 58)) := (Below.refl _ _).alloc (Nat.le_refl _) _
  obtain ⟨A5, c5, w5, r5, o5, b5, _, _⟩ := append_nods (ty := 54) (xs := []) (own_none w 58 7) (h0.keep (Kept.all e1 R) (fun _ h _ => h)) (by omega) e1.size
  rw [Nat.zero_add] at r5 o5
  have e5 := e1.trans b5
  obtain ⟨A6, c6, w6, r6, o6, b6, _, _⟩ := append_nods (ty := 54) o5 (h1.keep (Kept.all e5 R) (fun _ h _ => h)) h e5.size
  refine ⟨A5, c5, w5, A6, c6, w6, r5, r6, e5.trans b6, ?_, o6⟩
  exact Rw.flat_own o6 (by omega) (by rw [List.length_append, Rw.len h0, Rw.len h1]) (fun _ => rfl) (fun x hx => (List.mem_append.1 hx).elim (Rw.all h0 x) (Rw.all h1 x)) (fun _ _ _ => trivial)
theorem both_nds_one {w : World} (x : Nod) (hx : x.ok) :
    ∃ A5 c5 w5, (Builtin.append_ #[54, 54] 54 #[.slice (some ⟨w.heap.size, 0, none⟩) 0 0, .slice (some ⟨w.heap.size + 1, 0, none⟩) 1 1]).run Tryz.prog ((w.alloc (.cells #[] 58)).alloc (.cells x.cells.toArray 58)) = .ok (.slice A5 1 c5) w5 ∧
      Below w.heap.size w w5 ∧ Nds w5 (fun _ => True) A5 1 c5 [x] := by
  have h1 := Rw.lit (k := 7) (R := fun _ => True) (P := fun vs (y : Nod) => vs = y.cells ∧ y.ok) (w.alloc (.cells #[] 58)) 58 Nod.cells [x] (n := 1) rfl (by omega) trivial (fun _ _ => rfl) (fun y hy => ⟨rfl, by simp at hy; subst hy; exact hx⟩)
  rw [size_al] at h1
  have e1 : Below w.heap.size w ((w.alloc (.cells #[] 58)).alloc (.cells (List.flatMap Nod.cells [x]).toArray 58)) := ((Below.refl _ _).alloc (Nat.le_refl _) _).alloc (by simp only [size_al]; omega) _
  obtain ⟨A5, c5, w5, r5, o5, b5, _, _⟩ := append_nods (ty := 54) (xs := []) ((own_none w 58 7).alloc (.cells (List.flatMap Nod.cells [x]).toArray 58)) h1 (by omega) e1.size
  rw [Nat.zero_add] at r5 o5
  refine ⟨A5, c5, w5, by simpa using r5, e1.trans b5, ?_⟩
  exact Rw.flat_own o5 (by omega) rfl (fun _ => rfl) (fun y hy => by simp at hy; subst hy; exact hx) (fun _ _ _ => trivial)
end Go.Proofs.YtmoglaknmlhpgaaGreat
/- Expressions behind each other: what they leave; rows of nodes put together. -/
namespace Go.Proofs.YtmoglaknmlhpgaaGreat
set_option linter.unusedVariables false
open Go.RowKit

theorem exprE_ok {l : List Nod} (h : exprE l = 0) (hn : l ≠ []) : l.length ≤ 32 ∧ runX l [] = some [false] := by
  unfold exprE at h
  split at h
  · cases h
  · refine ⟨by omega, ?_⟩
    split at h
    · cases h
    · rename_i st hst
      split at h
      · rename_i hc
        rcases hc with hc | hc
        · exact absurd hc hn
        · rw [hst, hc]
      · cases h
end Go.Proofs.YtmoglaknmlhpgaaGreat
/- Conditions, plainly: what an expression comes to over a request (chapter 12). -/
namespace Go.Proofs.YtmoglaknmlhpgaaGreat
set_option linter.unusedVariables false

structure Prt where
  bag : List Vl
  v : Vl
  e : Int
def takesN (op : Int) : Nat := if op = 1 ∨ op = 2 then 0 else if op = 3 ∨ op = 4 ∨ op = 11 then 1 else 2
def decB (op : Int) : List Prt → Bool
  | [a, b] => (decide (op = 12) || decide (op = 13)) && (decide (a.v = truthV (decide (op = 13))) || decide (b.v = truthV (decide (op = 13))))
  | _ => false
def errL : List Prt → Int
  | [] => 0
  | p :: r => if p.e ≠ 0 then p.e else errL r
def singleV : List Vl → Vl × Int
  | [v] => (v, 0)
  | _ => (noneV, 4)
def reckP (op : Int) (of : List Prt) : Vl × Int :=
  if op = 3 then (match of with | p :: _ => singleV p.bag | [] => (noneV, 0))
  else if op = 4 then (match of with | p :: _ => (numV p.bag.length, 0) | [] => (noneV, 0))
  else if op = 5 then (match of with | p :: q :: _ => (truthV (hasB p.bag q.v), 0) | _ => (noneV, 0))
  else callV op (of.map Prt.v)
def madeP (ask : List Giv) (n : Nod) (of : List Prt) : Prt :=
  if n.op = 1 then ⟨[], n.v, 0⟩
  else if n.op = 2 then ⟨getR ask n.a, noneV, getE ask n.a⟩
  else if decB n.op of = true then ⟨[], truthV (decide (n.op = 13)), 0⟩
  else if errL of ≠ 0 then ⟨[], noneV, errL of⟩
  else ⟨[], (reckP n.op of).1, (reckP n.op of).2⟩
def stepP (ask : List Giv) (st : List Prt) (n : Nod) : List Prt := st.take (st.length - takesN n.op) ++ [madeP ask n (st.drop (st.length - takesN n.op))]
def runP (ask : List Giv) (l : List Nod) (st : List Prt) : List Prt := l.foldl (stepP ask) st
def noneP : Prt := ⟨[], noneV, 0⟩
def valP (ask : List Giv) (l : List Nod) : Vl × Int := if l = [] ∨ exprE l ≠ 0 then (noneV, 1) else (((runP ask l []).headD noneP).v, ((runP ask l []).headD noneP).e)
def condP (ask : List Giv) (l : List Nod) : Int := if l = [] then 2 else if (valP ask l).1 = truthV true then 2 else if (valP ask l).1 = truthV false then 0 else 1

theorem runP_app (ask : List Giv) (l m : List Nod) (st : List Prt) : runP ask (l ++ m) st = runP ask m (runP ask l st) := List.foldl_append
theorem runP_cons (ask : List Giv) (n : Nod) (l : List Nod) (st : List Prt) : runP ask (n :: l) st = runP ask l (stepP ask st n) := rfl
theorem popX_len {op : Int} {s s' : List Bool} (h : popX op s = some s') : takesN op ≤ s.length ∧ s'.length = s.length - takesN op + 1 := by
  rcases ops_cases op with rfl | rfl | rfl | rfl | rfl | rfl | rfl | rfl | rfl | rfl | rfl | rfl | rfl | hn
  case inr.inr.inr.inr.inr.inr.inr.inr.inr.inr.inr.inr.inr =>
    obtain ⟨h1, h2, h3, h4, h5, h6, h7, h8, h9, h10, h11, h12, h13⟩ := hn
    simp [popX, h1, h2, h3, h4, h5, h6, h7, h8, h9, h10, h11, h12, h13] at h
  all_goals
    rcases s with _ | ⟨_ | _, _ | ⟨_ | _, s⟩⟩ <;> simp [popX] at h <;> (subst h; simp [takesN])
theorem stepX_len {n : Nod} {s s' : List Bool} (h : stepX n s = some s') : takesN n.op ≤ s.length ∧ s'.length = s.length - takesN n.op + 1 ∧ holdsB n = true := by
  unfold stepX at h
  by_cases hh : holdsB n = true
  · rw [if_pos hh] at h
    exact ⟨(popX_len h).1, (popX_len h).2, hh⟩
  · rw [if_neg hh] at h; cases h
theorem stepP_frame {ask : List Giv} {n : Nod} {t st : List Prt} (h : takesN n.op ≤ st.length) : stepP ask (t ++ st) n = t ++ stepP ask st n := by
  unfold stepP
  have e : (t ++ st).length - takesN n.op = t.length + (st.length - takesN n.op) := by rw [List.length_append]; omega
  rw [e, List.take_length_add_append, List.drop_length_add_append, List.append_assoc]
theorem stepP_len {ask : List Giv} {n : Nod} {st : List Prt} (h : takesN n.op ≤ st.length) : (stepP ask st n).length = st.length - takesN n.op + 1 := by
  unfold stepP
  rw [List.length_append, List.length_take]
  simp
theorem runP_frame {ask : List Giv} : ∀ {l : List Nod} {s s' : List Bool} {t st : List Prt}, runX l s = some s' → st.length = s.length → runP ask l (t ++ st) = t ++ runP ask l st ∧ (runP ask l st).length = s'.length
  | [], s, s', t, st, h, hl => by
    simp [runX] at h
    subst h
    exact ⟨rfl, hl⟩
  | n :: l, s, s', t, st, h, hl => by
    simp only [runX] at h
    cases hs : stepX n s with
    | none => rw [hs] at h; cases h
    | some u =>
      rw [hs] at h
      obtain ⟨a, b, _⟩ := stepX_len hs
      rw [runP_cons, runP_cons, stepP_frame (by omega)]
      exact runP_frame h (by rw [stepP_len (by omega)]; omega)
theorem run_right {ask : List Giv} {l : List Nod} (h : exprE l = 0) (hn : l ≠ []) : ∃ p, (∀ t, runP ask l t = t ++ [p]) ∧ valP ask l = (p.v, p.e) := by
  obtain ⟨_, hr⟩ := exprE_ok h hn
  have hf := fun t => runP_frame (ask := ask) (t := t) (st := []) hr rfl
  have hl := (hf []).2
  obtain ⟨p, hp⟩ := List.length_eq_one_iff.1 hl
  refine ⟨p, fun t => ?_, ?_⟩
  · have := (hf t).1
    rw [List.append_nil, hp] at this
    exact this
  · unfold valP
    rw [if_neg (by rintro (h0 | h0); exact hn h0; exact h0 h), hp]
    rfl
end Go.Proofs.YtmoglaknmlhpgaaGreat
/- Targets, plainly (chapter 13): three truths, and is the least, or is the greatest. -/
namespace Go.Proofs.YtmoglaknmlhpgaaGreat
set_option linter.unusedVariables false

def trI (b : Bool) : Int := if b = true then 2 else 0
def sameI (a b : Vl) : Int := if a.k = b.k then trI (veq a b) else 1
def lessI (a b : Vl) : Int := if (lessOf a b).2 = 0 then trI (lessOf a b).1 else 1
def heldI (m : Mat) (v : Vl) : Int := if m.op = 1 then sameI v m.v else if m.op = 2 then lessI v m.v else lessI m.v v
def most {α : Type} (f : α → Int) : List α → Int
  | [] => 0
  | x :: r => max (f x) (most f r)
def least {α : Type} (f : α → Int) : List α → Int
  | [] => 2
  | x :: r => min (f x) (least f r)
def matchI (ask : List Giv) (m : Mat) : Int := if getE ask m.a = 0 then most (heldI m) (getR ask m.a) else 1
def allI (ask : List Giv) (l : List Mat) : Int := least (matchI ask) l
def oneI (ask : List Giv) (l : List (List Mat)) : Int := most (allI ask) l
def metI (ask : List Giv) (t : Tgt) : Int := least (oneI ask) t
def Tri (x : Int) : Prop := 0 ≤ x ∧ x ≤ 2

theorem tri0 : Tri 0 := ⟨by decide, by decide⟩
theorem tri1 : Tri 1 := ⟨by decide, by decide⟩
theorem tri2 : Tri 2 := ⟨by decide, by decide⟩
theorem tri_trI (b : Bool) : Tri (trI b) := by cases b <;> exact ⟨by decide, by decide⟩
theorem tri_same (a b : Vl) : Tri (sameI a b) := by
  unfold sameI; split
  · exact tri_trI _
  · exact tri1
theorem tri_less (a b : Vl) : Tri (lessI a b) := by
  unfold lessI; split
  · exact tri_trI _
  · exact tri1
theorem tri_held (m : Mat) (v : Vl) : Tri (heldI m v) := by
  unfold heldI; split
  · exact tri_same _ _
  · split <;> exact tri_less _ _
section
variable {α : Type} {f g : α → Int}
theorem tri_most (h : ∀ x, Tri (f x)) : ∀ l : List α, Tri (most f l)
  | [] => tri0
  | x :: r => by have h1 := h x; have h2 := tri_most h r; unfold Tri at *; show 0 ≤ max (f x) (most f r) ∧ max (f x) (most f r) ≤ 2; omega
theorem tri_least (h : ∀ x, Tri (f x)) : ∀ l : List α, Tri (least f l)
  | [] => tri2
  | x :: r => by have h1 := h x; have h2 := tri_least h r; unfold Tri at *; show 0 ≤ min (f x) (least f r) ∧ min (f x) (least f r) ≤ 2; omega
theorem most_le {l : List α} {c : Int} : most f l ≤ c ↔ 0 ≤ c ∧ ∀ x ∈ l, f x ≤ c := by
  induction l with
  | nil => simp [most]
  | cons x r ih => simp only [most, List.mem_cons, forall_eq_or_imp, Int.max_le, ih]; exact ⟨fun h => ⟨h.2.1, h.1, h.2.2⟩, fun h => ⟨h.2.1, h.1, h.2.2⟩⟩
theorem least_le {l : List α} {c : Int} : c ≤ least f l ↔ c ≤ 2 ∧ ∀ x ∈ l, c ≤ f x := by
  induction l with
  | nil => simp [least]
  | cons x r ih => simp only [least, List.mem_cons, forall_eq_or_imp, Int.le_min, ih]; exact ⟨fun h => ⟨h.2.1, h.1, h.2.2⟩, fun h => ⟨h.2.1, h.1, h.2.2⟩⟩
theorem most_zero (l : List α) : 0 ≤ most f l := (most_le.1 (Int.le_refl _)).1
theorem least_two (l : List α) : least f l ≤ 2 := (least_le.1 (Int.le_refl _)).1
theorem most_app (l m : List α) : most f (l ++ m) = max (most f l) (most f m) := by
  induction l with
  | nil => have := most_zero (f := f) m; simp only [List.nil_append, most]; omega
  | cons x r ih => simp only [List.cons_append, most, ih]; omega
theorem least_app (l m : List α) : least f (l ++ m) = min (least f l) (least f m) := by
  induction l with
  | nil => have := least_two (f := f) m; simp only [List.nil_append, least]; omega
  | cons x r ih => simp only [List.cons_append, least, ih]; omega
theorem most_one (x : α) : most f [x] = max (f x) 0 := rfl
theorem least_one (x : α) : least f [x] = min (f x) 2 := rfl
theorem most_step {l : List α} {k : Nat} {x : α} (h : l[k]? = some x) (hf : 0 ≤ f x) : most f (l.take (k + 1)) = max (most f (l.take k)) (f x) := by
  obtain ⟨hk, rfl⟩ := List.getElem?_eq_some_iff.1 h
  rw [List.take_succ_eq_append_getElem hk, most_app, most_one]
  omega
theorem least_step {l : List α} {k : Nat} {x : α} (h : l[k]? = some x) (hf : f x ≤ 2) : least f (l.take (k + 1)) = min (least f (l.take k)) (f x) := by
  obtain ⟨hk, rfl⟩ := List.getElem?_eq_some_iff.1 h
  rw [List.take_succ_eq_append_getElem hk, least_app, least_one]
  omega
end
theorem tri_match (ask : List Giv) (m : Mat) : Tri (matchI ask m) := by
  unfold matchI; split
  · exact tri_most (tri_held m) _
  · exact tri1
theorem tri_all (ask : List Giv) (l : List Mat) : Tri (allI ask l) := tri_least (tri_match ask) l
theorem tri_one (ask : List Giv) (l : List (List Mat)) : Tri (oneI ask l) := tri_most (tri_all ask) l
theorem tri_met (ask : List Giv) (l : Tgt) : Tri (metI ask l) := tri_least (tri_one ask) l
end Go.Proofs.YtmoglaknmlhpgaaGreat
/- The quarters 0 .. 4 of one as floats: what comparing, and the greater of two, make of them (plain, but for the run of 'max'). -/
namespace Go.Proofs.YtmoglaknmlhpgaaGreat
open Go.RowKit

def fl (i : Fin 5) : Nat := #[0, 4598175219545276416, 4602678819172646912, 4604930618986332160, 4607182418800017408].getD i.val 0

theorem ord_fl : ∀ i j : Fin 5, FloatKind.f64.format.order (fl i) (fl j) = some (compare i j) := by decide +kernel
theorem fl0 : fl 0 = 0 := rfl
theorem fl2 : fl 2 = 4602678819172646912 := rfl
theorem fl4 : fl 4 = 4607182418800017408 := rfl

theorem ord_eq (i j : Fin 5) : (FloatKind.f64.format.order (fl i) (fl j) == some .eq) = (i == j) := by rw [ord_fl]; revert i j; decide +kernel
theorem ord_gt (i j : Fin 5) : (FloatKind.f64.format.order (fl i) (fl j) == some .gt) = decide (j < i) := by rw [ord_fl]; revert i j; decide +kernel
theorem ord_lt (i j : Fin 5) : (FloatKind.f64.format.order (fl i) (fl j) == some .lt) = decide (i < j) := by rw [ord_fl]; revert i j; decide +kernel

theorem eq0 (i : Fin 5) : (FloatKind.f64.format.order (fl i) 0 == some .eq) = (i == 0) := ord_eq i 0
theorem feq2 (i : Fin 5) : (FloatKind.f64.format.order (fl i) 4602678819172646912 == some .eq) = (i == 2) := ord_eq i 2
theorem eq4 (i : Fin 5) : (FloatKind.f64.format.order (fl i) 4607182418800017408 == some .eq) = (i == 4) := ord_eq i 4
theorem fgt0 (i : Fin 5) : (FloatKind.f64.format.order (fl i) 0 == some .gt) = decide (0 < i) := ord_gt i 0
theorem gt2 (i : Fin 5) : (FloatKind.f64.format.order (fl i) 4602678819172646912 == some .gt) = decide (2 < i) := ord_gt i 2

def hiF (i j : Fin 5) : Fin 5 := if i < j then j else i

section
variable {P : Program} (w : World)
theorem run_max_fl (ts : Array TypeId) (t : TypeId) (i j : Fin 5) : (Builtin.max_ ts t #[.float .f64 (fl i), .float .f64 (fl j)]).run P w = .ok (.float .f64 (fl (hiF i j))) w := by
  have h := ord_fl i j
  have hc : compare i j = .lt ∧ hiF i j = j ∨ compare i j = .gt ∧ hiF i j = i ∨ compare i j = .eq ∧ hiF i j = i ∧ i = j := by revert i j; decide +kernel
  rcases hc with ⟨a, b⟩ | ⟨a, b⟩ | ⟨a, b, rfl⟩
  all_goals rw [a] at h; rw [b]; simp [Builtin.max_, Builtin.max2, h]
end

attribute [irreducible] fl
end Go.Proofs.YtmoglaknmlhpgaaGreat
/- bailiffbook.Within: a number brought between two bounds. -/
namespace Go.Proofs.YtmoglaknmlhpgaaGreat
open Go.RowKit

def withinOf (n lo hi : Int) : Int := lo + n % (hi - lo + 1)
theorem within_le {n lo hi : Int} (h : lo ≤ hi) : lo ≤ withinOf n lo hi ∧ withinOf n lo hi ≤ hi := by
  unfold withinOf
  have h1 := Int.emod_nonneg n (b := hi - lo + 1) (by omega)
  have h2 := Int.emod_lt_of_pos n (b := hi - lo + 1) (by omega)
  omega

theorem tmod_emod {n m : Int} (hm : 0 < m) : -m ≤ n.tmod m ∧ n.tmod m < m ∧ ((n.tmod m < 0 ∧ n % m = n.tmod m + m) ∨ (0 ≤ n.tmod m ∧ n % m = n.tmod m)) := by
  have h1 := Int.emod_nonneg n (b := m) (by omega)
  have h2 := Int.emod_lt_of_pos n hm
  have e := Int.tmod_eq_emod (a := n) (b := m)
  split at e
  · omega
  · rw [Int.natAbs_of_nonneg (by omega)] at e
    omega

set_option maxHeartbeats 800000 in
theorem within_any {n lo hi : Int} {w : World} (h0 : 0 ≤ lo) (h1 : lo ≤ hi) (h2 : hi ≤ 4611686018427387904) :
    Calls Tryz.prog 19 #[.int .i64 n, .int .i64 lo, .int .i64 hi] w fun e w' => e = .returned (.int .i64 (withinOf n lo hi)) ∧ w = w' := by
  have hm := tmod_emod (n := n) (m := hi - lo + 1) (by omega)
  obtain ⟨hl, hb, hm⟩ := hm
  have HM := Lib.hid hm
  clear hm
  by_cases hneg : n.tmod (hi - lo + 1) < 0
  all_goals
    go_enter Tryz.func19, Tryz.ntmps19
    go_wp2_with fail
    go_ret
    refine ⟨ret_int ?_, rfl⟩
    have := HM.out
    unfold withinOf
    omega
end Go.Proofs.YtmoglaknmlhpgaaGreat
/- Marks: each function of package mark, and of the reference, over marks whose parts are quarters (plain words first). -/
namespace Go.Proofs.YtmoglaknmlhpgaaGreat
open Go.RowKit
attribute [local go_sem] eq0 feq2 eq4 fgt0 gt2 ord_eq ord_gt ord_lt run_max_fl

theorem ret_c {a b c d : Nat} (h : a = c) (k : b = d) : Ending.returned (.complex .f64 a b) = .returned (.complex .f64 c d) := by rw [h, k]
theorem ret_s {a b : List UInt8} (h : a = b) : Ending.returned (.string ⟨a.toArray⟩) = .returned (.string ⟨b.toArray⟩) := by rw [h]

def rightM (p d : Fin 5) : Bool := (p == 0 || p == 2 || p == 4) && (d == 0 || d == 2 || d == 4) && !(p == 4 && !(d == 0)) && !(d == 4 && !(p == 0))
def nameM (p d : Fin 5) : List UInt8 :=
  if p = 0 ∧ d = 0 then [78, 111, 116, 65, 112, 112, 108, 105, 99, 97, 98, 108, 101]
  else if p = 4 ∧ d = 0 then [80, 101, 114, 109, 105, 116]
  else if p = 0 ∧ d = 4 then [68, 101, 110, 121]
  else if p = 2 ∧ d = 0 then [73, 110, 100, 101, 116, 101, 114, 109, 105, 110, 97, 116, 101, 123, 80, 125]
  else if p = 0 ∧ d = 2 then [73, 110, 100, 101, 116, 101, 114, 109, 105, 110, 97, 116, 101, 123, 68, 125]
  else if p = 2 ∧ d = 2 then [73, 110, 100, 101, 116, 101, 114, 109, 105, 110, 97, 116, 101, 123, 68, 80, 125]
  else []
def indetP (p d : Fin 5) : Fin 5 := if p = 4 ∧ d = 0 then 2 else p
def indetD (p d : Fin 5) : Fin 5 := if p = 0 ∧ d = 4 then 2 else d
def overP (p d : Fin 5) : Fin 5 := if d = 4 then 0 else if d = 2 then (if 2 ≤ p then 2 else 0) else if p = 4 then 4 else if p = 2 then 2 else 0
def overD (_p d : Fin 5) : Fin 5 := if d = 4 then 4 else if d = 2 then 2 else 0
theorem five : ∀ i : Fin 5, i = 0 ∨ i = 1 ∨ i = 2 ∨ i = 3 ∨ i = 4 := by decide

set_option maxHeartbeats 800000 in
theorem join_any (p d q e : Fin 5) (w : World) : Calls Tryz.prog 117 #[.complex .f64 (fl p) (fl d), .complex .f64 (fl q) (fl e)] w fun z w' => z = .returned (.complex .f64 (fl (hiF p q)) (fl (hiF d e))) ∧ w = w' := by
  go_enter Tryz.func117, Tryz.ntmps117
  go_wp2
  go_ret
  exact ⟨rfl, rfl⟩
set_option maxHeartbeats 800000 in
theorem turn_any (p d : Fin 5) (w : World) : Calls Tryz.prog 121 #[.complex .f64 (fl p) (fl d)] w fun z w' => z = .returned (.complex .f64 (fl d) (fl p)) ∧ w = w' := by
  go_enter Tryz.func121, Tryz.ntmps121
  go_wp2
  go_ret
  exact ⟨rfl, rfl⟩
set_option maxHeartbeats 3200000 in
theorem over_any (p d : Fin 5) (w : World) : Calls Tryz.prog 120 #[.complex .f64 (fl p) (fl d)] w fun z w' => z = .returned (.complex .f64 (fl (overP p d)) (fl (overD p d))) ∧ w = w' := by
  obtain rfl | rfl | rfl | rfl | rfl := five p
  all_goals
    obtain rfl | rfl | rfl | rfl | rfl := five d
    all_goals
      go_enter Tryz.func120, Tryz.ntmps120
      go_wp2
      go_ret
      exact ⟨ret_c (by decide +kernel) (by decide +kernel), rfl⟩
set_option maxHeartbeats 3200000 in
theorem mname_any (p d : Fin 5) (w : World) : Calls Tryz.prog 32 #[.complex .f64 (fl p) (fl d)] w fun z w' => z = .returned (.string ⟨(nameM p d).toArray⟩) ∧ w = w' := by
  obtain rfl | rfl | rfl | rfl | rfl := five p
  all_goals
    obtain rfl | rfl | rfl | rfl | rfl := five d
    all_goals
      go_enter Tryz.func32, Tryz.ntmps32
      go_wp2
      go_ret
      exact ⟨ret_s (by decide +kernel), rfl⟩
theorem name_empty : ∀ p d : Fin 5, (nameM p d).isEmpty = !rightM p d := by decide +kernel
set_option maxHeartbeats 800000 in
theorem mright_any (p d : Fin 5) (w : World) : Calls Tryz.prog 17 #[.complex .f64 (fl p) (fl d)] w fun z w' => z = .returned (.bool (rightM p d)) ∧ w = w' := by
  have h := name_empty p d
  have H := Lib.hid h
  clear h
  go_enter Tryz.func17, Tryz.ntmps17
  go_wp2_with fail
  refine (mname_any p d _).mono ?_
  rintro e w' ⟨rfl, rfl⟩
  go_wp2
  go_ret
  exact ⟨ret_bool (by simp [H.out]), rfl⟩
end Go.Proofs.YtmoglaknmlhpgaaGreat
/- Marks as pairs of quarters; the algorithms over lists of them (plain). -/
namespace Go.Proofs.YtmoglaknmlhpgaaGreat

abbrev Mk := Fin 5 × Fin 5
def joinM (j m : Mk) : Mk := (hiF j.1 m.1, hiF j.2 m.2)
def turnM (j : Mk) : Mk := (j.2, j.1)
def overM (j : Mk) : Mk := (overP j.1 j.2, overD j.1 j.2)
def rightK (m : Mk) : Bool := rightM m.1 m.2
def firstM (j m : Mk) : Mk := if j = (0, 0) then m else j
def onlyM (j m : Mk) : Mk := if j = (0, 0) then m else if m = (0, 0) then j else (2, 2)
def sureB (j : Mk) : Bool := j = (0, 0) || j = (4, 0) || j = (0, 4)
def sureM (j : Mk) : Mk := if sureB j then j else (2, 2)
def stepM (a : Fin 6) (j m : Mk) : Mk := if a = 2 then firstM j m else if a = 3 then onlyM j m else joinM j m
def decideM (a : Fin 6) (j : Mk) : Mk :=
  if a = 0 then overM j else if a = 1 then turnM (overM (turnM j)) else if a = 2 then j else if a = 3 then sureM j
  else if a = 4 then (if j.1 = 4 then (4, 0) else (0, 4)) else (if j.2 = 4 then (0, 4) else (4, 0))
def foldM (a : Fin 6) (l : List Mk) : Mk := l.foldl (stepM a) (0, 0)
def makeM (a : Fin 6) (l : List Mk) : Mk := decideM a (foldM a l)
def Six (l : List Mk) : Prop := ∀ m ∈ l, rightK m = true

theorem hi_0l : ∀ i : Fin 5, hiF 0 i = i := by decide +kernel
theorem hi_0r : ∀ i : Fin 5, hiF i 0 = i := by decide +kernel
theorem hi_comm : ∀ i j : Fin 5, hiF i j = hiF j i := by decide +kernel
theorem hi_assoc : ∀ i j k : Fin 5, hiF (hiF i j) k = hiF i (hiF j k) := by decide +kernel
theorem join_0l (m : Mk) : joinM (0, 0) m = m := by obtain ⟨p, d⟩ := m; simp only [joinM, hi_0l]
theorem join_0r (m : Mk) : joinM m (0, 0) = m := by obtain ⟨p, d⟩ := m; simp only [joinM, hi_0r]
theorem join_comm (x y : Mk) : joinM x y = joinM y x := by simp only [joinM, hi_comm x.1 y.1, hi_comm x.2 y.2]
theorem join_assoc (x y z : Mk) : joinM (joinM x y) z = joinM x (joinM y z) := by simp only [joinM, hi_assoc]

theorem step_join {a : Fin 6} (h2 : a ≠ 2) (h3 : a ≠ 3) (x y : Mk) : stepM a x y = joinM x y := by unfold stepM; rw [if_neg h2, if_neg h3]
theorem step_first (x y : Mk) : stepM 2 x y = firstM x y := rfl
theorem step_0l (a : Fin 6) (m : Mk) : stepM a (0, 0) m = m := by
  unfold stepM
  split
  · simp [firstM]
  · split
    · simp [onlyM]
    · exact join_0l m
theorem step_0r (a : Fin 6) (m : Mk) : stepM a m (0, 0) = m := by
  unfold stepM
  split
  · unfold firstM; split
    · next h => exact h.symm
    · rfl
  · split
    · unfold onlyM; split
      · next h => exact h.symm
      · simp
    · exact join_0r m
theorem step_assoc (a : Fin 6) (x y z : Mk) : stepM a (stepM a x y) z = stepM a x (stepM a y z) := by
  unfold stepM
  split
  · unfold firstM
    by_cases h : x = (0, 0) <;> simp [h]
  · split
    · unfold onlyM
      by_cases hx : x = (0, 0)
      · simp [hx]
      · by_cases hy : y = (0, 0)
        · simp [hx, hy]
        · by_cases hz : z = (0, 0)
          · simp [hx, hy, hz]
          · simp [hx, hy, hz]
    · exact join_assoc x y z
theorem fold_from (a : Fin 6) (l : List Mk) : ∀ x, l.foldl (stepM a) x = stepM a x (foldM a l) := by
  induction l with
  | nil => intro x; exact (step_0r a x).symm
  | cons m l ih =>
    intro x
    have e : foldM a (m :: l) = stepM a m (foldM a l) := by
      show List.foldl (stepM a) (stepM a (0, 0) m) l = _
      rw [ih, step_0l]
    rw [List.foldl_cons, ih, e, step_assoc]
theorem fold_cons (a : Fin 6) (m : Mk) (l : List Mk) : foldM a (m :: l) = stepM a m (foldM a l) := by
  rw [foldM, List.foldl_cons, fold_from, step_0l]
theorem fold_app (a : Fin 6) (l k : List Mk) : foldM a (l ++ k) = stepM a (foldM a l) (foldM a k) := by
  rw [foldM, List.foldl_append, fold_from]; rfl
theorem fold_take (a : Fin 6) {l : List Mk} {k : Nat} {m : Mk} (h : l[k]? = some m) : foldM a (l.take (k + 1)) = stepM a (foldM a (l.take k)) m := by
  obtain ⟨hk, e⟩ := List.getElem?_eq_some_iff.1 h
  rw [List.take_succ_eq_append_getElem hk, e, fold_app]
  show stepM a _ (stepM a (0, 0) m) = _
  rw [step_0l]
def evenB (p : Fin 5) : Bool := p = 0 || p = 2 || p = 4
def evenK (m : Mk) : Bool := evenB m.1 && evenB m.2
theorem right_even_ : ∀ p d : Fin 5, rightK (p, d) = true → evenK (p, d) = true := by decide +kernel
theorem right_even {m : Mk} (h : rightK m = true) : evenK m = true := right_even_ m.1 m.2 h
theorem hi_even : ∀ i j : Fin 5, evenB i = true → evenB j = true → evenB (hiF i j) = true := by decide +kernel
theorem step_even (a : Fin 6) {x y : Mk} (hx : evenK x = true) (hy : evenK y = true) : evenK (stepM a x y) = true := by
  unfold stepM
  split
  · unfold firstM; split <;> assumption
  · split
    · unfold onlyM
      split
      · exact hy
      · split
        · exact hx
        · decide +kernel
    · simp only [evenK, Bool.and_eq_true] at hx hy
      simp only [evenK, joinM, Bool.and_eq_true]
      exact ⟨hi_even _ _ hx.1 hy.1, hi_even _ _ hx.2 hy.2⟩
theorem fold_even (a : Fin 6) {l : List Mk} (h : Six l) : evenK (foldM a l) = true := by
  induction l with
  | nil => exact (by decide +kernel : evenK (0, 0) = true)
  | cons m l ih =>
    rw [fold_cons]
    exact step_even a (right_even (h m List.mem_cons_self)) (ih fun x hx => h x (List.mem_cons_of_mem _ hx))
theorem first_right {l : List Mk} (h : Six l) : rightK (foldM 2 l) = true := by
  induction l with
  | nil => exact (by decide +kernel : rightK (0, 0) = true)
  | cons m l ih =>
    rw [fold_cons, step_first]
    unfold firstM
    split
    · exact ih fun x hx => h x (List.mem_cons_of_mem _ hx)
    · exact h m List.mem_cons_self
theorem decide_right_ : ∀ a : Fin 6, a ≠ 2 → ∀ p d : Fin 5, evenK (p, d) = true → rightK (decideM a (p, d)) = true := by decide +kernel
theorem make_right (a : Fin 6) {l : List Mk} (h : Six l) : rightK (makeM a l) = true := by
  by_cases ha : a = 2
  · subst ha; exact first_right h
  · exact decide_right_ a ha (foldM a l).1 (foldM a l).2 (fold_even a h)
end Go.Proofs.YtmoglaknmlhpgaaGreat
/- append of one cell to a row of the call's own. -/
namespace Go.Proofs.YtmoglaknmlhpgaaGreat
set_option linter.unusedVariables false
open Go.RowKit

end Go.Proofs.YtmoglaknmlhpgaaGreat
/- Rows of marks: cells, and what a slice of them reads as. -/
namespace Go.Proofs.YtmoglaknmlhpgaaGreat
set_option linter.unusedVariables false
open Go.RowKit

def mcell (m : Mk) : Value := .complex .f64 (fl m.1) (fl m.2)
def mv (l : List Mk) : List Value := l.map mcell
theorem mv_len (l : List Mk) : (mv l).length = l.length := by simp [mv]
theorem mv_app (l m : List Mk) : mv (l ++ m) = mv l ++ mv m := by simp [mv]
theorem mv_get {l : List Mk} {k : Nat} {m : Mk} (h : l[k]? = some m) : (mv l)[k]? = some (mcell m) := by simp [mv, h]
theorem one_mv {l : List Mk} : ∀ v ∈ mv l, v.oneCell' = true := by
  intro v hv
  obtain ⟨c, _, rfl⟩ := List.mem_map.1 hv
  rfl
theorem Sl.mlen {w : World} {B n c : Nat} {A : Option Addr} {l : List Mk} (h : Sl w B A n c (mv l)) : l.length = n := by rw [← mv_len]; exact h.1
theorem Sl.mark {w : World} {B n c : Nat} {A : Option Addr} {l : List Mk} (h : Sl w B A n c (mv l)) {k : Nat} (hk : k < n) : ∃ b o p d, A = some ⟨b, o, none⟩ ∧ b < B ∧ l[k]? = some (p, d) ∧ w.cell? ⟨b, o + k, none⟩ = some (.complex .f64 (fl p) (fl d)) := by
  obtain ⟨b, o, u, e, hb, hx, hc⟩ := h.at_ hk
  have hl : k < l.length := by rw [h.mlen]; exact hk
  have hg := List.getElem?_eq_getElem hl
  rw [mv_get hg] at hx
  injection hx with hx
  subst hx
  exact ⟨b, o, l[k].1, l[k].2, e, hb, hg, hc⟩
theorem markinfo : (Tryz.prog.info? 31).map (fun i => (i.zero, i.size, i.bytes)) = some (some (.complex .f64 0 0), 1, 16) := by kernel_rfl
end Go.Proofs.YtmoglaknmlhpgaaGreat
/- Package combine: each function over marks whose parts are quarters. -/
namespace Go.Proofs.YtmoglaknmlhpgaaGreat
set_option linter.unusedVariables false
open Go.RowKit
attribute [local go_sem] eq0 feq2 eq4 fgt0 gt2 ord_eq ord_gt ord_lt run_max_fl

def algB (a : Int) : Bool := decide (1 ≤ a) && decide (a ≤ 6)
def algN (a : Fin 6) : Int := 1 + (a.val : Int)
theorem alg6 : ∀ a : Fin 6, a = 0 ∧ algN a = 1 ∨ a = 1 ∧ algN a = 2 ∨ a = 2 ∧ algN a = 3 ∨ a = 3 ∧ algN a = 4 ∨ a = 4 ∧ algN a = 5 ∨ a = 5 ∧ algN a = 6 := by decide +kernel
theorem ret_m {m : Mk} {p d : Fin 5} (h : (p, d) = m) : Ending.returned (.complex .f64 (fl p) (fl d)) = .returned (mcell m) := by rw [← h]; rfl

theorem ret_k {a b : Nat} {m : Mk} (h : a = fl m.1) (k : b = fl m.2) : Ending.returned (.complex .f64 a b) = .returned (mcell m) := by rw [h, k]; rfl
theorem only_two {j m : Mk} (h : ¬ j = (0, 0)) (k : ¬ m = (0, 0)) : onlyM j m = (2, 2) := by rw [onlyM, if_neg h, if_neg k]

set_option maxHeartbeats 800000 in
theorem cright_any (a : Int) (w : World) : Calls Tryz.prog 94 #[.int .i64 a] w fun z w' => z = .returned (.bool (algB a)) ∧ w = w' := by
  by_cases h1 : 1 ≤ a
  · by_cases h2 : a ≤ 6
    · go_enter Tryz.func94, Tryz.ntmps94
      go_wp2
      go_ret
      exact ⟨ret_bool (by simp [algB, h1, h2]), rfl⟩
    · go_enter Tryz.func94, Tryz.ntmps94
      go_wp2
      go_ret
      exact ⟨ret_bool (by simp [algB, h1, h2]), rfl⟩
  · go_enter Tryz.func94, Tryz.ntmps94
    go_wp2
    go_ret
    exact ⟨ret_bool (by unfold algB; rw [decide_eq_false (by omega)]; rfl), rfl⟩
set_option maxHeartbeats 800000 in
theorem first_any (p d q e : Fin 5) (w : World) : Calls Tryz.prog 118 #[.complex .f64 (fl p) (fl d), .complex .f64 (fl q) (fl e)] w fun z w' => z = .returned (mcell (firstM (p, d) (q, e))) ∧ w = w' := by
  by_cases h : (p == 0 && d == 0) = true
  · have hk : (p, d) = ((0, 0) : Mk) := by simpa using h
    go_enter Tryz.func118, Tryz.ntmps118
    go_wp2
    go_ret
    exact ⟨ret_m (by rw [hk]; rfl), rfl⟩
  · have hk : ¬ (p, d) = ((0, 0) : Mk) := by simpa using h
    have h' : (p == 0 && d == 0) = false := by simpa using h
    clear h
    go_enter Tryz.func118, Tryz.ntmps118
    go_wp2
    go_ret
    exact ⟨ret_m (by rw [firstM, if_neg hk]), rfl⟩
set_option maxHeartbeats 800000 in
theorem only_any (p d q e : Fin 5) (w : World) : Calls Tryz.prog 119 #[.complex .f64 (fl p) (fl d), .complex .f64 (fl q) (fl e)] w fun z w' => z = .returned (mcell (onlyM (p, d) (q, e))) ∧ w = w' := by
  by_cases h : (p == 0 && d == 0) = true
  · have hk : (p, d) = ((0, 0) : Mk) := by simpa using h
    go_enter Tryz.func119, Tryz.ntmps119
    go_wp2
    go_ret
    exact ⟨ret_m (by rw [hk]; rfl), rfl⟩
  · have hk : ¬ (p, d) = ((0, 0) : Mk) := by simpa using h
    have h' : (p == 0 && d == 0) = false := by simpa using h
    clear h
    by_cases g : (q == 0 && e == 0) = true
    · have gk : (q, e) = ((0, 0) : Mk) := by simpa using g
      go_enter Tryz.func119, Tryz.ntmps119
      go_wp2
      go_ret
      exact ⟨ret_m (by rw [onlyM, if_neg hk, if_pos gk]), rfl⟩
    · have gk : ¬ (q, e) = ((0, 0) : Mk) := by simpa using g
      have g' : (q == 0 && e == 0) = false := by simpa using g
      clear g
      go_enter Tryz.func119, Tryz.ntmps119
      go_wp2
      go_ret
      exact ⟨ret_k (by rw [only_two hk gk, fl2]) (by rw [only_two hk gk, fl2]), rfl⟩
set_option maxHeartbeats 3200000 in
theorem sure_any (p d : Fin 5) (w : World) : Calls Tryz.prog 122 #[.complex .f64 (fl p) (fl d)] w fun z w' => z = .returned (mcell (sureM (p, d))) ∧ w = w' := by
  obtain rfl | rfl | rfl | rfl | rfl := five p
  all_goals
    obtain rfl | rfl | rfl | rfl | rfl := five d
    all_goals
      go_enter Tryz.func122, Tryz.ntmps122
      go_wp2
      go_ret
      exact ⟨ret_k (by decide +kernel) (by decide +kernel), rfl⟩
set_option maxHeartbeats 800000 in
theorem unless_any (p a b c d : Fin 5) (w : World) : Calls Tryz.prog 123 #[.float .f64 (fl p), .complex .f64 (fl a) (fl b), .complex .f64 (fl c) (fl d)] w fun z w' => z = .returned (mcell (if p = 4 then (a, b) else (c, d))) ∧ w = w' := by
  by_cases h : p = 4
  · have hb : (p == 4) = true := by simp [h]
    rw [if_pos h]
    clear h
    go_enter Tryz.func123, Tryz.ntmps123
    go_wp2
    go_ret
    exact ⟨rfl, rfl⟩
  · have hb : (p == 4) = false := by simp [h]
    rw [if_neg h]
    clear h
    go_enter Tryz.func123, Tryz.ntmps123
    go_wp2
    go_ret
    exact ⟨rfl, rfl⟩
set_option maxHeartbeats 800000 in
theorem step_any (a : Fin 6) (p d q e : Fin 5) (w : World) : Calls Tryz.prog 96 #[.int .i64 (algN a), .complex .f64 (fl p) (fl d), .complex .f64 (fl q) (fl e)] w fun z w' => z = .returned (mcell (stepM a (p, d) (q, e))) ∧ w = w' := by
  have c1 := Lib.hid (join_any p d q e)
  have c2 := Lib.hid (first_any p d q e)
  have c3 := Lib.hid (only_any p d q e)
  obtain ⟨rfl, h⟩ | ⟨rfl, h⟩ | ⟨rfl, h⟩ | ⟨rfl, h⟩ | ⟨rfl, h⟩ | ⟨rfl, h⟩ := alg6 a
  all_goals
    rw [h]
    clear h
    go_enter Tryz.func96, Tryz.ntmps96
    go_wp2_with fail
    first
      | refine (c1.out _).mono ?_
      | refine (c2.out _).mono ?_
      | refine (c3.out _).mono ?_
    rintro z w' ⟨rfl, rfl⟩
    go_wp2
    go_ret
    exact ⟨rfl, rfl⟩
set_option maxHeartbeats 1600000 in
theorem decide_any (a : Fin 6) (p d : Fin 5) (w : World) : Calls Tryz.prog 97 #[.int .i64 (algN a), .complex .f64 (fl p) (fl d)] w fun z w' => z = .returned (mcell (decideM a (p, d))) ∧ w = w' := by
  have u1 := unless_any p 4 0 0 4
  have u2 := unless_any d 0 4 4 0
  rw [fl0, fl4] at u1
  rw [fl0, fl4] at u2
  generalize hm : (if p = 4 then ((4, 0) : Mk) else (0, 4)) = m at u1
  generalize hk : (if d = 4 then ((0, 4) : Mk) else (4, 0)) = k at u2
  have HM := Lib.hid hm
  have HK := Lib.hid hk
  clear hm hk
  have c1 := Lib.hid (over_any p d)
  have c2 := Lib.hid (turn_any p d)
  have c3 := Lib.hid (over_any d p)
  have c4 := Lib.hid (turn_any (overP d p) (overD d p))
  have c5 := Lib.hid (sure_any p d)
  have c6 := Lib.hid u1
  have c7 := Lib.hid u2
  clear u1 u2
  obtain ⟨rfl, h⟩ | ⟨rfl, h⟩ | ⟨rfl, h⟩ | ⟨rfl, h⟩ | ⟨rfl, h⟩ | ⟨rfl, h⟩ := alg6 a
  all_goals
    rw [h]
    clear h
    go_enter Tryz.func97, Tryz.ntmps97
    go_wp2_with fail
  · refine (c1.out _).mono ?_
    rintro z w' ⟨rfl, rfl⟩
    go_wp2
    go_ret
    exact ⟨rfl, rfl⟩
  · refine (c2.out _).mono ?_
    rintro z w' ⟨rfl, rfl⟩
    go_wp2_with fail
    refine (c3.out _).mono ?_
    rintro z w' ⟨rfl, rfl⟩
    go_wp2_with fail
    refine (c4.out _).mono ?_
    rintro z w' ⟨rfl, rfl⟩
    go_wp2
    go_ret
    exact ⟨rfl, rfl⟩
  · go_ret
    exact ⟨rfl, rfl⟩
  · refine (c5.out _).mono ?_
    rintro z w' ⟨rfl, rfl⟩
    go_wp2
    go_ret
    exact ⟨rfl, rfl⟩
  · refine (c6.out _).mono ?_
    rintro z w' ⟨rfl, rfl⟩
    go_wp2
    go_ret
    exact ⟨congrArg (fun m => Ending.returned (mcell m)) HM.out.symm, rfl⟩
  · refine (c7.out _).mono ?_
    rintro z w' ⟨rfl, rfl⟩
    go_wp2
    go_ret
    exact ⟨congrArg (fun m => Ending.returned (mcell m)) HK.out.symm, rfl⟩
set_option maxHeartbeats 800000 in
theorem cmarks_any {w : World} {B n c : Nat} {A : Option Addr} {l : List Mk} (h : Sl w B A n c (mv l)) :
    Calls Tryz.prog 95 #[.slice A n c] w fun z w' => z = .returned (.bool (l.all rightK)) ∧ w = w' := by
  have hcap := h.cap
  have hle := h.le
  unfold maxLen at hcap
  have H := Lib.hid h
  have HL := Lib.hid h.mlen
  clear h
  go_enter Tryz.func95, Tryz.ntmps95
  go_wp2_with fail
  go_loop [7] (fun i => ∃ k : Nat, k ≤ n ∧ i = .int .i64 k ∧ (l.take k).all rightK = true) (fun i => n - (intOf i).toNat)
  case atStart => exact ⟨0, Nat.zero_le _, rfl, rfl⟩
  case round =>
    obtain ⟨k, hk, rfl, ht⟩ := hrel
    have HT := Lib.hid ht
    clear ht
    by_cases hlt : k < n
    · obtain ⟨b, o, p, d, rfl, _, hx, hc⟩ := H.out.mark hlt
      have HX := Lib.hid hx
      clear hx
      have c1 := mright_any p d
      by_cases hr : rightM p d = true
      · rw [hr] at c1
        have C1 := Lib.hid c1
        have HR := Lib.hid hr
        clear c1 hr
        go_wp2_with fail
        refine (C1.out _).mono ?_
        rintro z w' ⟨rfl, rfl⟩
        go_wp2_with fail
        go_round
        case rel =>
          refine ⟨k + 1, by omega, by go_num, ?_⟩
          obtain ⟨hk', e⟩ := List.getElem?_eq_some_iff.1 HX.out
          rw [List.take_succ_eq_append_getElem hk', e, List.all_append, HT.out]
          simpa [rightK] using HR.out
        case measure => simp [intOf]; omega
      · have hr' : rightM p d = false := by simpa using hr
        rw [hr'] at c1
        have C1 := Lib.hid c1
        have HR := Lib.hid hr'
        clear c1 hr hr'
        go_wp2_with fail
        refine (C1.out _).mono ?_
        rintro z w' ⟨rfl, rfl⟩
        go_wp2_with fail
        go_ret
        refine ⟨ret_bool ?_, rfl⟩
        symm
        rw [List.all_eq_false]
        exact ⟨(p, d), List.mem_of_getElem? HX.out, by simpa [rightK] using HR.out⟩
    · obtain rfl : k = n := by omega
      go_wp2_with fail
      go_ret
      refine ⟨ret_bool ?_, rfl⟩
      have := HT.out
      rw [List.take_of_length_le (by rw [HL.out]; omega)] at this
      exact this.symm

def allK (a : Int) (l : List Mk) : Mk × Int := if algB a && l.all rightK then (makeM (if a = 2 then 1 else if a = 3 then 2 else if a = 4 then 3 else if a = 5 then 4 else if a = 6 then 5 else 0) l, 0) else ((0, 0), 1)
theorem allK_right (a : Fin 6) {l : List Mk} (h : Six l) : allK (algN a) l = (makeM a l, 0) := by
  have hr : l.all rightK = true := List.all_eq_true.2 h
  unfold allK
  rw [hr]
  obtain ⟨rfl, e⟩ | ⟨rfl, e⟩ | ⟨rfl, e⟩ | ⟨rfl, e⟩ | ⟨rfl, e⟩ | ⟨rfl, e⟩ := alg6 a <;> rw [e] <;> rfl
theorem alg_of {a : Int} (h : algB a = true) : ∃ i : Fin 6, a = algN i := by
  simp only [algB, Bool.and_eq_true, decide_eq_true_eq] at h
  refine ⟨⟨(a - 1).toNat, by omega⟩, ?_⟩
  unfold algN
  simp only
  omega
set_option maxHeartbeats 800000 in
theorem all_six {w : World} {B n c : Nat} {A : Option Addr} {l : List Mk} (a : Fin 6) (h : Sl w B A n c (mv l)) (h6 : Six l) :
    Calls Tryz.prog 69 #[.int .i64 (algN a), .slice A n c] w fun z w' => z = .returned (.tuple #[mcell (makeM a l), .int .i64 0]) ∧ w = w' := by
  have hcap := h.cap
  have hle := h.le
  unfold maxLen at hcap
  have hall := fun w => (fun (h : Sl w B A n c (mv l)) => cmarks_any h)
  rw [List.all_eq_true.2 h6] at hall
  have hr := cright_any (algN a)
  have hb : algB (algN a) = true := by obtain ⟨rfl, e⟩ | ⟨rfl, e⟩ | ⟨rfl, e⟩ | ⟨rfl, e⟩ | ⟨rfl, e⟩ | ⟨rfl, e⟩ := alg6 a <;> rfl
  rw [hb] at hr
  have HALL := Lib.hid (hall w h)
  have HR := Lib.hid hr
  have H := Lib.hid h
  have HL := Lib.hid h.mlen
  clear h hall hr hb
  generalize hn : algN a = x at *
  have HN := Lib.hid hn
  clear hn
  go_enter Tryz.func69, Tryz.ntmps69
  go_wp2_with fail
  refine (HR.out _).mono ?_
  rintro z w' ⟨rfl, rfl⟩
  go_wp2_with fail
  refine HALL.out.mono ?_
  rintro z w' ⟨rfl, rfl⟩
  go_wp2_with fail
  go_loop [6, 19] (fun j i => ∃ k : Nat, k ≤ n ∧ i = .int .i64 k ∧ ∃ p d : Fin 5, j = .complex .f64 (fl p) (fl d) ∧ foldM a (l.take k) = (p, d)) (fun _ i => n - (intOf i).toNat)
  case atStart => exact ⟨0, Nat.zero_le _, rfl, 0, 0, by rw [fl0], rfl⟩
  case round =>
    obtain ⟨k, hk, rfl, p, d, rfl, ht⟩ := hrel
    have HT := Lib.hid ht
    clear ht
    by_cases hlt : k < n
    · obtain ⟨b, o, q, e, rfl, _, hx, hc⟩ := H.out.mark hlt
      have HX := Lib.hid hx
      clear hx
      have c1 := step_any a p d q e
      rw [HN.out] at c1
      have C1 := Lib.hid c1
      clear c1
      go_wp2_with fail
      refine (C1.out _).mono ?_
      rintro z w' ⟨rfl, rfl⟩
      go_wp2_with fail
      go_round
      case rel => exact ⟨k + 1, by omega, by go_num, _, _, rfl, by rw [fold_take a HX.out, HT.out]⟩
      case measure => simp [intOf]; omega
    · obtain rfl : k = n := by omega
      have c1 := decide_any a p d
      rw [HN.out] at c1
      have C1 := Lib.hid c1
      clear c1
      go_wp2_with fail
      refine (C1.out _).mono ?_
      rintro z w' ⟨rfl, rfl⟩
      go_wp2_with fail
      go_ret2
      have := HT.out
      rw [List.take_of_length_le (by rw [HL.out]; omega)] at this
      exact ⟨by unfold makeM; rw [this]; rfl, rfl⟩
theorem all_to {w : World} {B n c : Nat} {A : Option Addr} {l : List Mk} (a : Fin 6) {p d : Fin 5} (h : Sl w B A n c (mv l)) (h6 : Six l) (hm : makeM a l = (p, d)) :
    Calls Tryz.prog 69 #[.int .i64 (1 + (a.val : Int)), .slice A n c] w fun z w' => z = .returned (.tuple #[.complex .f64 (fl p) (fl d), .int .i64 0]) ∧ w = w' := by
  have := all_six a h h6
  rw [hm] at this
  exact this
end Go.Proofs.YtmoglaknmlhpgaaGreat
/- What the algorithms make of rows of the six (plain): turned, sure, one alone, many. -/
namespace Go.Proofs.YtmoglaknmlhpgaaGreat

theorem make_unless (l : List Mk) : makeM 4 l = (4, 0) ∨ makeM 4 l = (0, 4) := by
  show (if (foldM 4 l).1 = 4 then ((4, 0) : Mk) else (0, 4)) = (4, 0) ∨ (if (foldM 4 l).1 = 4 then ((4, 0) : Mk) else (0, 4)) = (0, 4)
  split
  · exact .inl rfl
  · exact .inr rfl

end Go.Proofs.YtmoglaknmlhpgaaGreat
/- bailiffkeep: how much may be gone through: takes, text. -/
namespace Go.Proofs.YtmoglaknmlhpgaaGreat
set_option linter.unusedVariables false
open Go.RowKit

def Lf (w : World) (g m : Nat) : Prop := Ob w g 82 #[.int .i64 (m : Int)]
def Taking (f : FuncId) (args : Array Value) (w : World) (g m c : Nat) : Prop :=
  Calls Tryz.prog f args w fun e w' => e = .returned (.bool (decide (c ≤ m))) ∧ Only g w w' ∧ (c ≤ m → Lf w' g (m - c))
theorem Only.kept {g : Nat} {w w' : World} (h : Only g w w') {R : Nat → Prop} (hR : ∀ b, R b → b ≠ g) : Kept R w w' := ⟨h.le, fun b hb hl => h.heap hl (hR b hb)⟩
theorem Only.alloc (g : Nat) (w : World) (o : Obj) : Only g w (w.alloc o) := Only.of_below ((Below.refl _ _).alloc (Nat.le_refl _) _)

theorem takes_any {w : World} {g m n : Nat} (hl : Lf w g m) (hm : m ≤ 3000) (hn : n ≤ maxLen) : Taking 29 #[.pointer (some ⟨g, 0, none⟩), .int .i64 (n : Int)] w g m n := by
  unfold Taking
  have c0 := hl.cell 0
  have f0 := hl.frozen 0
  have HL := Lib.hid hl
  unfold maxLen at hn
  clear hl
  by_cases h : n ≤ m
  · have h' : ¬ (m : Int) < (n : Int) := by omega
    have e : (m : Int) - (n : Int) = ((m - n : Nat) : Int) := by omega
    have HD := Lib.hid h
    clear h
    go_enter Tryz.func29, Tryz.ntmps29
    go_wp2_with fail
    go_ret
    refine ⟨ret_bool (decide_eq_true HD.out).symm, Only.refl.setCell rfl _, fun _ => ?_⟩
    have := HL.out.put 0 (.int .i64 ((m - n : Nat) : Int))
    simpa [Lf] using this
  · have h' : (m : Int) < (n : Int) := by omega
    have HD := Lib.hid h
    clear h
    go_enter Tryz.func29, Tryz.ntmps29
    go_wp2_with fail
    go_ret
    exact ⟨ret_bool (decide_eq_false HD.out).symm, Only.refl, fun h => absurd h HD.out⟩

def textC (s : ByteArray) : Nat := 1 + s.size / 8
theorem ktext_any {w : World} {g m : Nat} (s : ByteArray) (hl : Lf w g m) (hm : m ≤ 3000) (hs : s.size ≤ maxLen) : Taking 30 #[.pointer (some ⟨g, 0, none⟩), .string s] w g m (textC s) := by
  unfold maxLen at hs
  have HT := Lib.hid (takes_any (n := textC s) hl hm (by unfold maxLen textC; omega))
  have e : ((textC s : Nat) : Int) = 1 + (s.size : Int) / 8 := by unfold textC; omega
  unfold Taking at HT ⊢
  rw [e] at HT
  clear hl e
  go_enter Tryz.func30, Tryz.ntmps30
  go_wp2_with (go_at_call 29; refine HT.out.mono ?_; rintro e w1 ⟨rfl, hb, hw⟩)
  go_ret
  exact ⟨rfl, hb, hw⟩

def sumC {α : Type} (f : α → Nat) : List α → Nat
  | [] => 0
  | x :: l => f x + sumC f l
theorem sumC_app {α : Type} (f : α → Nat) : ∀ (l m : List α), sumC f (l ++ m) = sumC f l + sumC f m
  | [], m => by simp [sumC]
  | x :: l, m => by simp only [List.cons_append, sumC, sumC_app f l m]; omega
theorem sumC_take {α : Type} {f : α → Nat} {l : List α} {k : Nat} {x : α} (h : l[k]? = some x) : sumC f (l.take (k + 1)) = sumC f (l.take k) + f x := by
  obtain ⟨hk, rfl⟩ := List.getElem?_eq_some_iff.1 h
  rw [List.take_succ_eq_append_getElem hk, sumC_app]
  rfl
theorem sumC_zero {α : Type} (f : α → Nat) (l : List α) : sumC f (l.take 0) = 0 := by simp [sumC]
theorem sumC_all {α : Type} {f : α → Nat} {l : List α} {n : Nat} (h : l.length = n) : sumC f (l.take n) = sumC f l := by rw [List.take_of_length_le (by omega)]
theorem sumC_le {α : Type} {f : α → Nat} {l : List α} {k : Nat} {x : α} (h : l[k]? = some x) : sumC f (l.take k) + f x ≤ sumC f l := by
  rw [← sumC_take h]
  have := sumC_app f (l.take (k + 1)) (l.drop (k + 1))
  rw [List.take_append_drop] at this
  omega
theorem sumC_mem {α : Type} {f : α → Nat} {l : List α} {x : α} (h : x ∈ l) : f x ≤ sumC f l := by
  obtain ⟨k, hk, rfl⟩ := List.getElem_of_mem h
  have := sumC_le (f := f) (List.getElem?_eq_getElem hk)
  omega
theorem Lf.alloc {w : World} {g m : Nat} (h : Lf w g m) (o : Obj) : Lf (w.alloc o) g m := Ob.keep h (Below.heap_alloc w o g (Ob.lt h))
end Go.Proofs.YtmoglaknmlhpgaaGreat
/- bailiffkeep: how much of a policy may be gone through: obls. -/
namespace Go.Proofs.YtmoglaknmlhpgaaGreat
set_option linter.unusedVariables false
open Go.RowKit

def dutC (o : Dut) : Nat := textC o.arg
def dutsC (l : List Dut) : Nat := l.length + sumC dutC l
def matC (m : Mat) : Nat := textC m.a.name + textC m.v.s
def allC (l : List Mat) : Nat := 1 + l.length + sumC matC l
def anyC (l : List (List Mat)) : Nat := 1 + l.length + sumC allC l
def tgC (t : Tgt) : Nat := 1 + t.length + sumC anyC t


set_option maxHeartbeats 1600000 in
theorem kobls_any {w : World} {R : Nat → Prop} {g m n c : Nat} {A : Option Addr} {l : List Dut} (hl : Lf w g m) (hm : m ≤ 3000) (hR : ∀ b, R b → b ≠ g) (h : Dus w R A n c l) :
    Taking 45 #[.pointer (some ⟨g, 0, none⟩), .slice A n c] w g m (dutsC l) := by
  have hle := Rw.le h
  have hcap := Rw.cap h
  have HL := Lib.hid (Rw.len h)
  have HT := Lib.hid (takes_any (n := n) hl hm (by omega))
  have H := Lib.hid h
  have HR := Lib.hid hR
  have HM := Lib.hid hm
  unfold maxLen at hcap
  unfold Taking at HT ⊢
  have HC : Hid (dutsC l = n + sumC dutC l) := by show dutsC l = _; unfold dutsC; rw [HL.out]
  generalize hcc : dutsC l = cc at *
  clear hcc h hl hR hm
  by_cases h1 : n ≤ m
  · rw [decide_eq_true h1] at HT
    have H1 := Lib.hid h1
    clear h1
    go_enter Tryz.func45, Tryz.ntmps45
    go_wp2_with (go_at_call 29; refine HT.out.mono ?_; rintro e w1 ⟨rfl, hb, hw⟩; have B1 := Lib.hid hb; have W1 := Lib.hid (hw H1.out); clear hb hw)
    go_loopw [14] (fun i wr => ∃ k mk : Nat, k ≤ n ∧ i = .int .i64 k ∧ sumC dutC (l.take k) + mk = m - n ∧ Lf wr g mk ∧ Only g w wr) (fun i _ => n - (intOf i).toNat)
    case atStart => exact ⟨0, m - n, Nat.zero_le _, rfl, by rw [sumC_zero]; omega, W1.out, B1.out⟩
    case round =>
      obtain ⟨k, mk, hk, rfl, hs, hlf, hb⟩ := hrel
      have HS := Lib.hid hs
      have HB := Lib.hid hb
      have HF := Lib.hid hlf
      clear hs hb hlf
      by_cases hlt : k < n
      · obtain ⟨b, o, x, rfl, hRb, hbl, hx, hok, c0, c1, c2⟩ := (H.out.keep (HB.out.kept HR.out) (fun _ h _ => h)).at_ hlt
        have HX := Lib.hid hx
        have HXT := Lib.hid (ktext_any x.arg (HF.out.alloc (.cells #[.int .i64 x.on, .int .i64 x.kind, .string x.arg] 42)) (by have := HS.out; have := HM.out; omega) hok.2.2)
        unfold Taking at HXT
        clear hx hok
        by_cases h2 : textC x.arg ≤ mk
        · rw [decide_eq_true h2] at HXT
          have H2 := Lib.hid h2
          clear h2
          go_wp2_with (go_at_call 30; refine HXT.out.mono ?_; rintro e w2 ⟨rfl, hb, hw⟩; have B2 := Lib.hid hb; have W2 := Lib.hid (hw H2.out); clear hb hw)
          go_roundw
          case rel => exact ⟨k + 1, mk - textC x.arg, by omega, by go_num, by rw [sumC_take HX.out]; have := HS.out; have := H2.out; show _ + textC x.arg + _ = _; omega, W2.out, HB.out.trans ((Only.alloc _ _ _).trans B2.out)⟩
          case measure => simp [intOf]; omega
        · rw [decide_eq_false h2] at HXT
          have H2 := Lib.hid h2
          clear h2
          go_wp2_with (go_at_call 30; refine HXT.out.mono ?_; rintro e w2 ⟨rfl, hb, hw⟩; have B2 := Lib.hid hb; clear hb hw)
          go_ret
          have hbad : ¬ cc ≤ m := by
            have := sumC_le (f := dutC) HX.out
            have := HC.out; have := HS.out; have := H1.out; have := H2.out
            have e : dutC x = textC x.arg := rfl
            omega
          exact ⟨ret_bool (decide_eq_false hbad).symm, HB.out.trans ((Only.alloc _ _ _).trans B2.out), fun h => absurd h hbad⟩
      · obtain rfl : k = n := by omega
        go_wp2
        go_ret
        have hs := HS.out
        rw [sumC_all HL.out] at hs
        have := HC.out
        have := H1.out
        exact ⟨ret_bool (decide_eq_true (by omega)).symm, HB.out, fun _ => by rw [show m - cc = mk by omega]; exact HF.out⟩
  · rw [decide_eq_false h1] at HT
    have H1 := Lib.hid h1
    clear h1
    go_enter Tryz.func45, Tryz.ntmps45
    go_wp2_with (go_at_call 29; refine HT.out.mono ?_; rintro e w1 ⟨rfl, hb, hw⟩; have B1 := Lib.hid hb; clear hb hw)
    go_ret
    have hbad : ¬ cc ≤ m := by have := HC.out; have := H1.out; omega
    exact ⟨ret_bool (decide_eq_false hbad).symm, B1.out, fun h => absurd h hbad⟩
end Go.Proofs.YtmoglaknmlhpgaaGreat
/- What a right policy's run leaves; a kid of it by itself (plain). -/
namespace Go.Proofs.YtmoglaknmlhpgaaGreat
set_option linter.unusedVariables false

def Sub (t s : Seen) : Prop := (∀ x, metB x t.ids = true → metB x s.ids = true) ∧ t.n ≤ s.n
theorem metB_app (x : ByteArray) (l m : List ByteArray) : metB x (l ++ m) = (metB x l || metB x m) := by simp [metB, List.any_append]
theorem Sub.app {t s : Seen} (h : Sub t s) (add : List ByteArray) (m : Nat) : Sub ⟨t.ids ++ add, t.n + m⟩ ⟨s.ids ++ add, s.n + m⟩ := by
  refine ⟨fun x hx => ?_, by have := h.2; show t.n + m ≤ s.n + m; omega⟩
  rw [metB_app, Bool.or_eq_true] at hx ⊢
  exact hx.imp (h.1 x) id
def Fine {α : Type} (f f' : α → Seen → Int × Seen) (x : α) : Prop := ∀ s s', f x s = (0, s') → ∃ add m, s' = ⟨s.ids ++ add, s.n + m⟩ ∧ ∀ t, Sub t s → f' x t = (0, ⟨t.ids ++ add, t.n + m⟩)
theorem fine_first {α : Type} {f f' : α → Seen → Int × Seen} (h : ∀ x, Fine f f' x) : ∀ (l : List α) s s', firstS f l s = (0, s') → ∃ add m, s' = ⟨s.ids ++ add, s.n + m⟩ ∧ ∀ t, Sub t s → firstS f' l t = (0, ⟨t.ids ++ add, t.n + m⟩)
  | [], s, s', e => by
    simp [firstS] at e
    subst e
    exact ⟨[], 0, by simp, fun t _ => by simp [firstS]⟩
  | x :: l, s, s', e => by
    simp only [firstS] at e
    split at e
    · rename_i h0
      rw [e] at h0
      exact absurd rfl h0
    · rename_i h0
      have h0 : (f x s).1 = 0 := by simpa using h0
      have e1 : f x s = (0, (f x s).2) := by rw [← h0]
      obtain ⟨a1, m1, r1, q1⟩ := h x s _ e1
      obtain ⟨a2, m2, r2, q2⟩ := fine_first h l _ _ e
      refine ⟨a1 ++ a2, m1 + m2, ?_, fun t ht => ?_⟩
      · rw [r2, r1]; simp [Nat.add_assoc]
      · simp only [firstS, q1 t ht, ne_eq, not_true, if_false]
        have hs := ht.app a1 m1
        rw [← r1] at hs
        rw [q2 _ hs]
        simp [Nat.add_assoc]
theorem idS_sub {x : ByteArray} {s t s1 : Seen} (h : idS x s = some s1) (hs : Sub t s) : idS x t = some ⟨t.ids ++ [x], t.n⟩ ∧ s1 = ⟨s.ids ++ [x], s.n⟩ := by
  unfold idS at h ⊢
  split at h
  · rename_i hc
    refine ⟨?_, (Option.some.inj h).symm⟩
    rw [if_pos]
    refine ⟨hc.1, ?_⟩
    cases hm : metB x t.ids with
    | false => rfl
    | true =>
      have := hs.1 x hm
      rw [hc.2] at this
      cases this
  · cases h
theorem fine_rule (r : Rul) : Fine ruleS ruleS r := by
  intro s s' h
  unfold ruleS at h
  cases hi : idS r.id s with
  | none => rw [hi] at h; simp at h
  | some s1 =>
    rw [hi] at h
    simp only at h
    split at h
    · simp at h
    · rename_i hn
      simp only [Prod.mk.injEq] at h
      have h1 := (idS_sub hi (t := s) ⟨fun _ h => h, Nat.le_refl _⟩).2
      subst h1
      refine ⟨[r.id], 1, h.2.symm, fun t ht => ?_⟩
      obtain ⟨e1, _⟩ := idS_sub hi ht
      unfold ruleS
      rw [e1]
      have hn' : ¬ 64 < t.n + 1 := by have := ht.2; simp only at hn; omega
      simp only [hn', if_false, h.1]
theorem fine_pol : ∀ (d d' : Nat), d ≤ d' → ∀ p, Fine (polS d) (polS d') p
  | 0, d', _, p => by intro s s' h; simp [polS] at h
  | d + 1, 0, hd, p => by omega
  | d + 1, d' + 1, hd, p => by
    intro s s' h
    simp only [polS] at h
    cases hi : idS p.id s with
    | none => rw [hi] at h; simp at h
    | some s1 =>
      rw [hi] at h
      simp only at h
      have h1 := (idS_sub hi (t := s) ⟨fun _ h => h, Nat.le_refl _⟩).2
      subst h1
      split at h
      · simp at h
      rename_i c1
      split at h
      · rename_i c2; simp only [Prod.mk.injEq] at h; exact absurd h.1 c2
      rename_i c2
      split at h
      · simp at h
      rename_i c3
      split at h
      · rename_i c4; rw [h] at c4; exact absurd rfl c4
      rename_i c4
      have c4' : (firstS ruleS p.rules ⟨s.ids ++ [p.id], s.n⟩).1 = 0 := by simpa using c4
      have e1 : firstS ruleS p.rules ⟨s.ids ++ [p.id], s.n⟩ = (0, (firstS ruleS p.rules ⟨s.ids ++ [p.id], s.n⟩).2) := by rw [← c4']
      obtain ⟨a1, m1, r1, q1⟩ := fine_first fine_rule _ _ _ e1
      obtain ⟨a2, m2, r2, q2⟩ := fine_first (fine_pol d d' (by omega)) _ _ _ h
      rw [r1] at r2 q2
      refine ⟨[p.id] ++ a1 ++ a2, m1 + m2, by rw [r2]; simp [Nat.add_assoc], fun t ht => ?_⟩
      obtain ⟨e2, _⟩ := idS_sub hi ht
      have ht1 : Sub ⟨t.ids ++ [p.id], t.n⟩ ⟨s.ids ++ [p.id], s.n⟩ := ht.app [p.id] 0
      have g1 := q1 _ ht1
      have g2 := q2 _ (ht1.app a1 m1)
      simp only [polS, e2, c1, if_false, c2, c3, g1, ne_eq, not_true, g2]
      simp [Nat.add_assoc]
theorem rule_n {r : Rul} {s s' : Seen} (h : ruleS r s = (0, s')) : s'.n = s.n + 1 ∧ s'.n ≤ 64 := by
  unfold ruleS at h
  cases hi : idS r.id s with
  | none => rw [hi] at h; simp at h
  | some s1 =>
    rw [hi] at h
    simp only at h
    have h1 := (idS_sub hi (t := s) ⟨fun _ h => h, Nat.le_refl _⟩).2
    split at h
    · simp at h
    · rename_i hn
      simp only [Prod.mk.injEq] at h
      rw [← h.2]
      subst h1
      exact ⟨rfl, Nat.le_of_not_lt hn⟩
theorem rules_n : ∀ {l : List Rul} {s s' : Seen}, firstS ruleS l s = (0, s') → s.n ≤ 64 → s'.n = s.n + l.length ∧ s'.n ≤ 64
  | [], s, s', h, hs => by simp [firstS] at h; subst h; simp; exact hs
  | r :: l, s, s', h, hs => by
    simp only [firstS] at h
    split at h
    · rename_i h0; rw [h] at h0; exact absurd rfl h0
    · rename_i h0
      have h0 : (ruleS r s).1 = 0 := by simpa using h0
      have e1 : ruleS r s = (0, (ruleS r s).2) := by rw [← h0]
      obtain ⟨a, b⟩ := rule_n e1
      obtain ⟨c, d⟩ := rules_n h b
      simp only [List.length_cons]
      omega
theorem pol_n : ∀ {d : Nat} {p : Pol} {s s' : Seen}, polS d p s = (0, s') → s.n ≤ 64 → s'.n ≤ 64
  | 0, p, s, s', h, _ => by simp [polS] at h
  | d + 1, p, s, s', h, hs => by
    simp only [polS] at h
    cases hi : idS p.id s with
    | none => rw [hi] at h; simp at h
    | some s1 =>
      rw [hi] at h
      simp only at h
      have h1 := (idS_sub hi (t := s) ⟨fun _ h => h, Nat.le_refl _⟩).2
      subst h1
      split at h
      · simp at h
      split at h
      · rename_i c2; simp only [Prod.mk.injEq] at h; exact absurd h.1 c2
      split at h
      · simp at h
      split at h
      · rename_i c4; rw [h] at c4; exact absurd rfl c4
      rename_i c4
      have c4' : (firstS ruleS p.rules ⟨s.ids ++ [p.id], s.n⟩).1 = 0 := by simpa using c4
      have e1 : firstS ruleS p.rules ⟨s.ids ++ [p.id], s.n⟩ = (0, (firstS ruleS p.rules ⟨s.ids ++ [p.id], s.n⟩).2) := by rw [← c4']
      have hr := (rules_n e1 hs).2
      have kids : ∀ (l : List Pol) (a b : Seen), firstS (polS d) l a = (0, b) → a.n ≤ 64 → b.n ≤ 64 := by
        intro l
        induction l with
        | nil => intro a b h ha; simp [firstS] at h; subst h; exact ha
        | cons x l ih =>
          intro a b h ha
          simp only [firstS] at h
          split at h
          · rename_i h0; rw [h] at h0; exact absurd rfl h0
          · rename_i h0
            have h0 : (polS d x a).1 = 0 := by simpa using h0
            have e1 : polS d x a = (0, (polS d x a).2) := by rw [← h0]
            exact ih _ _ h (pol_n e1 ha)
      exact kids _ _ _ h hr
theorem kid_alone {p : Pol} {s s' : Seen} (h : polS 3 p s = (0, s')) : rightE p = 0 ∧ s'.n = s.n + rulesN p := by
  obtain ⟨add, m, e, q⟩ := fine_pol 3 4 (by omega) p s s' h
  have := q ⟨[], 0⟩ ⟨fun x hx => by simp [metB] at hx, Nat.zero_le _⟩
  unfold rightE rulesN
  rw [this, e]
  simp
theorem kids_alone : ∀ {l : List Pol} {s s' : Seen}, firstS (polS 3) l s = (0, s') → (∀ k ∈ l, rightE k = 0) ∧ s'.n = s.n + sumC rulesN l
  | [], s, s', h => by simp [firstS] at h; subst h; simp [sumC]
  | x :: l, s, s', h => by
    simp only [firstS] at h
    split at h
    · rename_i h0; rw [h] at h0; exact absurd rfl h0
    · rename_i h0
      have h0 : (polS 3 x s).1 = 0 := by simpa using h0
      have e1 : polS 3 x s = (0, (polS 3 x s).2) := by rw [← h0]
      obtain ⟨a, b⟩ := kid_alone e1
      obtain ⟨c, d⟩ := kids_alone h
      refine ⟨fun k hk => ?_, by rw [d, b]; simp only [sumC]; omega⟩
      rcases List.mem_cons.1 hk with rfl | hk
      · exact a
      · exact c k hk
theorem right_all {p : Pol} (h : rightE p = 0) : (∀ k ∈ p.kids, rightE k = 0) ∧ rulesN p = p.rules.length + sumC rulesN p.kids ∧ rulesN p ≤ 64 ∧ p.rules.length ≤ 16 ∧ p.kids.length ≤ 16 := by
  have e0 : polS (3 + 1) p ⟨[], 0⟩ = (0, (polS 4 p ⟨[], 0⟩).2) := by unfold rightE at h; rw [← h]
  have hn := pol_n e0 (Nat.zero_le _)
  unfold rulesN
  generalize (polS 4 p ⟨[], 0⟩).2 = s' at *
  rw [polS] at e0
  cases hi : idS p.id ⟨[], 0⟩ with
  | none => rw [hi] at e0; simp at e0
  | some s1 =>
    rw [hi] at e0
    simp only at e0
    have h1 := (idS_sub hi (t := ⟨[], 0⟩) ⟨fun _ h => h, Nat.le_refl _⟩).2
    subst h1
    split at e0
    · simp at e0
    split at e0
    · rename_i c2; simp only [Prod.mk.injEq] at e0; exact absurd e0.1 c2
    split at e0
    · simp at e0
    rename_i c3
    split at e0
    · rename_i c4; rw [e0] at c4; exact absurd rfl c4
    rename_i c4
    have c4' : (firstS ruleS p.rules ⟨[] ++ [p.id], 0⟩).1 = 0 := by simpa using c4
    have e1 : firstS ruleS p.rules ⟨[] ++ [p.id], 0⟩ = (0, (firstS ruleS p.rules ⟨[] ++ [p.id], 0⟩).2) := by rw [← c4']
    obtain ⟨r1, _⟩ := rules_n e1 (Nat.zero_le _)
    obtain ⟨k1, k2⟩ := kids_alone e0
    refine ⟨k1, ?_, hn, by omega, by omega⟩
    rw [k2, r1]
    simp
    rfl
end Go.Proofs.YtmoglaknmlhpgaaGreat
/- PolicyNames: what becomes of a right policy whose names, rules or kids are changed (plain). -/
namespace Go.Proofs.YtmoglaknmlhpgaaGreat
set_option linter.unusedVariables false

theorem right_parts {p : Pol} (h : rightE p = 0) : idS p.id ⟨[], 0⟩ = some ⟨[p.id], 0⟩ ∧ fitsB p = true ∧ orE (tgE p.tg) (obE p.ob) = 0 ∧ ¬ (16 < p.rules.length ∨ 16 < p.kids.length) ∧
    ∃ s2 s3, firstS ruleS p.rules ⟨[p.id], 0⟩ = (0, s2) ∧ firstS (polS 3) p.kids s2 = (0, s3) := by
  have e0 : polS (3 + 1) p ⟨[], 0⟩ = (0, (polS 4 p ⟨[], 0⟩).2) := by unfold rightE at h; rw [← h]
  generalize (polS 4 p ⟨[], 0⟩).2 = s' at *
  rw [polS] at e0
  cases hi : idS p.id ⟨[], 0⟩ with
  | none => rw [hi] at e0; simp at e0
  | some s1 =>
    rw [hi] at e0
    simp only at e0
    have h1 := (idS_sub hi (t := ⟨[], 0⟩) ⟨fun _ h => h, Nat.le_refl _⟩).2
    subst h1
    split at e0
    · simp at e0
    rename_i c1
    split at e0
    · rename_i c2; simp only [Prod.mk.injEq] at e0; exact absurd e0.1 c2
    rename_i c2
    split at e0
    · simp at e0
    rename_i c3
    split at e0
    · rename_i c4; rw [e0] at c4; exact absurd rfl c4
    rename_i c4
    have c4' : (firstS ruleS p.rules ⟨[] ++ [p.id], 0⟩).1 = 0 := by simpa using c4
    refine ⟨rfl, by simpa using c1, by simpa using c2, c3, (firstS ruleS p.rules ⟨[p.id], 0⟩).2, s', ?_, e0⟩
    rw [← c4']
    rfl
end Go.Proofs.YtmoglaknmlhpgaaGreat
/- Decisions by a policy, plainly (chapter 14): P14.1 to P14.4 written out; what they come to. -/
namespace Go.Proofs.YtmoglaknmlhpgaaGreat
set_option linter.unusedVariables false

structure Res where
  m : Mk
  ob : List Dut
def noRes : Res := ⟨(0, 0), []⟩
def dutsM (l : List Dut) (m : Mk) : List Dut :=
  if m = (4, 0) then l.filter (fun o => decide (o.on = 1)) else if m = (0, 4) then l.filter (fun o => decide (o.on = 2)) else []
def effM (deny : Bool) : Mk := if deny = true then (0, 4) else (4, 0)
def indM (m : Mk) : Mk := (indetP m.1 m.2, indetD m.1 m.2)
def ruleO (t c : Int) (r : Rul) : Res :=
  if t = 0 ∨ t = 2 ∧ c = 0 then noRes else if t = 1 ∨ c = 1 then ⟨indM (effM r.deny), []⟩ else ⟨effM r.deny, dutsM r.ob (effM r.deny)⟩
def ruleV (ask : List Giv) (r : Rul) : Res := ruleO (metI ask r.tg) (condP ask r.cond) r
def alongV (alg : Int) (m : Mk) : List Res → List Dut
  | [] => []
  | r :: l => if r.m = m then (if alg = 3 then r.ob else r.ob ++ alongV alg m l) else alongV alg m l
def joinV (alg : Int) (l : List Res) : Mk := (allK alg (l.map Res.m)).1
def polV (t alg : Int) (ob : List Dut) (l : List Res) : Res :=
  if t = 0 then noRes else if t = 1 then ⟨indM (joinV alg l), []⟩ else ⟨joinV alg l, alongV alg (joinV alg l) l ++ dutsM ob (joinV alg l)⟩
mutual
def evV (ask : List Giv) : Pol → Res
  | .mk id set alg tg rules kids ob => polV (metI ask tg) alg ob (rules.map (ruleV ask) ++ decL ask kids)
def decL (ask : List Giv) : List Pol → List Res
  | [] => []
  | p :: l => evV ask p :: decL ask l
end
theorem decL_map (ask : List Giv) : ∀ l : List Pol, decL ask l = l.map (evV ask)
  | [] => rfl
  | p :: l => by rw [decL, decL_map ask l]; rfl
def partsV (ask : List Giv) (p : Pol) : List Res := p.rules.map (ruleV ask) ++ p.kids.map (evV ask)
theorem decV_eq (ask : List Giv) (p : Pol) : evV ask p = polV (metI ask p.tg) p.alg p.ob (partsV ask p) := by
  obtain ⟨id, set, alg, tg, rules, kids, ob⟩ := p
  show evV ask (.mk id set alg tg rules kids ob) = polV (metI ask tg) alg ob (rules.map (ruleV ask) ++ kids.map (evV ask))
  rw [evV, decL_map]

def obR : List Rul → Nat
  | [] => 0
  | r :: l => r.ob.length + obR l
mutual
def szP : Pol → Nat
  | .mk id set alg tg rules kids ob => 1 + rules.length + ob.length + obR rules + szL kids
def szL : List Pol → Nat
  | [] => 0
  | p :: l => szP p + szL l
end
theorem szP_eq (p : Pol) : szP p = 1 + p.rules.length + p.ob.length + obR p.rules + szL p.kids := by
  obtain ⟨id, set, alg, tg, rules, kids, ob⟩ := p
  show szP (.mk id set alg tg rules kids ob) = 1 + rules.length + ob.length + obR rules + szL kids
  rw [szP]
theorem szP_pos (p : Pol) : 1 ≤ szP p := by rw [szP_eq]; omega
theorem szL_len : ∀ l : List Pol, l.length ≤ szL l
  | [] => Nat.zero_le _
  | p :: l => by have h1 := szP_pos p; have h2 := szL_len l; rw [szL]; simp only [List.length_cons]; omega
theorem szL_mem : ∀ {l : List Pol} {p : Pol}, p ∈ l → szP p ≤ szL l
  | q :: l, p, h => by
    rw [szL]
    rcases List.mem_cons.1 h with rfl | h
    · omega
    · have := szL_mem h; omega
theorem obR_mem : ∀ {l : List Rul} {r : Rul}, r ∈ l → r.ob.length ≤ obR l
  | q :: l, p, h => by
    rw [obR]
    rcases List.mem_cons.1 h with rfl | h
    · omega
    · have := obR_mem h; omega

theorem dutsM_len (l : List Dut) (m : Mk) : (dutsM l m).length ≤ l.length := by
  unfold dutsM
  split
  · exact List.length_filter_le _ _
  · split
    · exact List.length_filter_le _ _
    · exact Nat.zero_le _
theorem ruleT_len (t c : Int) (r : Rul) : (ruleO t c r).ob.length ≤ r.ob.length := by
  unfold ruleO noRes
  split
  · exact Nat.zero_le _
  · split
    · exact Nat.zero_le _
    · exact dutsM_len _ _
def obS : List Res → Nat
  | [] => 0
  | r :: l => r.ob.length + obS l
theorem obS_app (l m : List Res) : obS (l ++ m) = obS l + obS m := by
  induction l with
  | nil => simp [obS]
  | cons r l ih => simp only [List.cons_append, obS, ih]; omega
theorem obS_take (l : List Res) (k : Nat) : obS (l.take k) ≤ obS l := by
  have h := obS_app (l.take k) (l.drop k)
  rw [List.take_append_drop] at h
  omega
theorem along_len (alg : Int) (m : Mk) : ∀ l : List Res, (alongV alg m l).length ≤ obS l
  | [] => Nat.zero_le _
  | r :: l => by
    have ih := along_len alg m l
    unfold alongV obS
    split
    · split
      · omega
      · rw [List.length_append]; omega
    · omega
theorem polV_len (t alg : Int) (ob : List Dut) (l : List Res) : (polV t alg ob l).ob.length ≤ obS l + ob.length := by
  unfold polV noRes
  split
  · exact Nat.zero_le _
  · split
    · exact Nat.zero_le _
    · have h1 := along_len alg (joinV alg l) l
      have h2 := dutsM_len ob (joinV alg l)
      show (alongV alg (joinV alg l) l ++ dutsM ob (joinV alg l)).length ≤ _
      rw [List.length_append]
      omega
theorem obS_rules (ask : List Giv) : ∀ l : List Rul, obS (l.map (ruleV ask)) ≤ obR l
  | [] => Nat.le_refl _
  | r :: l => by
    have ih := obS_rules ask l
    have h := ruleT_len (metI ask r.tg) (condP ask r.cond) r
    rw [List.map_cons, obS, obR]
    unfold ruleV at ih ⊢
    omega
mutual
theorem ev_len (ask : List Giv) : ∀ p : Pol, (evV ask p).ob.length ≤ szP p
  | .mk id set alg tg rules kids ob => by
    have h1 := polV_len (metI ask tg) alg ob (rules.map (ruleV ask) ++ decL ask kids)
    have h2 := obS_rules ask rules
    have h3 := decs_len ask kids
    rw [obS_app] at h1
    rw [evV, szP]
    omega
theorem decs_len (ask : List Giv) : ∀ l : List Pol, obS (decL ask l) ≤ szL l
  | [] => Nat.zero_le _
  | p :: l => by
    have h1 := ev_len ask p
    have h2 := decs_len ask l
    rw [decL, obS, szL]
    omega
end
theorem parts_len (ask : List Giv) (p : Pol) : (partsV ask p).length ≤ szP p ∧ obS (partsV ask p) + p.ob.length ≤ szP p := by
  have h2 := obS_rules ask p.rules
  have h3 := decs_len ask p.kids
  have h4 := szL_len p.kids
  rw [decL_map] at h3
  rw [szP_eq]
  unfold partsV
  rw [obS_app, List.length_append, List.length_map, List.length_map]
  omega

theorem along_app {alg : Int} (h : alg ≠ 3) (m : Mk) (l k : List Res) : alongV alg m (l ++ k) = alongV alg m l ++ alongV alg m k := by
  induction l with
  | nil => rfl
  | cons r l ih =>
    rw [List.cons_append]
    simp only [alongV, if_neg h]
    split
    · rw [ih, List.append_assoc]
    · exact ih
theorem along_none {alg : Int} {m : Mk} : ∀ {l : List Res} (k : List Res), (∀ r ∈ l, r.m ≠ m) → alongV alg m (l ++ k) = alongV alg m k
  | [], k, _ => rfl
  | r :: l, k, h => by
    rw [List.cons_append]
    conv => lhs; unfold alongV
    rw [if_neg (h r (by simp))]
    exact along_none k (fun x hx => h x (by simp [hx]))

theorem eff_right (b : Bool) : rightK (effM b) = true := by cases b <;> decide +kernel
theorem ind_right_ : ∀ p d : Fin 5, rightK (p, d) = true → rightK (indM (p, d)) = true := by decide +kernel
theorem ind_right {m : Mk} (h : rightK m = true) : rightK (indM m) = true := ind_right_ m.1 m.2 h
theorem ruleT_right (t c : Int) (r : Rul) : rightK (ruleO t c r).m = true := by
  unfold ruleO noRes
  split
  · rfl
  · split
    · exact ind_right (eff_right _)
    · exact eff_right _
theorem join_right (alg : Int) (l : List Res) : rightK (joinV alg l) = true := by
  unfold joinV allK
  split
  · rename_i h
    rw [Bool.and_eq_true] at h
    exact make_right _ (List.all_eq_true.1 h.2)
  · rfl
theorem polV_right (t alg : Int) (ob : List Dut) (l : List Res) : rightK (polV t alg ob l).m = true := by
  unfold polV noRes
  split
  · rfl
  · split
    · exact ind_right (join_right _ _)
    · exact join_right _ _
theorem dec_right (ask : List Giv) (p : Pol) : rightK (evV ask p).m = true := by rw [decV_eq]; exact polV_right _ _ _ _
theorem parts_right (ask : List Giv) (p : Pol) : Six ((partsV ask p).map Res.m) := by
  intro m hm
  obtain ⟨r, hr, rfl⟩ := List.mem_map.1 hm
  unfold partsV at hr
  rcases List.mem_append.1 hr with h | h
  · obtain ⟨x, _, rfl⟩ := List.mem_map.1 h
    exact ruleT_right _ _ _
  · obtain ⟨x, _, rfl⟩ := List.mem_map.1 h
    exact dec_right _ _

theorem polE_parts {d : Nat} {p : Pol} {s s' : Seen} (h : polS (d + 1) p s = (0, s')) : fitsB p = true ∧ tgE p.tg = 0 ∧ obE p.ob = 0 ∧ p.rules.length ≤ 16 ∧ p.kids.length ≤ 16 ∧ ∃ s1 s2, firstS ruleS p.rules s1 = (0, s2) ∧ firstS (polS d) p.kids s2 = (0, s') := by
  rw [polS] at h
  cases hi : idS p.id s with
  | none => rw [hi] at h; simp at h
  | some s1 =>
    rw [hi] at h
    simp only at h
    split at h
    · simp at h
    rename_i c1
    split at h
    · rename_i c2; simp only [Prod.mk.injEq] at h; exact absurd h.1 c2
    rename_i c2
    split at h
    · simp at h
    rename_i c3
    split at h
    · rename_i c4; rw [h] at c4; exact absurd rfl c4
    rename_i c4
    have c4' : (firstS ruleS p.rules s1).1 = 0 := by simpa using c4
    have c2' : orE (tgE p.tg) (obE p.ob) = 0 := by simpa using c2
    unfold orE at c2'
    split at c2'
    · rename_i h0; exact absurd c2' h0
    rename_i h0
    exact ⟨by simpa using c1, by simpa using h0, c2', by omega, by omega, s1, (firstS ruleS p.rules s1).2, by rw [← c4'], h⟩
theorem firsts_all {α : Type} {f : α → Seen → Int × Seen} : ∀ {l : List α} {s s' : Seen}, firstS f l s = (0, s') → ∀ x ∈ l, ∃ a b, f x a = (0, b)
  | [], _, _, _, x, hx => by simp at hx
  | y :: l, s, s', h, x, hx => by
    simp only [firstS] at h
    split at h
    · rename_i h0; rw [h] at h0; exact absurd rfl h0
    · rename_i h0
      have h0 : (f y s).1 = 0 := by simpa using h0
      rcases List.mem_cons.1 hx with rfl | hx
      · exact ⟨s, (f x s).2, by rw [← h0]⟩
      · exact firsts_all h x hx
theorem ob_eight {l : List Dut} (h : obE l = 0) : l.length ≤ 8 := by
  unfold obE at h
  split at h
  · cases h
  · omega
theorem rule_parts {r : Rul} {s s' : Seen} (h : ruleS r s = (0, s')) : tgE r.tg = 0 ∧ exprE r.cond = 0 ∧ obE r.ob = 0 := by
  unfold ruleS at h
  cases hi : idS r.id s with
  | none => rw [hi] at h; simp at h
  | some s1 =>
    rw [hi] at h
    simp only at h
    split at h
    · simp at h
    · simp only [Prod.mk.injEq] at h
      have h := h.1
      unfold orE at h
      split at h
      · rename_i h0; exact absurd h h0
      · rename_i h0
        split at h
        · rename_i h1; exact absurd h h1
        · rename_i h1
          exact ⟨by simpa using h0, by simpa using h1, h⟩
theorem obR_le {k : Nat} : ∀ {l : List Rul}, (∀ r ∈ l, r.ob.length ≤ k) → obR l ≤ l.length * k
  | [], _ => Nat.zero_le _
  | r :: l, h => by
    have h1 := h r (by simp)
    have h2 := obR_le (l := l) (fun x hx => h x (by simp [hx]))
    rw [obR, List.length_cons, Nat.add_mul]
    omega
theorem szL_le {k : Nat} : ∀ {l : List Pol}, (∀ p ∈ l, szP p ≤ k) → szL l ≤ l.length * k
  | [], _ => Nat.zero_le _
  | p :: l, h => by
    have h1 := h p (by simp)
    have h2 := szL_le (l := l) (fun x hx => h x (by simp [hx]))
    rw [szL, List.length_cons, Nat.add_mul]
    omega
def capP : Nat → Nat
  | 0 => 0
  | d + 1 => 153 + 16 * capP d
theorem sz_cap : ∀ (d : Nat) {p : Pol} {s s' : Seen}, polS d p s = (0, s') → szP p ≤ capP d
  | 0, p, s, s', h => by simp [polS] at h
  | d + 1, p, s, s', h => by
    obtain ⟨_, _, h3, h4, h5, s1, s2, h6, h7⟩ := polE_parts h
    have e1 := ob_eight h3
    have e2 : obR p.rules ≤ p.rules.length * 8 := obR_le fun r hr => by
      obtain ⟨a, b, e⟩ := firsts_all h6 r hr
      exact ob_eight (rule_parts e).2.2
    have e3 : szL p.kids ≤ p.kids.length * capP d := szL_le fun k hk => by
      obtain ⟨a, b, e⟩ := firsts_all h7 k hk
      exact sz_cap d e
    have e4 : p.kids.length * capP d ≤ 16 * capP d := Nat.mul_le_mul_right _ h5
    rw [szP_eq, capP]
    omega
theorem right_sz {p : Pol} (h : rightE p = 0) : szP p ≤ 700000 := by
  have e0 : polS 4 p ⟨[], 0⟩ = (0, (polS 4 p ⟨[], 0⟩).2) := by unfold rightE at h; rw [← h]
  have := sz_cap 4 e0
  simp only [capP] at this
  omega
end Go.Proofs.YtmoglaknmlhpgaaGreat
/- append of many cells, one each, to a row of the call's own; what it leaves alone. -/
namespace Go.Proofs.YtmoglaknmlhpgaaGreat
set_option linter.unusedVariables false
open Go.RowKit

theorem append_cells {P : Program} {T E : TypeId} {i : TypeInfo} {z : Value} {by_ : Nat} (ht : P.underlying T = some (.slice E)) (hi : P.info? E = some i) (hz : i.zero = some z) (hz1 : z.oneCell' = true) (hs : i.size = 1) (hb : i.bytes = by_) (hby : by_ ≤ 1000)
    {w : World} {base B n c m c2 ty : Nat} {A A2 : Option Addr} {xs ys : List Value} (h : w.ownsRow base E 1 (.slice A n c) n xs) (hy : Sl w B A2 m c2 ys) (h1 : ∀ v ∈ ys, v.oneCell' = true)
    (hn : n + m ≤ 1000000) (hbase : base ≤ w.heap.size) :
    ∃ A' c' w', (Builtin.append_ #[T, T] ty #[.slice A n c, .slice A2 m c2]).run P w = .ok (.slice A' (n + m) c') w' ∧
      w'.ownsRow base E 1 (.slice A' (n + m) c') (n + m) (xs ++ ys) ∧ Below base w w' ∧ w.grownBy w' (Value.slice A n c).ownBlock ∧
      ((Value.slice A' (n + m) c').ownBlock = (Value.slice A n c).ownBlock ∨ (Value.slice A' (n + m) c').ownBlock = some w.heap.size) := by
  have hlen := hy.len
  have fin : ∀ (ad : Addr), A2 = some ad → (∀ j u, ys[j]? = some u → w.cell? (ad.add j) = some u) → ∃ A' c' w', (Builtin.append_ #[T, T] ty #[.slice A n c, .slice A2 m c2]).run P w = .ok (.slice A' (n + m) c') w' ∧
      w'.ownsRow base E 1 (.slice A' (n + m) c') (n + m) (xs ++ ys) ∧ Below base w w' ∧ w.grownBy w' (Value.slice A n c).ownBlock ∧
      ((Value.slice A' (n + m) c').ownBlock = (Value.slice A n c).ownBlock ∨ (Value.slice A' (n + m) c').ownBlock = some w.heap.size) := by
    rintro ad rfl hc
    have hb2 : (n + m) * by_ ≤ 1000000 * 1000 := Nat.mul_le_mul hn hby
    obtain ⟨v', w', hrun, h2, h3, h4, h5⟩ := run_append_own_at (P := P) w base T ty E i z 1 by_ ht hi hz hs hb (by cases z <;> first | rfl | cases hz1) (by omega) (.slice A n c) n xs h
      ad m c2 ys (by omega) hc h1 (by unfold maxLen; omega) (by omega) hbase
    have hform : ∃ A' c', v' = .slice A' (n + m) c' := by
      rcases h2.2 with ⟨hv, hz⟩ | ⟨g, cap, cur, hv, _⟩
      · exact ⟨_, _, by rw [hv, hz]⟩
      · exact ⟨_, _, hv⟩
    obtain ⟨A', c', rfl⟩ := hform
    exact ⟨A', c', w', hrun, h2, (Below.refl base w).grown h3 hbase (fun k hk => (h.lt k hk).1), h3, h5⟩
  rcases hy.2.2.2 with h0 | ⟨b, o, e, hb', hc⟩
  · subst h0
    obtain rfl : ys = [] := List.eq_nil_of_length_eq_zero hlen
    rcases A2 with _ | ad
    · exact ⟨A, c, w, append_nil_src ht hi h, by simpa using h, Below.refl _ _, ⟨rfl, rfl, rfl, Nat.le_refl _, fun _ _ _ => rfl⟩, .inl rfl⟩
    · exact fin ad rfl (fun j u hu => by simp at hu)
  · refine fin _ e fun j u hu => ?_
    have := hc j u hu
    by_cases hj : j = 0
    · subst hj; simpa [Addr.add] using this
    · simpa [Addr.add, hj] using this

theorem Sl.keep1 {w w' : World} {B n c : Nat} {A : Option Addr} {xs : List Value} (h : Sl w B A n c xs) (hk : ∀ ad, A = some ad → w'.heap[ad.block]? = w.heap[ad.block]?) : Sl w' B A n c xs := by
  obtain ⟨h1, h2, h3, h4⟩ := h
  refine ⟨h1, h2, h3, ?_⟩
  rcases h4 with h4 | ⟨b, o, e, hb, hc⟩
  · exact .inl h4
  · have hk' : w'.heap[b]? = w.heap[b]? := hk _ e
    exact .inr ⟨b, o, e, hb, fun j u hu => (World.cell?_of_block (a := ⟨b, o + j, none⟩) hk').trans (hc j u hu)⟩
theorem Sl.grown {w w' : World} {n c : Nat} {A : Option Addr} {xs : List Value} {v : Value} (h : Sl w w.heap.size A n c xs) (g : w.grownBy w' v.ownBlock) (hne : ∀ ad, A = some ad → v.ownBlock ≠ some ad.block) : Sl w' w'.heap.size A n c xs := by
  rcases Nat.eq_zero_or_pos n with h0 | h0
  · subst h0
    exact ⟨h.1, h.2.1, h.2.2.1, .inl rfl⟩
  · refine (h.keep1 fun ad e => g.block ad.block ?_ ?_).more g.size
    · obtain ⟨b, o, u, e', hb, _⟩ := h.at_ h0
      rw [e] at e'
      injection e' with e'
      subst e'
      exact hb
    · exact fun hh => hne ad e hh.symm
end Go.Proofs.YtmoglaknmlhpgaaGreat
/- Rows of marks of the call's own: append of many. -/
namespace Go.Proofs.YtmoglaknmlhpgaaGreat
set_option linter.unusedVariables false
open Go.RowKit

theorem append_marks {w : World} {base B n c m c2 ty : Nat} {A A2 : Option Addr} {xs ys : List Mk} (h : w.ownsRow base 31 1 (.slice A n c) n (mv xs)) (hy : Sl w B A2 m c2 (mv ys)) (hn : n + m ≤ 1000000) (hbase : base ≤ w.heap.size) :
    ∃ A' c' w', (Builtin.append_ #[134, 134] ty #[.slice A n c, .slice A2 m c2]).run Tryz.prog w = .ok (.slice A' (n + m) c') w' ∧
      w'.ownsRow base 31 1 (.slice A' (n + m) c') (n + m) (mv (xs ++ ys)) ∧ Below base w w' ∧ w.grownBy w' (Value.slice A n c).ownBlock ∧
      ((Value.slice A' (n + m) c').ownBlock = (Value.slice A n c).ownBlock ∨ (Value.slice A' (n + m) c').ownBlock = some w.heap.size) := by
  obtain ⟨i, hi, hz0, hz1, hz2⟩ := info_parts markinfo
  rw [mv_app]
  exact append_cells Tryz.underlying134 hi hz0 rfl hz1 hz2 (by decide) h hy one_mv hn hbase
theorem step_append_marks {ops : Array Oper} {o : Oper} {a : Act} {w : World} {K : Act → World → Prop} {Q : Exit → Act → World → Prop} {E : Prop}
    {base B n c m c2 : Nat} {A A2 : Option Addr} {xs ys : List Mk} (N : Nat) (zs : List Mk) (hown : w.ownsRow base 31 1 (.slice A n c) n (mv xs)) (hsrc : Sl w B A2 m c2 (mv ys)) (hN : n + m = N) (hz : xs ++ ys = zs) (hn : N ≤ 1000000) (hbase : base ≤ w.heap.size)
    (hg : o.guard = none) (s x : Operand) (hop : o.op = Op.call { callee := Callee.builtin Builtin.append, args := #[s, x], argTypes := #[134, 134] })
    (hs : a.eval s = .slice A n c) (hx : a.eval x = .slice A2 m c2)
    (hK : ∀ A' c' w', w'.ownsRow base 31 1 (.slice A' N c') N (mv zs) → Below base w w' → w.grownBy w' (Value.slice A n c).ownBlock → K (a.put o.dst (.slice A' N c')) w') :
    if Region.wanted o (yielded ops a.tmps) = true then Oper.wp Tryz.prog o a w K Q else E := by
  subst hN hz
  obtain ⟨A', c', w', hrun, h1, h2, h3, _⟩ := append_marks (ty := o.type) hown hsrc hn hbase
  exact step_append_run hg s x _ _ hop hs hx hrun (hK A' c' w' h1 h2 h3)
theorem own_m1 (w : World) : (w.alloc (.cells #[] 31)).ownsRow w.heap.size 31 1 (.slice (some ⟨w.heap.size, 0, none⟩) 0 0) 0 (mv []) :=
  World.ownsRow_lit w #[] 0 (Nat.le_refl _) (by simp [maxLen]) rfl
end Go.Proofs.YtmoglaknmlhpgaaGreat
/- Rows of the call's own whose elements lead to memory: append. -/
namespace Go.Proofs.YtmoglaknmlhpgaaGreat
set_option linter.unusedVariables false
open Go.RowKit

def Ow {α : Type} (k : Nat) (P : List Value → α → Prop) (w : World) (base : Nat) (E : TypeId) (A : Option Addr) (n c : Nat) (l : List α) : Prop :=
  ∃ raw : List (List Value), w.ownsRow base E k (.slice A n c) n raw.flatten ∧ raw.length = n ∧ l.length = n ∧ (∀ y ∈ raw, y.length = k) ∧ ∀ (j : Nat) (vs : List Value) (x : α), raw[j]? = some vs → l[j]? = some x → P vs x
section
variable {α : Type} {k : Nat} {P P' : List Value → α → Prop} {w w' : World} {base : Nat} {E : TypeId} {A : Option Addr} {n c : Nat} {l : List α}
theorem Ow.len (h : Ow k P w base E A n c l) : l.length = n := by obtain ⟨_, _, _, h, _⟩ := h; exact h
theorem Ow.made (k : Nat) (P : List Value → α → Prop) (w : World) (E : TypeId) : Ow k P (w.alloc (.cells #[] E)) w.heap.size E (some ⟨w.heap.size, 0, none⟩) 0 0 [] :=
  ⟨[], own_none w E k, rfl, rfl, by simp, by simp⟩
theorem Ow.nil (k : Nat) (P : List Value → α → Prop) (w : World) (base : Nat) (E : TypeId) : Ow k P w base E none 0 0 [] :=
  ⟨[], ⟨by simp, .inl ⟨rfl, rfl⟩⟩, rfl, rfl, by simp, by simp⟩
theorem Ow.mapP (h : Ow k P w base E A n c l) (hP : ∀ vs x, x ∈ l → P vs x → P' vs x) : Ow k P' w base E A n c l := by
  obtain ⟨raw, h1, h2, h3, h4, h5⟩ := h
  exact ⟨raw, h1, h2, h3, h4, fun j vs x a b => hP vs x (List.mem_of_getElem? b) (h5 j vs x a b)⟩
theorem Ow.grown (h : Ow k P w base E A n c l) {row : Option Nat} (hg : w.grownBy w' row) (hne : (Value.slice A n c).ownBlock = none ∨ (Value.slice A n c).ownBlock ≠ row) : Ow k P w' base E A n c l := by
  obtain ⟨raw, h1, h2, h3, h4, h5⟩ := h
  exact ⟨raw, h1.kept (row := row) hg hne, h2, h3, h4, h5⟩
theorem Ow.below (h : Ow k P w base E A n c l) (hb : Below w.heap.size w w') : Ow k P w' base E A n c l := by
  refine h.grown (row := none) ⟨hb.os, hb.tape, hb.output, hb.size, fun k hk _ => hb.block k hk⟩ ?_
  by_cases hv : (Value.slice A n c).ownBlock = none
  · exact .inl hv
  · exact .inr hv
theorem Ow.alloc (h : Ow k P w base E A n c l) (o : Obj) : Ow k P (w.alloc o) base E A n c l := h.below ((Below.refl _ _).alloc (Nat.le_refl _) _)
theorem Ow.rw {R : Nat → Prop} (h : Ow k P w base E A n c l) (hbig : n ≤ 140737488351232) (hR : ∀ ad, A = some ad → base ≤ ad.block → R ad.block) : Rw k P w R A n c l := by
  obtain ⟨raw, h1, h2, h3, h4, h5⟩ := h
  exact Rw.of_own h1 hbig h2 h3 h4 h5 hR
theorem Ow.app {Pg : Program} {T : TypeId} {i : TypeInfo} {z : Value} {by_ : Nat} (ht : Pg.underlying T = some (.slice E)) (hi : Pg.info? E = some i) (hz : i.zero = some z) (hs : i.size = k) (hb : i.bytes = by_) (hzs : z.cells.size = k) (hk : 0 < k) (hby : by_ ≤ 1000)
    {m c2 ty : Nat} {A2 : Option Addr} {R : Nat → Prop} {ys : List α} (h : Ow k P w base E A n c l) (hy : Rw k P w R A2 m c2 ys) (h1 : ∀ vs x, P vs x → ∀ v ∈ vs, v.oneCell' = true) (hn : n + m ≤ 1000000) (hbase : base ≤ w.heap.size) :
    ∃ A' c' w', (Builtin.append_ #[T, T] ty #[.slice A n c, .slice A2 m c2]).run Pg w = .ok (.slice A' (n + m) c') w' ∧ Ow k P w' base E A' (n + m) c' (l ++ ys) ∧ Below base w w' ∧ w.grownBy w' (Value.slice A n c).ownBlock ∧
      ((Value.slice A' (n + m) c').ownBlock = (Value.slice A n c).ownBlock ∨ (Value.slice A' (n + m) c').ownBlock = some w.heap.size) := by
  obtain ⟨raw, o1, o2, o3, o4, o5⟩ := h
  obtain ⟨raw2, r1, r2, r3, r4⟩ := hy.fl hk h1
  obtain ⟨A', c', w', hrun, hown, hbel, hg, ha⟩ := append_rows (ty := ty) (c2 := c2) ht hi hz hs hb hzs hk hby o1 r4 hn hbase
  refine ⟨A', c', w', hrun, ⟨raw ++ raw2, by rw [List.flatten_append]; exact hown, by rw [List.length_append, o2, r1], by rw [List.length_append, o3, hy.1], fun y hy => (List.mem_append.1 hy).elim (o4 y) (r2 y), fun j vs x a b => ?_⟩, hbel, hg, ha⟩
  by_cases hj : j < n
  · rw [List.getElem?_append_left (by omega)] at a b
    exact o5 j vs x a b
  · rw [List.getElem?_append_right (by omega)] at a b
    rw [o2] at a
    rw [o3] at b
    exact r3 (j - n) vs x a b
end

def AlP (w : World) (R : Nat → Prop) (vs : List Value) (l : List Mat) : Prop := ∃ A n c, vs = [.slice A n c] ∧ Ms w R A n c l
def AnP (w : World) (R : Nat → Prop) (vs : List Value) (l : List (List Mat)) : Prop := ∃ A n c, vs = [.slice A n c] ∧ Als w R A n c l
theorem AlP.one {w : World} {R : Nat → Prop} (vs : List Value) (l : List Mat) (h : AlP w R vs l) : ∀ v ∈ vs, v.oneCell' = true := by
  obtain ⟨A, n, c, rfl, _⟩ := h
  intro v hv
  simp at hv
  subst hv
  rfl
theorem AnP.one {w : World} {R : Nat → Prop} (vs : List Value) (l : List (List Mat)) (h : AnP w R vs l) : ∀ v ∈ vs, v.oneCell' = true := by
  obtain ⟨A, n, c, rfl, _⟩ := h
  intro v hv
  simp at hv
  subst hv
  rfl
theorem AnP.keep {w w' : World} {R R' : Nat → Prop} {vs : List Value} {l : List (List Mat)} (h : AnP w R vs l) (hk : Kept R w w') (hR : ∀ b, R b → b < w.heap.size → R' b) : AnP w' R' vs l := by
  obtain ⟨A, n, c, e, h⟩ := h
  exact ⟨A, n, c, e, h.keep hk hR⟩
theorem AlP.keep {w w' : World} {R R' : Nat → Prop} {vs : List Value} {l : List Mat} (h : AlP w R vs l) (hk : Kept R w w') (hR : ∀ b, R b → b < w.heap.size → R' b) : AlP w' R' vs l := by
  obtain ⟨A, n, c, e, h⟩ := h
  exact ⟨A, n, c, e, h.keep hk hR⟩
theorem s1info : (Tryz.prog.info? 66).map (fun i => (i.zero, i.size, i.bytes)) = some (some (.slice none 0 0), 1, 24) := by kernel_rfl
theorem s0info : (Tryz.prog.info? 65).map (fun i => (i.zero, i.size, i.bytes)) = some (some (.slice none 0 0), 1, 24) := by kernel_rfl
theorem append_anys {w : World} {base n c m c2 ty : Nat} {R R2 : Nat → Prop} {A A2 : Option Addr} {xs ys : Tgt} (h : Ow 1 (AnP w R2) w base 66 A n c xs) (hy : Rw 1 (AnP w R2) w R A2 m c2 ys) (hn : n + m ≤ 1000000) (hbase : base ≤ w.heap.size) :
    ∃ A' c' w', (Builtin.append_ #[23, 23] ty #[.slice A n c, .slice A2 m c2]).run Tryz.prog w = .ok (.slice A' (n + m) c') w' ∧ Ow 1 (AnP w R2) w' base 66 A' (n + m) c' (xs ++ ys) ∧ Below base w w' ∧ w.grownBy w' (Value.slice A n c).ownBlock ∧
      ((Value.slice A' (n + m) c').ownBlock = (Value.slice A n c).ownBlock ∨ (Value.slice A' (n + m) c').ownBlock = some w.heap.size) := by
  obtain ⟨i, hi, hz, hs, hb⟩ := info_of s1info
  exact Ow.app Tryz.underlying23 hi hz hs hb rfl (by omega) (by omega) h hy AnP.one hn hbase
theorem any_mono {w : World} {R : Nat → Prop} {A : Option Addr} {n c : Nat} {l : Tgt} (h : Tg w R A n c l) : Tg w (fun b => b < w.heap.size) A n c l := h.keep (Kept.refl _ _) fun _ _ h => h

theorem both_tg {w : World} {R : Nat → Prop} {A0 A1 : Option Addr} {p0 c0 p1 c1 q : Nat} {L0 L1 : Tgt} (h0 : Tg w R A0 p0 c0 L0) (h1 : Tg w R A1 p1 c1 L1) (h : p0 + p1 ≤ 1000000) (hq : q = p0 + p1) :
    ∃ A5 c5 w5 A6 c6 w6, (Builtin.append_ #[23, 23] 23 #[.slice (some ⟨w.heap.size, 0, none⟩) 0 0, .slice A0 p0 c0]).run Tryz.prog (w.alloc (.cells #[] 66)) = .ok (.slice A5 p0 c5) w5 ∧
      (Builtin.append_ #[23, 23] 23 #[.slice A5 p0 c5, .slice A1 p1 c1]).run Tryz.prog w5 = .ok (.slice A6 q c6) w6 ∧ Below w.heap.size w w6 ∧ Tg w6 (fun _ => True) A6 q c6 (L0 ++ L1) := by
  subst hq
  have e1 : Below w.heap.size w (w.alloc (.cells #[] 66)) := (Below.refl _ _).alloc (Nat.le_refl _) _
  have hlow0 := h0.keep (Kept.all e1 R) (fun b _ hb => hb) (R' := fun b => b < w.heap.size)
  obtain ⟨A5, c5, w5, r5, o5, b5, _, _⟩ := append_anys (ty := 23) (xs := []) (Ow.made 1 (AnP (w.alloc (.cells #[] 66)) (fun b => b < w.heap.size)) w 66) hlow0 (by omega) e1.size
  rw [Nat.zero_add] at r5 o5
  have e5 := e1.trans b5
  have o5' := o5.mapP (P' := AnP w5 (fun b => b < w.heap.size)) (fun vs x _ hp => hp.keep (Kept.below b5 (fun b hb _ => hb)) (fun b hb _ => hb))
  have hlow1 := h1.keep (Kept.all e5 R) (fun b _ hb => hb) (R' := fun b => b < w.heap.size)
  obtain ⟨A6, c6, w6, r6, o6, b6, _, _⟩ := append_anys (ty := 23) o5' hlow1 h e5.size
  refine ⟨A5, c5, w5, A6, c6, w6, r5, r6, e5.trans b6, ?_⟩
  exact (o6.mapP (P' := AnP w6 (fun _ => True)) (fun vs x _ hp => hp.keep (Kept.below b6 (fun b hb _ => hb)) (fun _ _ _ => trivial))).rw (by omega) (fun _ _ _ => trivial)
theorem hollow_tg {w : World} {R : Nat → Prop} {A0 : Option Addr} {p0 c0 : Nat} {L0 : Tgt} (h0 : Tg w R A0 p0 c0 L0) (h : p0 < 1000000) :
    ∃ A5 c5 w5 A6 c6 w6, (Builtin.append_ #[23, 23] 23 #[.slice (some ⟨w.heap.size, 0, none⟩) 0 0, .slice A0 p0 c0]).run Tryz.prog (w.alloc (.cells #[] 66)) = .ok (.slice A5 p0 c5) w5 ∧
      (Builtin.append_ #[23, 23] 23 #[.slice A5 p0 c5, .slice (some ⟨w5.heap.size, 0, none⟩) 1 1]).run Tryz.prog (w5.alloc (.cells #[.slice none 0 0] 66)) = .ok (.slice A6 (p0 + 1) c6) w6 ∧ Below w.heap.size w w6 ∧ Tg w6 (fun _ => True) A6 (p0 + 1) c6 (L0 ++ [[]]) := by
  have e1 : Below w.heap.size w (w.alloc (.cells #[] 66)) := (Below.refl _ _).alloc (Nat.le_refl _) _
  have hlow0 := h0.keep (Kept.all e1 R) (fun b _ hb => hb) (R' := fun b => b < w.heap.size)
  obtain ⟨A5, c5, w5, r5, o5, b5, _, _⟩ := append_anys (ty := 23) (xs := []) (Ow.made 1 (AnP (w.alloc (.cells #[] 66)) (fun b => b < w.heap.size)) w 66) hlow0 (by omega) e1.size
  rw [Nat.zero_add] at r5 o5
  have e5 := e1.trans b5
  have b7 : Below w5.heap.size w5 (w5.alloc (.cells #[.slice none 0 0] 66)) := (Below.refl _ _).alloc (Nat.le_refl _) _
  have o5' := (o5.mapP (P' := AnP (w5.alloc (.cells #[.slice none 0 0] 66)) (fun b => b < w.heap.size)) (fun vs x _ hp => hp.keep (Kept.below (b5.trans (b7.mono e5.size)) (fun b hb _ => hb)) (fun b hb _ => hb))).alloc (.cells #[.slice none 0 0] 66)
  have hlit : Rw 1 (AnP (w5.alloc (.cells #[.slice none 0 0] 66)) (fun b => b < w.heap.size)) (w5.alloc (.cells #[.slice none 0 0] 66)) (fun _ => True) (some ⟨w5.heap.size, 0, none⟩) 1 1 [[]] :=
    Rw.lit (k := 1) w5 66 (fun _ => [.slice none 0 0]) [[]] (n := 1) rfl (by omega) trivial (fun _ _ => rfl) (fun x hx => ⟨none, 0, 0, rfl, by simp at hx; subst hx; exact Rw.nil_ _ _ _ _⟩)
  obtain ⟨A6, c6, w6, r6, o6, b6, _, _⟩ := append_anys (ty := 23) o5' hlit (by omega) (e5.trans (b7.mono e5.size)).size
  refine ⟨A5, c5, w5, A6, c6, w6, r5, r6, (e5.trans (b7.mono e5.size)).trans b6, ?_⟩
  exact (o6.mapP (P' := AnP w6 (fun _ => True)) (fun vs x _ hp => hp.keep (Kept.below b6 (fun b hb _ => hb)) (fun _ _ _ => trivial))).rw (by omega) (fun _ _ _ => trivial)
end Go.Proofs.YtmoglaknmlhpgaaGreat
/- Rows of the call's own that grow by one, whose elements lead to memory apart from the row itself. -/
namespace Go.Proofs.YtmoglaknmlhpgaaGreat
set_option linter.unusedVariables false
open Go.RowKit

def Nb (base : Nat) (v : Value) (b : Nat) : Prop := base ≤ b ∧ some b ≠ v.ownBlock
def Keeps {α : Type} (P : World → (Nat → Prop) → List Value → α → Prop) : Prop :=
  ∀ (w w' : World) (R R' : Nat → Prop) vs x, P w R vs x → Kept R w w' → (∀ b, R b → b < w.heap.size → R' b) → P w' R' vs x
def Gr {α : Type} (k : Nat) (P : World → (Nat → Prop) → List Value → α → Prop) (w : World) (base : Nat) (E : TypeId) (A : Option Addr) (n c : Nat) (l : List α) : Prop :=
  Ow k (P w (Nb base (.slice A n c))) w base E A n c l ∧ base ≤ w.heap.size

section
variable {α : Type} {k : Nat} {P : World → (Nat → Prop) → List Value → α → Prop} {w w' : World} {base : Nat} {E : TypeId} {A : Option Addr} {n c : Nat} {l : List α}
theorem Ow.lt {P : List Value → α → Prop} (h : Ow k P w base E A n c l) : ∀ b, (Value.slice A n c).ownBlock = some b → base ≤ b ∧ b < w.heap.size := by
  obtain ⟨raw, h1, _⟩ := h
  exact h1.lt
theorem Gr.nil (w : World) (base : Nat) (hb : base ≤ w.heap.size) : Gr k P w base E none 0 0 [] := ⟨Ow.nil _ _ _ _ _, hb⟩
theorem Gr.len (h : Gr k P w base E A n c l) : l.length = n := h.1.len
theorem Gr.below (hP : Keeps P) (h : Gr k P w base E A n c l) (hb : Below w.heap.size w w') : Gr k P w' base E A n c l :=
  ⟨(h.1.mapP (fun vs x _ hp => hP _ _ _ _ vs x hp (Kept.all hb _) (fun _ h _ => h))).below hb, Nat.le_trans h.2 hb.size⟩
theorem Gr.rw (hP : Keeps P) (h : Gr k P w base E A n c l) (hbig : n ≤ 140737488351232) : Rw k (P w (fun b => base ≤ b)) w (fun b => base ≤ b) A n c l :=
  (h.1.mapP (fun vs x _ hp => hP _ _ _ (fun b => base ≤ b) vs x hp (Kept.refl _ _) (fun _ h _ => h.1))).rw hbig (fun _ _ h => h)
theorem Gr.push {Pg : Program} {T : TypeId} {i : TypeInfo} {z : Value} {by_ : Nat} (ht : Pg.underlying T = some (.slice E)) (hi : Pg.info? E = some i) (hz : i.zero = some z) (hs : i.size = k) (hb : i.bytes = by_) (hzs : z.cells.size = k) (hk : 0 < k) (hby : by_ ≤ 1000)
    {ty : Nat} {vs : List Value} {x : α} (hP : Keeps P) (h : Gr k P w base E A n c l) (hx : P w (Nb base (.slice A n c)) vs x) (hl : vs.length = k) (h1 : ∀ w R vs (x : α), P w R vs x → ∀ v ∈ vs, v.oneCell' = true) (hn : n < 1000000) :
    ∃ A' c' w', (Builtin.append_ #[T, T] ty #[.slice A n c, .slice (some ⟨w.heap.size, 0, none⟩) 1 1]).run Pg (w.alloc (.cells vs.toArray E)) = .ok (.slice A' (n + 1) c') w' ∧ Gr k P w' base E A' (n + 1) c' (l ++ [x]) ∧ Below base w w' := by
  have hbase := h.2
  have a1 : Below w.heap.size w (w.alloc (.cells vs.toArray E)) := (Below.refl _ _).alloc (Nat.le_refl _) _
  have h' := Gr.below hP h a1
  have hlit : Rw k (P (w.alloc (.cells vs.toArray E)) (Nb base (.slice A n c))) (w.alloc (.cells vs.toArray E)) (fun _ => True) (some ⟨w.heap.size, 0, none⟩) 1 1 [x] := by
    have := Rw.lit (P := P (w.alloc (.cells vs.toArray E)) (Nb base (.slice A n c))) (R := fun _ => True) w E (fun _ => vs) [x] (n := 1) rfl (by omega) trivial (fun _ _ => hl) (fun y hy => by simp at hy; subst hy; exact hP _ _ _ _ _ _ hx (Kept.all a1 _) (fun _ h _ => h))
    simpa using this
  obtain ⟨A', c', w', hrun, hown, hbel, hg, hob⟩ := Ow.app (ty := ty) ht hi hz hs hb hzs hk hby h'.1 hlit (h1 _ _) (by omega) h'.2
  refine ⟨A', c', w', hrun, ⟨hown.mapP fun vs x _ hp => hP _ _ _ _ vs x hp ⟨hg.size, fun b hR hlt => hg.block b hlt hR.2⟩ (fun b hR hlt => ⟨hR.1, ?_⟩), Nat.le_trans h'.2 hbel.size⟩, (a1.mono hbase).trans hbel⟩
  rcases hob with e | e
  · rw [e]; exact hR.2
  · rw [e]
    intro he
    injection he with he
    omega
end
theorem keeps_alp : Keeps AlP := fun _ _ _ _ _ _ h hk hR => h.keep hk hR
theorem keeps_anp : Keeps AnP := fun _ _ _ _ _ _ h hk hR => h.keep hk hR
theorem keeps_rul : Keeps RulAt := fun _ _ _ _ _ _ h hk hR => h.keep hk hR
theorem keeps_pol (d : Nat) : Keeps (fun w R => PolAt w R d) := fun _ _ _ _ _ _ h hk hR => PolAt.keep hk hR h
theorem matinfo : (Tryz.prog.info? 64).map (fun i => (i.zero, i.size, i.bytes)) = some (some (.agg #[.int .i64 0, .string ⟨#[]⟩, .bool false, .int .i64 0, .int .i64 0, .int .i64 0, .string ⟨#[]⟩]), 7, 72) := by kernel_rfl
theorem copy_mats {w : World} {R : Nat → Prop} {A0 : Option Addr} {p0 c0 : Nat} {L0 : List Mat} (h0 : Ms w R A0 p0 c0 L0) (h : p0 ≤ 1000000) :
    ∃ A5 c5 w5, (Builtin.append_ #[65, 65] 65 #[.slice (some ⟨w.heap.size, 0, none⟩) 0 0, .slice A0 p0 c0]).run Tryz.prog (w.alloc (.cells #[] 64)) = .ok (.slice A5 p0 c5) w5 ∧ Below w.heap.size w w5 ∧ Ms w5 (fun b => w.heap.size ≤ b) A5 p0 c5 L0 := by
  have e1 : Below w.heap.size w (w.alloc (.cells #[] 64)) := (Below.refl _ _).alloc (Nat.le_refl _) _
  obtain ⟨i, hi, hz, hs, hb⟩ := info_of matinfo
  obtain ⟨A5, c5, w5, r5, o5, b5, _, _⟩ := append_rows (ty := 65) (c2 := c0) (m := p0) Tryz.underlying65 hi hz hs hb rfl (by omega) (by omega) (own_none w 64 7) (Ms.fl (h0.keep (Kept.all e1 R) (fun _ h _ => h))) (by omega) e1.size
  rw [Nat.zero_add] at r5 o5
  refine ⟨A5, c5, w5, r5, e1.trans b5, ?_⟩
  exact Rw.flat_own o5 (by omega) (Rw.len h0) (fun _ => rfl) (Rw.all h0) (fun _ _ h => h)
theorem copy_duts {w : World} {R : Nat → Prop} {A0 : Option Addr} {p0 c0 : Nat} {L0 : List Dut} (h0 : Dus w R A0 p0 c0 L0) (h : p0 ≤ 1000000) :
    ∃ A5 c5 w5, (Builtin.append_ #[26, 26] 26 #[.slice (some ⟨w.heap.size, 0, none⟩) 0 0, .slice A0 p0 c0]).run Tryz.prog (w.alloc (.cells #[] 42)) = .ok (.slice A5 p0 c5) w5 ∧ Below w.heap.size w w5 ∧ Dus w5 (fun b => w.heap.size ≤ b) A5 p0 c5 L0 := by
  have e1 : Below w.heap.size w (w.alloc (.cells #[] 42)) := (Below.refl _ _).alloc (Nat.le_refl _) _
  obtain ⟨A5, c5, w5, r5, o5, b5, _, _⟩ := append_duts (ty := 26) (xs := []) (own_none w 42 3) (h0.keep (Kept.all e1 R) (fun _ h _ => h)) (by omega) e1.size
  rw [Nat.zero_add] at r5 o5
  refine ⟨A5, c5, w5, r5, e1.trans b5, ?_⟩
  exact Rw.flat_own o5 (by omega) (Rw.len h0) (fun _ => rfl) (Rw.all h0) (fun _ _ h => h)
theorem copy_nods {w : World} {R : Nat → Prop} {A0 : Option Addr} {p0 c0 : Nat} {L0 : List Nod} (h0 : Nds w R A0 p0 c0 L0) (h : p0 ≤ 1000000) :
    ∃ A5 c5 w5, (Builtin.append_ #[54, 54] 54 #[.slice (some ⟨w.heap.size, 0, none⟩) 0 0, .slice A0 p0 c0]).run Tryz.prog (w.alloc (.cells #[] 58)) = .ok (.slice A5 p0 c5) w5 ∧ Below w.heap.size w w5 ∧ Nds w5 (fun b => w.heap.size ≤ b) A5 p0 c5 L0 := by
  have e1 : Below w.heap.size w (w.alloc (.cells #[] 58)) := (Below.refl _ _).alloc (Nat.le_refl _) _
  obtain ⟨A5, c5, w5, r5, o5, b5, _, _⟩ := append_nods (ty := 54) (xs := []) (own_none w 58 7) (h0.keep (Kept.all e1 R) (fun _ h _ => h)) (by omega) e1.size
  rw [Nat.zero_add] at r5 o5
  refine ⟨A5, c5, w5, r5, e1.trans b5, ?_⟩
  exact Rw.flat_own o5 (by omega) (Rw.len h0) (fun _ => rfl) (Rw.all h0) (fun _ _ h => h)
theorem push_all {w : World} {base n c : Nat} {A : Option Addr} {l : List (List Mat)} {A1 : Option Addr} {n1 c1 : Nat} {x : List Mat} (h : Gr 1 AlP w base 65 A n c l) (hx : Ms w (Nb base (.slice A n c)) A1 n1 c1 x) (hn : n < 1000000) :
    ∃ A' c' w', (Builtin.append_ #[66, 66] 66 #[.slice A n c, .slice (some ⟨w.heap.size, 0, none⟩) 1 1]).run Tryz.prog (w.alloc (.cells #[.slice A1 n1 c1] 65)) = .ok (.slice A' (n + 1) c') w' ∧ Gr 1 AlP w' base 65 A' (n + 1) c' (l ++ [x]) ∧ Below base w w' := by
  obtain ⟨i, hi, hz, hs, hb⟩ := info_of s0info
  exact Gr.push (vs := [.slice A1 n1 c1]) (x := x) Tryz.underlying66 hi hz hs hb rfl (by omega) (by omega) keeps_alp h ⟨A1, n1, c1, rfl, hx⟩ rfl (fun _ _ _ _ => AlP.one _ _) hn
theorem push_any {w : World} {base n c : Nat} {A : Option Addr} {l : Tgt} {A1 : Option Addr} {n1 c1 : Nat} {x : List (List Mat)} (h : Gr 1 AnP w base 66 A n c l) (hx : Als w (Nb base (.slice A n c)) A1 n1 c1 x) (hn : n < 1000000) :
    ∃ A' c' w', (Builtin.append_ #[23, 23] 23 #[.slice A n c, .slice (some ⟨w.heap.size, 0, none⟩) 1 1]).run Tryz.prog (w.alloc (.cells #[.slice A1 n1 c1] 66)) = .ok (.slice A' (n + 1) c') w' ∧ Gr 1 AnP w' base 66 A' (n + 1) c' (l ++ [x]) ∧ Below base w w' := by
  obtain ⟨i, hi, hz, hs, hb⟩ := info_of s1info
  exact Gr.push (vs := [.slice A1 n1 c1]) (x := x) Tryz.underlying23 hi hz hs hb rfl (by omega) (by omega) keeps_anp h ⟨A1, n1, c1, rfl, hx⟩ rfl (fun _ _ _ _ => AnP.one _ _) hn
theorem Gr.apart {α : Type} {k : Nat} {P : World → (Nat → Prop) → List Value → α → Prop} {w : World} {base : Nat} {E : TypeId} {A : Option Addr} {n c : Nat} {l : List α} (h : Gr k P w base E A n c l) : ∀ b, w.heap.size ≤ b → Nb base (.slice A n c) b := fun b hb => by
  refine ⟨Nat.le_trans h.2 hb, fun e => ?_⟩
  have := (h.1.lt b e.symm).2
  omega
theorem own_ob {V : World} {E : TypeId} {k g base : Nat} (h : Ob V g E #[]) (hb : base ≤ g) : V.ownsRow base E k (.slice (some ⟨g, 0, none⟩) 0 0) 0 [] :=
  ⟨by simp, .inr ⟨g, 0, #[], rfl, hb, h, Nat.le_refl _, by simp [maxLen], by simp, by simp⟩⟩
theorem copy_duts_at {V : World} {R : Nat → Prop} {A0 : Option Addr} {p0 c0 g : Nat} {L0 : List Dut} (hg : Ob V g 42 #[]) (h0 : Dus V R A0 p0 c0 L0) (h : p0 ≤ 1000000) (hlt : g ≤ V.heap.size) :
    ∃ A5 c5 w5, (Builtin.append_ #[26, 26] 26 #[.slice (some ⟨g, 0, none⟩) 0 0, .slice A0 p0 c0]).run Tryz.prog V = .ok (.slice A5 p0 c5) w5 ∧ Below g V w5 ∧ Dus w5 (fun b => b = g ∨ b = V.heap.size) A5 p0 c5 L0 ∧ Kept (fun b => b ≠ g) V w5 := by
  obtain ⟨A5, c5, w5, r5, o5, b5, g5, t5⟩ := append_duts (ty := 26) (xs := []) (own_ob hg (Nat.le_refl g)) h0 (by omega) hlt
  rw [Nat.zero_add] at r5 o5
  exact ⟨A5, c5, w5, r5, b5, Rw.flat_own o5 (by omega) (Rw.len h0) (fun _ => rfl) (Rw.all h0) (fun ad e _ => by subst e; exact t5.elim (fun h => .inl (by injection h)) (fun h => .inr (by injection h))), g5.size, fun b hb hlt => g5.block b hlt (fun e => hb (by injection e))⟩
theorem copy_nods_at {V : World} {R : Nat → Prop} {A0 : Option Addr} {p0 c0 g : Nat} {L0 : List Nod} (hg : Ob V g 58 #[]) (h0 : Nds V R A0 p0 c0 L0) (h : p0 ≤ 1000000) (hlt : g ≤ V.heap.size) :
    ∃ A5 c5 w5, (Builtin.append_ #[54, 54] 54 #[.slice (some ⟨g, 0, none⟩) 0 0, .slice A0 p0 c0]).run Tryz.prog V = .ok (.slice A5 p0 c5) w5 ∧ Below g V w5 ∧ Nds w5 (fun b => b = g ∨ b = V.heap.size) A5 p0 c5 L0 ∧ Kept (fun b => b ≠ g) V w5 := by
  obtain ⟨A5, c5, w5, r5, o5, b5, g5, t5⟩ := append_nods (ty := 54) (xs := []) (own_ob hg (Nat.le_refl g)) h0 (by omega) hlt
  rw [Nat.zero_add] at r5 o5
  exact ⟨A5, c5, w5, r5, b5, Rw.flat_own o5 (by omega) (Rw.len h0) (fun _ => rfl) (Rw.all h0) (fun ad e _ => by subst e; exact t5.elim (fun h => .inl (by injection h)) (fun h => .inr (by injection h))), g5.size, fun b hb hlt => g5.block b hlt (fun e => hb (by injection e))⟩
end Go.Proofs.YtmoglaknmlhpgaaGreat
/- Decisions in memory: rows of duties of the call's own, rows of results. -/
namespace Go.Proofs.YtmoglaknmlhpgaaGreat
set_option linter.unusedVariables false
open Go.RowKit

def OwD (w : World) (base : Nat) (A : Option Addr) (n c : Nat) (l : List Dut) : Prop :=
  w.ownsRow base 42 3 (.slice A n c) n (l.flatMap Dut.cells) ∧ l.length = n ∧ (∀ x ∈ l, x.ok) ∧ base ≤ w.heap.size
section
variable {w w' : World} {base n c : Nat} {A : Option Addr} {l : List Dut}
theorem OwD.nil (w : World) (base : Nat) (hb : base ≤ w.heap.size) : OwD w base none 0 0 [] := ⟨⟨by simp, .inl ⟨rfl, rfl⟩⟩, rfl, by simp, hb⟩
theorem OwD.below (h : OwD w base A n c l) (hb : Below w.heap.size w w') : OwD w' base A n c l :=
  ⟨h.1.kept (row := none) ⟨hb.os, hb.tape, hb.output, hb.size, fun k hk _ => hb.block k hk⟩ (by
    by_cases hv : (Value.slice A n c).ownBlock = none
    · exact .inl hv
    · exact .inr hv), h.2.1, h.2.2.1, Nat.le_trans h.2.2.2 hb.size⟩
theorem OwD.dus (h : OwD w base A n c l) (hn : n ≤ 1000000) : Dus w (fun b => base ≤ b) A n c l := Rw.flat_own h.1 (by omega) h.2.1 (fun _ => rfl) h.2.2.1 (fun _ _ h => h)
theorem OwD.app {m c2 : Nat} {R : Nat → Prop} {A2 : Option Addr} {ys : List Dut} (h : OwD w base A n c l) (hy : Dus w R A2 m c2 ys) (hn : n + m ≤ 1000000) (ty : Nat) :
    ∃ A' c' w', (Builtin.append_ #[26, 26] ty #[.slice A n c, .slice A2 m c2]).run Tryz.prog w = .ok (.slice A' (n + m) c') w' ∧ OwD w' base A' (n + m) c' (l ++ ys) ∧ Below base w w' := by
  obtain ⟨A', c', w', r, o, b, _, _⟩ := append_duts (ty := ty) h.1 hy hn h.2.2.2
  exact ⟨A', c', w', r, ⟨o, by rw [List.length_append, h.2.1, Rw.len hy], fun x hx => (List.mem_append.1 hx).elim (h.2.2.1 x) (Rw.all hy x), Nat.le_trans h.2.2.2 b.size⟩, b⟩
theorem OwD.push {x : Dut} (h : OwD w base A n c l) (hx : x.ok) (hn : n < 1000000) (ty : Nat) :
    ∃ A' c' w', (Builtin.append_ #[26, 26] ty #[.slice A n c, .slice (some ⟨w.heap.size, 0, none⟩) 1 1]).run Tryz.prog (w.alloc (.cells #[.int .i64 x.on, .int .i64 x.kind, .string x.arg] 42)) = .ok (.slice A' (n + 1) c') w' ∧ OwD w' base A' (n + 1) c' (l ++ [x]) ∧ Below base w w' := by
  have a1 : Below w.heap.size w (w.alloc (.cells #[.int .i64 x.on, .int .i64 x.kind, .string x.arg] 42)) := (Below.refl _ _).alloc (Nat.le_refl _) _
  have hl := Dus.lit w (R := fun _ => True) [x] (n := 1) rfl (by omega) trivial (fun y hy => by simp at hy; subst hy; exact hx)
  obtain ⟨A', c', w', r, o, b⟩ := (h.below a1).app (show Dus (w.alloc (.cells #[.int .i64 x.on, .int .i64 x.kind, .string x.arg] 42)) (fun _ => True) (some ⟨w.heap.size, 0, none⟩) 1 1 [x] by simpa [Dut.cells] using hl) (by omega) ty
  exact ⟨A', c', w', r, o, (a1.mono h.2.2.2).trans b⟩
end

def ResAt (w : World) (R : Nat → Prop) (vs : List Value) (r : Res) : Prop := ∃ A n c, vs = [mcell r.m, .slice A n c] ∧ Dus w R A n c r.ob
def Rss (w : World) (R : Nat → Prop) := Rw 2 (ResAt w R) w R
section
variable {w w' : World} {R R' : Nat → Prop} {A : Option Addr} {n c : Nat}
theorem ResAt.keep {vs : List Value} {r : Res} (h : ResAt w R vs r) (hk : Kept R w w') (hR : ∀ b, R b → b < w.heap.size → R' b) : ResAt w' R' vs r := by
  obtain ⟨A, n, c, e, h1⟩ := h
  exact ⟨A, n, c, e, h1.keep hk hR⟩
theorem keeps_res : Keeps ResAt := fun _ _ _ _ _ _ h hk hR => h.keep hk hR
theorem Rss.keep {l : List Res} (h : Rss w R A n c l) (hk : Kept R w w') (hR : ∀ b, R b → b < w.heap.size → R' b) : Rss w' R' A n c l := Rw.keep h hk hR fun _ _ _ h => h.keep hk hR
theorem ResAt.one {w : World} {R : Nat → Prop} (vs : List Value) (r : Res) (h : ResAt w R vs r) : ∀ v ∈ vs, v.oneCell' = true := by
  obtain ⟨A, n, c, rfl, _⟩ := h
  intro v hv
  simp at hv
  rcases hv with rfl | rfl <;> rfl
theorem Rss.at_ {l : List Res} (h : Rss w R A n c l) {j : Nat} (hj : j < n) : ∃ b o r A' n' c', A = some ⟨b, o, none⟩ ∧ R b ∧ b < w.heap.size ∧ l[j]? = some r ∧
    (w.cell? ⟨b, o + j * 2, none⟩ = some (.complex .f64 (fl r.m.1) (fl r.m.2)) ∧ w.cell? ⟨b, o + j * 2 + 1, none⟩ = some (.slice A' n' c')) ∧ Dus w R A' n' c' r.ob := by
  obtain ⟨b, o, g, vs, e, hb, hlt, hm, hl, hv, A', n', c', rfl, hin⟩ := Rw.at_ h hj
  exact ⟨b, o, g, A', n', c', e, hb, hlt, hm, ⟨hv 0 _ rfl, hv 1 _ rfl⟩, hin⟩
end
theorem resinfo : (Tryz.prog.info? 33).map (fun i => (i.zero, i.size, i.bytes)) = some (some (.agg #[.complex .f64 0 0, .slice none 0 0]), 2, 40) := by kernel_rfl
theorem push_res {w : World} {base n c : Nat} {A : Option Addr} {l : List Res} {A1 : Option Addr} {n1 c1 : Nat} {r : Res} (h : Gr 2 ResAt w base 33 A n c l) (hx : Dus w (Nb base (.slice A n c)) A1 n1 c1 r.ob) (hn : n < 1000000) :
    ∃ A' c' w', (Builtin.append_ #[102, 102] 102 #[.slice A n c, .slice (some ⟨w.heap.size, 0, none⟩) 1 1]).run Tryz.prog (w.alloc (.cells #[.complex .f64 (fl r.m.1) (fl r.m.2), .slice A1 n1 c1] 33)) = .ok (.slice A' (n + 1) c') w' ∧ Gr 2 ResAt w' base 33 A' (n + 1) c' (l ++ [r]) ∧ Below base w w' := by
  obtain ⟨i, hi, hz, hs, hb⟩ := info_of resinfo
  exact Gr.push (vs := [mcell r.m, .slice A1 n1 c1]) (x := r) Tryz.underlying102 hi hz hs hb rfl (by omega) (by omega) keeps_res h ⟨A1, n1, c1, rfl, hx⟩ rfl (fun _ _ _ _ => ResAt.one _ _) hn

def OwM (w : World) (base : Nat) (A : Option Addr) (n c : Nat) (l : List Mk) : Prop := w.ownsRow base 31 1 (.slice A n c) n (mv l) ∧ l.length = n ∧ base ≤ w.heap.size
theorem OwM.nil (w : World) (base : Nat) (hb : base ≤ w.heap.size) : OwM w base none 0 0 [] := ⟨⟨by simp [mv], .inl ⟨rfl, rfl⟩⟩, rfl, hb⟩
theorem OwM.below {w w' : World} {base n c : Nat} {A : Option Addr} {l : List Mk} (h : OwM w base A n c l) (hb : Below w.heap.size w w') : OwM w' base A n c l :=
  ⟨h.1.kept (row := none) ⟨hb.os, hb.tape, hb.output, hb.size, fun k hk _ => hb.block k hk⟩ (by
    by_cases hv : (Value.slice A n c).ownBlock = none
    · exact .inl hv
    · exact .inr hv), h.2.1, Nat.le_trans h.2.2 hb.size⟩
theorem OwM.sl {w : World} {base n c : Nat} {A : Option Addr} {l : List Mk} (h : OwM w base A n c l) : Sl w w.heap.size A n c (mv l) := Sl.of_own h.1
theorem OwM.push {w : World} {base n c : Nat} {A : Option Addr} {l : List Mk} {m : Mk} (h : OwM w base A n c l) (hn : n < 1000000) (ty : Nat) :
    ∃ A' c' w', (Builtin.append_ #[134, 134] ty #[.slice A n c, .slice (some ⟨w.heap.size, 0, none⟩) 1 1]).run Tryz.prog (w.alloc (.cells #[.complex .f64 (fl m.1) (fl m.2)] 31)) = .ok (.slice A' (n + 1) c') w' ∧ OwM w' base A' (n + 1) c' (l ++ [m]) ∧ Below base w w' := by
  have a1 : Below w.heap.size w (w.alloc (.cells #[.complex .f64 (fl m.1) (fl m.2)] 31)) := (Below.refl _ _).alloc (Nat.le_refl _) _
  have h' := h.below a1
  have hs : Sl (w.alloc (.cells #[.complex .f64 (fl m.1) (fl m.2)] 31)) (w.heap.size + 1) (some ⟨w.heap.size, 0, none⟩) 1 1 (mv [m]) := Sl.lit w 31 (mv [m]) 1 rfl (by unfold maxLen; omega)
  obtain ⟨A', c', w', r, o, b, _, _⟩ := append_marks (ty := ty) h'.1 hs (by omega) h'.2.2
  exact ⟨A', c', w', r, ⟨o, by rw [List.length_append, h.2.1]; rfl, Nat.le_trans h'.2.2 b.size⟩, (a1.mono h.2.2).trans b⟩
end Go.Proofs.YtmoglaknmlhpgaaGreat
/- Rows of bytes in new memory: what a byte's type is, and make. -/
namespace Go.Proofs.YtmoglaknmlhpgaaGreat
open Go.RowKit

theorem u8info : (Tryz.prog.info? 5).map (fun i => (i.zero, i.size, i.bytes)) = some (some (.int .u8 0), 1, 1) := by kernel_rfl

end Go.Proofs.YtmoglaknmlhpgaaGreat
/- strings.Clone. -/
namespace Go.Proofs.YtmoglaknmlhpgaaGreat
set_option linter.unusedVariables false
open Go.RowKit

set_option maxRecDepth 10000 in
set_option maxHeartbeats 4000000 in
theorem slclone_any (s : ByteArray) (w : World) (hlim : s.size ≤ 1000000) :
    Calls Tryz.prog 109 #[.string s] w fun e w' => e = .returned (.string s) ∧ Below w.heap.size w w' := by
  by_cases h0 : s.size = 0
  · have hs : s = ⟨#[]⟩ := by
      apply ByteArray.ext
      exact Array.eq_empty_of_size_eq_zero h0
    subst hs
    clear h0 hlim
    go_enter Tryz.func109, Tryz.ntmps109
    go_wp2_with fail
    go_ret
    exact ⟨rfl, Below.refl _ _⟩
  · obtain ⟨i0, hi, hz0, hz1, hz2⟩ := info_parts u8info
    have hinfo : (Tryz.prog.info? 5).map (·.size) = some 1 := by rw [hi]; simp [hz1]
    have hco : Tryz.prog.cellsOf 5 = 1 := by simp [Program.cellsOf, hi, hz1]
    obtain ⟨M, hM⟩ : ∃ M, M = madeCells (Value.int .u8 0).cells (((s.size : Nat) : Int).toNat * i0.size) := ⟨_, rfl⟩
    have hMs : M.size = s.size := by rw [hM, size_madeCells, hz1]; simp
    have hmk : ∀ W : World, (Instr.makeSlice 152 (.int .i64 (s.size : Int)) (.int .i64 (s.size : Int))).run Tryz.prog W = .ok (.slice (some ⟨W.heap.size, 0, none⟩) s.size s.size) (W.alloc (.cells M 5)) := fun W => by
      have h := run_make (P := Tryz.prog) W 152 5 i0 (.int .u8 0) Tryz.underlying152 hi hz0 .i64 .i64 (s.size : Int) (s.size : Int) (by omega) (by omega) (by rw [hz2]; omega) (by omega)
      rw [← hM] at h
      simpa using h
    clear hM
    have hcp := Lib.run_copy_row_string (P := Tryz.prog) (w.alloc (.cells M 5)) 152 9 3 5 w.heap.size 0 s.size s.size s M 5 Tryz.underlying152 hinfo (heap_alloc_new w _) (Nat.le_refl _) (by omega)
    obtain ⟨Y, hY⟩ : ∃ Y, Y = (M.toList.take 0 ++ Lib.byteCells s.data.toList ++ M.toList.drop (0 + s.size)).toArray := ⟨_, rfl⟩
    rw [← hY] at hcp
    have hYl : Y.toList = Lib.byteCells s.data.toList := by
      rw [hY, List.toList_toArray, List.take_zero, List.nil_append, List.drop_of_length_le (by rw [Array.length_toList]; omega), List.append_nil]
    have hYs : Y.size = s.size := by rw [← Array.length_toList, hYl, Lib.byteCells_length, ← Lib.size_eq]
    have hgY : ((w.alloc (.cells M 5)).setRow w.heap.size Y).heap[w.heap.size]? = some (.cells Y 5 (0, 0)) := setRow_heap _ _ M _ 5 (0, 0) (heap_alloc_new w _)
    have hne : s.data.toList ≠ [] := fun e => h0 (by rw [Lib.size_eq, e]; rfl)
    have hUS := Lib.run_unsafeString_row (P := Tryz.prog) ((w.alloc (.cells M 5)).setRow w.heap.size Y) 200 3 9 5 Tryz.underlying200 hco w.heap.size Y.size (by unfold World.shape?; rw [hgY]) s.data.toList hne (by rw [← Lib.size_eq]; omega) (by rw [← Lib.size_eq]; omega)
      (fun j x hx => Lib.cells_of_row hgY Y.size j _ (by rw [List.take_of_length_le (by rw [Array.length_toList]; exact Nat.le_refl _), hYl]; simp [Lib.byteCells, hx]))
    rw [← Lib.size_eq] at hUS
    have H0 := Lib.hid hYl
    have H1 := Lib.hid hne
    have H2 := Lib.hid hgY
    clear hY hYl hne hgY hco hinfo hi hz0 hz1 hz2
    go_enter Tryz.func109, Tryz.ntmps109
    go_wp2_with fail
    go_ret
    have hb1 : Below w.heap.size w (w.alloc (.cells M 5)) := (Below.refl _ w).alloc (Nat.le_refl _) _
    have hb2 : Below w.heap.size (w.alloc (.cells M 5)) ((w.alloc (.cells M 5)).setRow w.heap.size Y) := ⟨rfl, rfl, rfl, by simp, fun k hk => setRow_other _ _ _ _ (by omega)⟩
    exact ⟨rfl, Lib.below_freeze (hb1.trans hb2) (p := ⟨w.heap.size, 0, none⟩) (Nat.le_refl _) _⟩

set_option maxHeartbeats 800000 in
theorem clone_any (s : ByteArray) (w : World) (hlim : s.size ≤ 1000000) :
    Calls Tryz.prog 82 #[.string s] w fun e w' => e = .returned (.string s) ∧ Below w.heap.size w w' := by
  have H := Lib.hid (slclone_any s w hlim)
  clear hlim
  go_enter Tryz.func82, Tryz.ntmps82
  go_wp2_with (go_at_call 109; refine H.out.mono ?_; rintro e w' ⟨rfl, hb⟩)
  go_ret
  exact ⟨rfl, hb⟩
end Go.Proofs.YtmoglaknmlhpgaaGreat
/- Package eval: on, Duties. -/
namespace Go.Proofs.YtmoglaknmlhpgaaGreat
set_option linter.unusedVariables false
open Go.RowKit
attribute [local go_sem] eq0 feq2 eq4 fgt0 gt2 ord_eq ord_gt ord_lt

theorem filter_step {l : List Dut} {k : Nat} {x : Dut} (f : Dut → Bool) (h : l[k]? = some x) : (l.take (k + 1)).filter f = (l.take k).filter f ++ if f x = true then [x] else [] := by
  obtain ⟨hk, e⟩ := List.getElem?_eq_some_iff.1 h
  rw [List.take_succ_eq_append_getElem hk, e, List.filter_append]
  congr 1
  by_cases hf : f x = true
  · rw [if_pos hf, List.filter_cons_of_pos hf]; rfl
  · rw [if_neg hf, List.filter_cons_of_neg hf]; rfl
set_option maxRecDepth 100000 in
set_option maxHeartbeats 1600000 in
theorem on_any {w : World} {R : Nat → Prop} {A : Option Addr} {n c : Nat} {l : List Dut} (d : Int) (h : Dus w R A n c l) (hs : ∀ o ∈ l, o.arg.size ≤ 1000000) (hn : n ≤ 500000) :
    Calls Tryz.prog 49 #[.slice A n c, .int .i64 d] w fun e w' => ∃ A' n' c', e = .returned (.slice A' n' c') ∧ Below w.heap.size w w' ∧ OwD w' w.heap.size A' n' c' (l.filter (fun o => decide (o.on = d))) := by
  have hle := Rw.le h
  have hcap := Rw.cap h
  have HL := Lib.hid (Rw.len h)
  unfold maxLen at hcap
  have H := Lib.hid h
  have HS := Lib.hid hs
  clear h hs
  go_enter Tryz.func49, Tryz.ntmps49
  go_wp2
  go_loopw [5, 10] (fun out i wr => ∃ (k : Nat) (A' : Option Addr) (n' c' : Nat), k ≤ n ∧ i = .int .i64 k ∧ out = .slice A' n' c' ∧ n' ≤ k ∧ OwD wr w.heap.size A' n' c' ((l.take k).filter (fun o => decide (o.on = d))) ∧ Below w.heap.size w wr) (fun out i _ => n - (intOf i).toNat)
  case atStart => exact ⟨0, none, 0, 0, Nat.zero_le _, rfl, rfl, Nat.le_refl _, OwD.nil _ _ (Nat.le_refl _), Below.refl _ _⟩
  case round =>
    obtain ⟨k, A', n', c', hk, rfl, rfl, hnk, ho, hb⟩ := hrel
    have HO := Lib.hid ho
    have HB := Lib.hid hb
    clear ho hb
    by_cases hlt : k < n
    · obtain ⟨b, o, x, rfl, hRb, hbl, hx, hok, x0, x1, x2⟩ := (H.out.keep (Kept.all HB.out R) (fun _ h _ => h)).at_ hlt
      have HX := Lib.hid hx
      have HK := Lib.hid hok
      have HA := Lib.hid (HS.out x (List.mem_of_getElem? hx))
      have HF := Lib.hid (filter_step (fun o => decide (o.on = d)) hx)
      obtain ⟨xo, xk, xa⟩ := x
      simp only at x0 x1 x2
      clear hx hok
      by_cases hd : xo = d
      · have hdb : (xo == d) = true := by rw [beq_iff_eq]; exact hd
        have D0 := (Below.refl wr.heap.size wr).alloc (Nat.le_refl _) (.cells #[.int .i64 xo, .int .i64 xk, .string xa] 42)
        have HC : Hid (Calls Tryz.prog 82 #[.string xa] (wr.alloc (.cells #[.int .i64 xo, .int .i64 xk, .string xa] 42)) fun e w' => e = .returned (.string xa) ∧ Below (wr.alloc (.cells #[.int .i64 xo, .int .i64 xk, .string xa] 42)).heap.size (wr.alloc (.cells #[.int .i64 xo, .int .i64 xk, .string xa] 42)) w') := clone_any xa _ HA.out
        have HD := Lib.hid hd
        have B2 := Lib.hid D0
        clear hd D0
        go_wp2_with fail
        refine HC.out.mono ?_
        rintro e w2 ⟨rfl, hb⟩
        have q1 := Ob.below (Ob.made wr 42 #[.int .i64 xo, .int .i64 xk, .string xa]) hb (by rw [size_al]; omega)
        have q4 := q1.frozen 2
        have z0 := q1.cell 0
        have z1 := q1.cell 1
        have z2 := q1.cell 2
        have d1 : Below wr.heap.size wr (w2.setCell ⟨wr.heap.size, 2, none⟩ (.string xa)) := (below_step B2.out hb).setCell (Nat.le_refl _) _
        have hz : (w2.setCell ⟨wr.heap.size, 2, none⟩ (.string xa)).heap.size = w2.heap.size := by simp [World.setCell]
        obtain ⟨A2, c2, w3, r3, o3, b3⟩ := (HO.out.below d1).push (x := ⟨xo, xk, xa⟩) HK.out (by omega) 26
        rw [hz] at r3
        simp only at r3
        have R3 := Lib.hid r3
        have O3 := Lib.hid o3
        have B3 := Lib.hid (HB.out.trans ((d1.mono HB.out.size).trans b3))
        clear hb d1 hz r3 o3 b3 q1
        go_wp2_with (first
          | (at_builtin; refine wpList_append_run (o := ⟨some 25, _, _, _, _, _⟩) rfl _ _ _ _ rfl rfl rfl R3.out ?_))
        go_roundw
        case rel => exact ⟨k + 1, A2, n' + 1, c2, by omega, by go_num, rfl, by omega, by rw [HF.out, if_pos (by simpa using HD.out)]; exact O3.out, B3.out⟩
        case measure => simp [intOf]; omega
      · have hdb : (xo == d) = false := by rw [beq_eq_false_iff_ne]; exact hd
        have HD := Lib.hid hd
        clear hd
        go_wp2_with fail
        go_roundw
        case rel =>
          have a1 : Below wr.heap.size wr (wr.alloc (.cells #[.int .i64 xo, .int .i64 xk, .string xa] 42)) := (Below.refl _ _).alloc (Nat.le_refl _) _
          exact ⟨k + 1, A', n', c', by omega, by go_num, rfl, by omega, by rw [HF.out, if_neg (by simpa using HD.out), List.append_nil]; exact HO.out.below a1, below_step HB.out a1⟩
        case measure => simp [intOf]; omega
    · obtain rfl : k = n := by omega
      go_wp2
      go_ret
      have ho := HO.out
      rw [List.take_of_length_le (by have := HL.out; omega)] at ho
      exact ⟨A', n', c', rfl, HB.out, ho⟩
set_option maxHeartbeats 1600000 in
theorem duties_any {w : World} {R : Nat → Prop} {A : Option Addr} {n c : Nat} {l : List Dut} (p d : Fin 5) (h : Dus w R A n c l) (hs : ∀ o ∈ l, o.arg.size ≤ 1000000) (hn : n ≤ 500000) :
    Calls Tryz.prog 36 #[.slice A n c, .complex .f64 (fl p) (fl d)] w fun e w' => ∃ A' n' c', e = .returned (.slice A' n' c') ∧ Below w.heap.size w w' ∧ OwD w' w.heap.size A' n' c' (dutsM l (p, d)) := by
  have H1 := Lib.hid (on_any (w := w) 1 h hs hn)
  have H2 := Lib.hid (on_any (w := w) 2 h hs hn)
  have HE : Hid (dutsM l (p, d) = if (p, d) = ((4, 0) : Mk) then l.filter (fun o => decide (o.on = 1)) else if (p, d) = ((0, 4) : Mk) then l.filter (fun o => decide (o.on = 2)) else []) := rfl
  generalize dutsM l (p, d) = out at *
  clear h hs
  by_cases h1 : (p, d) = ((4, 0) : Mk)
  · obtain ⟨rfl, rfl⟩ := Prod.mk.inj h1
    have HQ : Hid (out = l.filter (fun o => decide (o.on = 1))) := HE.out.trans (if_pos rfl)
    clear h1 HE
    go_enter Tryz.func36, Tryz.ntmps36
    go_wp2_with fail
    refine H1.out.mono ?_
    rintro e w1 ⟨A', n', c', rfl, hb, ho⟩
    have B1 := Lib.hid hb
    have O1 := Lib.hid ho
    clear hb ho
    go_wp2_with fail
    go_ret
    exact ⟨A', n', c', rfl, B1.out, by rw [HQ.out]; exact O1.out⟩
  · by_cases h2 : (p, d) = ((0, 4) : Mk)
    · obtain ⟨rfl, rfl⟩ := Prod.mk.inj h2
      have HQ : Hid (out = l.filter (fun o => decide (o.on = 2))) := HE.out.trans (if_neg h1 |>.trans (if_pos rfl))
      clear h1 h2 HE
      go_enter Tryz.func36, Tryz.ntmps36
      go_wp2_with fail
      refine H2.out.mono ?_
      rintro e w1 ⟨A', n', c', rfl, hb, ho⟩
      have B1 := Lib.hid hb
      have O1 := Lib.hid ho
      clear hb ho
      go_wp2_with fail
      go_ret
      exact ⟨A', n', c', rfl, B1.out, by rw [HQ.out]; exact O1.out⟩
    · have HQ : Hid (out = []) := HE.out.trans (if_neg h1 |>.trans (if_neg h2))
      have e1 : (p == 4 && d == 0) = false := by
        rw [Bool.eq_false_iff]
        intro h
        rw [Bool.and_eq_true, beq_iff_eq, beq_iff_eq] at h
        exact h1 (by rw [h.1, h.2])
      have e2 : (p == 0 && d == 4) = false := by
        rw [Bool.eq_false_iff]
        intro h
        rw [Bool.and_eq_true, beq_iff_eq, beq_iff_eq] at h
        exact h2 (by rw [h.1, h.2])
      clear h1 h2 HE H1 H2
      go_enter Tryz.func36, Tryz.ntmps36
      go_wp2_with fail
      go_ret
      exact ⟨none, 0, 0, rfl, Below.refl _ _, by rw [HQ.out]; exact OwD.nil _ _ (Nat.le_refl _)⟩
end Go.Proofs.YtmoglaknmlhpgaaGreat
/- Lists of values of the call's own: append. -/
namespace Go.Proofs.YtmoglaknmlhpgaaGreat
set_option linter.unusedVariables false
open Go.RowKit

def cells3 : List Vl → List Value
  | [] => []
  | v :: r => .int .i64 v.k :: .int .i64 v.n :: .string v.s :: cells3 r
theorem cells3_len (l : List Vl) : (cells3 l).length = l.length * 3 := by
  induction l with
  | nil => rfl
  | cons v r ih => simp [cells3, ih]; omega
theorem cells3_app (l m : List Vl) : cells3 (l ++ m) = cells3 l ++ cells3 m := by
  induction l with
  | nil => rfl
  | cons v r ih => simp [cells3, ih]
theorem cells3_one {l : List Vl} : ∀ v ∈ cells3 l, v.oneCell' = true := by
  induction l with
  | nil => intro v hv; cases hv
  | cons x r ih =>
    intro v hv
    simp only [cells3, List.mem_cons] at hv
    rcases hv with rfl | rfl | rfl | hv
    · rfl
    · rfl
    · rfl
    · exact ih v hv
theorem cells3_at {l : List Vl} {j : Nat} {v : Vl} (h : l[j]? = some v) : (cells3 l)[j * 3]? = some (.int .i64 v.k) ∧ (cells3 l)[j * 3 + 1]? = some (.int .i64 v.n) ∧ (cells3 l)[j * 3 + 2]? = some (.string v.s) := by
  induction l generalizing j with
  | nil => simp at h
  | cons x r ih =>
    cases j with
    | zero => simp at h; subst h; exact ⟨rfl, rfl, rfl⟩
    | succ j =>
      simp at h
      obtain ⟨a, b, c⟩ := ih h
      have e : (j + 1) * 3 = j * 3 + 1 + 1 + 1 := by omega
      rw [e]
      exact ⟨by simpa [cells3] using a, by simpa [cells3] using b, by simpa [cells3] using c⟩
theorem cells3_of {l : List Vl} {i : Nat} {u : Value} (h : (cells3 l)[i]? = some u) : ∃ j v, l[j]? = some v ∧ (i = j * 3 ∧ u = .int .i64 v.k ∨ i = j * 3 + 1 ∧ u = .int .i64 v.n ∨ i = j * 3 + 2 ∧ u = .string v.s) := by
  have hi : i < l.length * 3 := by rw [← cells3_len]; exact (List.getElem?_eq_some_iff.1 h).1
  have hj : i / 3 < l.length := by omega
  obtain ⟨a, b, c⟩ := cells3_at (List.getElem?_eq_getElem hj)
  refine ⟨i / 3, l[i / 3], List.getElem?_eq_getElem hj, ?_⟩
  have hm : i = i / 3 * 3 ∨ i = i / 3 * 3 + 1 ∨ i = i / 3 * 3 + 2 := by omega
  rcases hm with e | e | e
  · rw [← e, h] at a; exact .inl ⟨e, Option.some.inj a⟩
  · rw [← e, h] at b; exact .inr (.inl ⟨e, Option.some.inj b⟩)
  · rw [← e, h] at c; exact .inr (.inr ⟨e, Option.some.inj c⟩)

theorem valinfo : (Tryz.prog.info? 40).map (fun i => (i.zero, i.size, i.bytes)) = some (some (.agg #[.int .i64 0, .int .i64 0, .string ⟨#[]⟩]), 3, 32) := by kernel_rfl
theorem val_parts : ∃ i, Tryz.prog.info? 40 = some i ∧ i.zero = some (.agg #[.int .i64 0, .int .i64 0, .string ⟨#[]⟩]) ∧ i.size = 3 ∧ i.bytes = 32 := by
  have h := valinfo
  cases hi : Tryz.prog.info? 40 with
  | none => rw [hi] at h; cases h
  | some i =>
    rw [hi] at h
    simp only [Option.map_some, Option.some.injEq, Prod.mk.injEq] at h
    exact ⟨i, rfl, h.1, h.2.1, h.2.2⟩

theorem Vs.of_own {w : World} {base n c : Nat} {A : Option Addr} {l : List Vl} (h : w.ownsRow base 40 3 (.slice A n c) n (cells3 l)) (hok : ∀ v ∈ l, v.ok) : Vs w w.heap.size A n c l := by
  have hl : l.length = n := by have := h.1; rw [cells3_len] at this; omega
  rcases h.2 with ⟨hv, hn⟩ | ⟨g, cap, cur, hv, hb, hg, hnc, hcm, hcs, ht⟩
  · injection hv with h1 h2 h3
    subst h1 h2 h3
    exact ⟨hl, Nat.le_refl _, by simp [maxLen], .inl rfl, hok⟩
  · injection hv with h1 h2 h3
    subst h1 h3
    refine ⟨hl, hnc, hcm, .inr ⟨g, 0, rfl, ?_, fun j v hv => ?_⟩, hok⟩
    · rcases Nat.lt_or_ge g w.heap.size with hlt | hge
      · exact hlt
      · rw [Array.getElem?_eq_none hge] at hg; cases hg
    · have add : ∀ j : Nat, (⟨g, 0, none⟩ : Addr).add j = ⟨g, 0 + j, none⟩ := fun j => by by_cases hj : j = 0 <;> simp [Addr.add, hj]
      obtain ⟨a, b, c⟩ := cells3_at hv
      have h1 := h.cells (g := g) rfl (j * 3) _ a
      have h2 := h.cells (g := g) rfl (j * 3 + 1) _ b
      have h3 := h.cells (g := g) rfl (j * 3 + 2) _ c
      rw [add] at h1 h2 h3
      exact ⟨h1, h2, h3⟩

theorem append_vals {w : World} {base B n c m c2 ty : Nat} {A A2 : Option Addr} {xs ys : List Vl} (h : w.ownsRow base 40 3 (.slice A n c) n (cells3 xs)) (hy : Vs w B A2 m c2 ys) (hn : n + m ≤ 1000000) (hbase : base ≤ w.heap.size) :
    ∃ A' c' w', (Builtin.append_ #[76, 76] ty #[.slice A n c, .slice A2 m c2]).run Tryz.prog w = .ok (.slice A' (n + m) c') w' ∧
      w'.ownsRow base 40 3 (.slice A' (n + m) c') (n + m) (cells3 (xs ++ ys)) ∧ Below base w w' ∧ w.grownBy w' (Value.slice A n c).ownBlock := by
  obtain ⟨i, hi, hz, hs, hb⟩ := val_parts
  have hlen := hy.1
  have fin : ∀ (ad : Addr), A2 = some ad → (∀ j u, (cells3 ys)[j]? = some u → w.cell? (ad.add j) = some u) → ∃ A' c' w', (Builtin.append_ #[76, 76] ty #[.slice A n c, .slice A2 m c2]).run Tryz.prog w = .ok (.slice A' (n + m) c') w' ∧
      w'.ownsRow base 40 3 (.slice A' (n + m) c') (n + m) (cells3 (xs ++ ys)) ∧ Below base w w' ∧ w.grownBy w' (Value.slice A n c).ownBlock := by
    rintro ad rfl hc
    obtain ⟨v', w', hrun, h2, h3, h4⟩ := run_append_own (P := Tryz.prog) w base 76 ty 40 i _ 3 32 Tryz.underlying76 hi hz hs hb rfl (by omega) (.slice A n c) n (cells3 xs) h
      ad m c2 (cells3 ys) (by rw [cells3_len, hlen]) hc cells3_one (by unfold maxLen; omega) (by omega) hbase
    have hform : ∃ A' c', v' = .slice A' (n + m) c' := by
      rcases h2.2 with ⟨hv, hz⟩ | ⟨g, cap, cur, hv, _⟩
      · exact ⟨_, _, by rw [hv, hz]⟩
      · exact ⟨_, _, hv⟩
    obtain ⟨A', c', rfl⟩ := hform
    exact ⟨A', c', w', hrun, by rw [cells3_app]; exact h2, (Below.refl base w).grown h3 hbase (fun k hk => (h.lt k hk).1), h3⟩
  rcases hy.2.2.2.1 with h0 | ⟨b, o, e, hb', hc⟩
  · subst h0
    obtain rfl : ys = [] := List.eq_nil_of_length_eq_zero hlen
    rcases A2 with _ | ad
    · exact ⟨A, c, w, append_nil_src Tryz.underlying76 hi h, by simpa using h, Below.refl _ _, ⟨rfl, rfl, rfl, Nat.le_refl _, fun _ _ _ => rfl⟩⟩
    · exact fin ad rfl (fun j u hu => by simp [cells3] at hu)
  · refine fin _ e fun j u hu => ?_
    have add : ∀ j : Nat, (⟨b, o, none⟩ : Addr).add j = ⟨b, o + j, none⟩ := fun j => by by_cases hj : j = 0 <;> simp [Addr.add, hj]
    rw [add]
    obtain ⟨i', v, hv, hcase⟩ := cells3_of hu
    obtain ⟨c0, c1, c2⟩ := hc i' v hv
    rcases hcase with ⟨rfl, rfl⟩ | ⟨rfl, rfl⟩ | ⟨rfl, rfl⟩
    · exact c0
    · exact c1
    · exact c2

theorem Vs.keep1 {w w' : World} {B n c b o : Nat} {l : List Vl} (h : Vs w B (some ⟨b, o, none⟩) n c l) (hk : w'.heap[b]? = w.heap[b]?) : Vs w' B (some ⟨b, o, none⟩) n c l := by
  obtain ⟨h1, h2, h3, h4, h5⟩ := h
  refine ⟨h1, h2, h3, ?_, h5⟩
  rcases h4 with h4 | ⟨b', o', e, hb, hc⟩
  · exact .inl h4
  · injection e with e
    injection e with e1 e2
    subst e1 e2
    refine .inr ⟨b, o, rfl, hb, fun j v hv => ?_⟩
    obtain ⟨a1, a2, a3⟩ := hc j v hv
    exact ⟨(World.cell?_of_block hk).trans a1, (World.cell?_of_block hk).trans a2, (World.cell?_of_block hk).trans a3⟩

theorem own_then {w w' : World} {base size n : Nat} {e : TypeId} {v : Value} {xs : List Value} (h : w.ownsRow base e size v n xs) (hb : Below w.heap.size w w') : w'.ownsRow base e size v n xs :=
  h.kept (row := none) ⟨hb.os, hb.tape, hb.output, hb.size, fun k hk _ => hb.block k hk⟩ (by by_cases hv : v.ownBlock = none; exact .inl hv; exact .inr hv)
end Go.Proofs.YtmoglaknmlhpgaaGreat
/- Requests in memory: rows of attributes, each with its bag. -/
namespace Go.Proofs.YtmoglaknmlhpgaaGreat
set_option linter.unusedVariables false
open Go.RowKit

def Vls (w : World) (R : Nat → Prop) := Rw 3 (fun vs (v : Vl) => vs = v.cells ∧ v.ok) w R
def GivAt (w : World) (R : Nat → Prop) (vs : List Value) (g : Giv) : Prop := ∃ A n c, vs = [.int .i64 g.cat, .string g.name, .slice A n c] ∧ g.ok ∧ Vls w R A n c g.bag
def Gvs (w : World) (R : Nat → Prop) := Rw 3 (GivAt w R) w R
section
variable {w w' : World} {R R' : Nat → Prop} {A : Option Addr} {n c : Nat}
theorem Vls.keep {l : List Vl} (h : Vls w R A n c l) (hk : Kept R w w') (hR : ∀ b, R b → b < w.heap.size → R' b) : Vls w' R' A n c l := Rw.keep h hk hR fun _ _ _ h => h
theorem GivAt.keep {vs : List Value} {g : Giv} (h : GivAt w R vs g) (hk : Kept R w w') (hR : ∀ b, R b → b < w.heap.size → R' b) : GivAt w' R' vs g := by
  obtain ⟨A, n, c, e, h0, h1⟩ := h
  exact ⟨A, n, c, e, h0, h1.keep hk hR⟩
theorem Gvs.keep {l : List Giv} (h : Gvs w R A n c l) (hk : Kept R w w') (hR : ∀ b, R b → b < w.heap.size → R' b) : Gvs w' R' A n c l := Rw.keep h hk hR fun _ _ _ h => h.keep hk hR
theorem keeps_giv : Keeps GivAt := fun _ _ _ _ _ _ h hk hR => h.keep hk hR
theorem GivAt.one {w : World} {R : Nat → Prop} (vs : List Value) (g : Giv) (h : GivAt w R vs g) : ∀ v ∈ vs, v.oneCell' = true := by
  obtain ⟨A, n, c, rfl, _⟩ := h
  intro v hv
  simp at hv
  rcases hv with rfl | rfl | rfl <;> rfl
theorem Vl.one (v : Vl) : ∀ x ∈ v.cells, x.oneCell' = true := by
  intro x hx
  simp [Vl.cells] at hx
  rcases hx with rfl | rfl | rfl <;> rfl
theorem Vls.oks {l : List Vl} (h : Vls w R A n c l) : ∀ v ∈ l, v.ok := Rw.all h
theorem Vls.at_ {l : List Vl} (h : Vls w R A n c l) {j : Nat} (hj : j < n) : ∃ b o v, A = some ⟨b, o, none⟩ ∧ R b ∧ b < w.heap.size ∧ l[j]? = some v ∧ v.ok ∧
    (w.cell? ⟨b, o + j * 3, none⟩ = some (.int .i64 v.k) ∧ w.cell? ⟨b, o + j * 3 + 1, none⟩ = some (.int .i64 v.n) ∧ w.cell? ⟨b, o + j * 3 + 2, none⟩ = some (.string v.s)) := by
  obtain ⟨b, o, m, vs, e, hb, hlt, hm, hl, hv, rfl, hok⟩ := Rw.at_ h hj
  exact ⟨b, o, m, e, hb, hlt, hm, hok, hv 0 _ rfl, hv 1 _ rfl, hv 2 _ rfl⟩
theorem Gvs.at_ {l : List Giv} (h : Gvs w R A n c l) {j : Nat} (hj : j < n) : ∃ b o g A' n' c', A = some ⟨b, o, none⟩ ∧ R b ∧ b < w.heap.size ∧ l[j]? = some g ∧ g.ok ∧
    (w.cell? ⟨b, o + j * 3, none⟩ = some (.int .i64 g.cat) ∧ w.cell? ⟨b, o + j * 3 + 1, none⟩ = some (.string g.name) ∧ w.cell? ⟨b, o + j * 3 + 2, none⟩ = some (.slice A' n' c')) ∧ Vls w R A' n' c' g.bag := by
  obtain ⟨b, o, g, vs, e, hb, hlt, hm, hl, hv, A', n', c', rfl, hok, hin⟩ := Rw.at_ h hj
  exact ⟨b, o, g, A', n', c', e, hb, hlt, hm, hok, ⟨hv 0 _ rfl, hv 1 _ rfl, hv 2 _ rfl⟩, hin⟩
theorem Vls.vs {l : List Vl} (h : Vls w R A n c l) : Vs w w.heap.size A n c l := by
  refine ⟨Rw.len h, Rw.le h, Rw.cap h, ?_, h.oks⟩
  by_cases h0 : n = 0
  · exact .inl h0
  · right
    obtain ⟨b, o, v, e, hb, hlt, hv, _, _⟩ := h.at_ (j := 0) (by omega)
    refine ⟨b, o, e, hlt, fun j x hx => ?_⟩
    have hj : j < n := by have := (List.getElem?_eq_some_iff.1 hx).1; have := Rw.len h; omega
    obtain ⟨b', o', v', e', _, _, hv', _, c0, c1, c2⟩ := h.at_ hj
    rw [e] at e'
    injection e' with e'
    injection e' with e1 e2
    subst e1 e2
    rw [hx] at hv'
    injection hv' with hv'
    subst hv'
    exact ⟨c0, c1, c2⟩
theorem Gvs.oks {l : List Giv} (h : Gvs w R A n c l) : ∀ g ∈ l, g.ok ∧ ∀ v ∈ g.bag, v.ok := by
  intro g hg
  obtain ⟨j, hj, rfl⟩ := List.getElem_of_mem hg
  obtain ⟨b, o, x, A', n', c', e, _, _, hx, hok, _, hin⟩ := h.at_ (j := j) (by have := Rw.len h; omega)
  rw [List.getElem?_eq_getElem hj] at hx
  injection hx with hx
  rw [hx]
  exact ⟨hok, hin.oks⟩
end
theorem givinfo : (Tryz.prog.info? 78).map (fun i => (i.zero, i.size, i.bytes)) = some (some (.agg #[.int .i64 0, .string ⟨#[]⟩, .slice none 0 0]), 3, 48) := by kernel_rfl
end Go.Proofs.YtmoglaknmlhpgaaGreat
/- A value stored over another one in its block. -/
namespace Go.Proofs.YtmoglaknmlhpgaaGreat
open Go.RowKit

theorem Bx.put {w : World} {g : Nat} {k n : Int} {s : ByteArray} (h : Bx w g k n s) (k' n' : Int) (s' : ByteArray) : Bx (((w.setCell ⟨g, 0, none⟩ (.int .i64 k')).setCell ⟨g, 1, none⟩ (.int .i64 n')).setCell ⟨g, 2, none⟩ (.string s')) g k' n' s' := by
  unfold Bx
  simpa using ((Ob.put h 0 (.int .i64 k')).put 1 (.int .i64 n')).put 2 (.string s')
theorem Bx.past {w : World} {g g' : Nat} {k n : Int} {s : ByteArray} (h : Bx w g k n s) (hne : g ≠ g') (a b c : Value) : Bx (((w.setCell ⟨g', 0, none⟩ a).setCell ⟨g', 1, none⟩ b).setCell ⟨g', 2, none⟩ c) g k n s :=
  h.only (((Only.refl.setCell (p := ⟨g', 0, none⟩) rfl a).setCell (p := ⟨g', 1, none⟩) rfl b).setCell (p := ⟨g', 2, none⟩) rfl c) hne
theorem below_put {w0 w : World} {g B : Nat} (h : Below B w0 w) (hg : B ≤ g) (a b c : Value) : Below B w0 (((w.setCell ⟨g, 0, none⟩ a).setCell ⟨g, 1, none⟩ b).setCell ⟨g, 2, none⟩ c) :=
  ((h.setCell (p := ⟨g, 0, none⟩) hg a).setCell (p := ⟨g, 1, none⟩) hg b).setCell (p := ⟨g, 2, none⟩) hg c
end Go.Proofs.YtmoglaknmlhpgaaGreat
/- copied: a bag in memory of its own, its texts too. -/
namespace Go.Proofs.YtmoglaknmlhpgaaGreat
set_option linter.unusedVariables false
open Go.RowKit

def Shorts (l : List Vl) : Prop := ∀ v ∈ l, v.s.size ≤ 1000000

theorem take_one {α : Type} {l : List α} {k : Nat} {x : α} (h : l[k]? = some x) : l.take (k + 1) = l.take k ++ [x] := by
  obtain ⟨hk, rfl⟩ := List.getElem?_eq_some_iff.1 h
  rw [List.take_succ_eq_append_getElem hk]
theorem cells3_flat : ∀ l : List Vl, cells3 l = l.flatMap Vl.cells
  | [] => rfl
  | v :: r => by simp [cells3, Vl.cells, cells3_flat r]
theorem push_val {w : World} {base n c : Nat} {A : Option Addr} {l : List Vl} {v : Vl} (h : w.ownsRow base 40 3 (.slice A n c) n (cells3 l)) (hb : base ≤ w.heap.size) (hv : v.ok) (hn : n < 1000000) :
    ∃ A' c' w', (Builtin.append_ #[76, 76] 76 #[.slice A n c, .slice (some ⟨w.heap.size, 0, none⟩) 1 1]).run Tryz.prog (w.alloc (.cells #[.int .i64 v.k, .int .i64 v.n, .string v.s] 40)) = .ok (.slice A' (n + 1) c') w' ∧
      w'.ownsRow base 40 3 (.slice A' (n + 1) c') (n + 1) (cells3 (l ++ [v])) ∧ Below base w w' := by
  have e1 : Below w.heap.size w (w.alloc (.cells #[.int .i64 v.k, .int .i64 v.n, .string v.s] 40)) := (Below.refl _ _).alloc (Nat.le_refl _) _
  obtain ⟨A', c', w', r, o, b, _⟩ := append_vals (ty := 76) (h.alloc (.cells #[.int .i64 v.k, .int .i64 v.n, .string v.s] 40)) (Vs.lit1 w v hv) (by omega) (by rw [size_al]; omega)
  exact ⟨A', c', w', r, o, (e1.mono hb).trans b⟩

set_option maxHeartbeats 1600000 in
theorem copied_any {w : World} {R : Nat → Prop} {A : Option Addr} {n c : Nat} {l : List Vl} (h : Vls w R A n c l) (hs : Shorts l) (hn : n ≤ 100000) :
    Calls Tryz.prog 131 #[.slice A n c] w fun e w' => ∃ A' c', e = .returned (.slice A' n c') ∧ Below w.heap.size w w' ∧ Vls w' (fun b => w.heap.size ≤ b) A' n c' l := by
  have hle := Rw.le h
  have hcap := Rw.cap h
  have HL := Lib.hid (Rw.len h)
  have HOK := Lib.hid h.oks
  unfold maxLen at hcap
  have H := Lib.hid h
  have HS := Lib.hid hs
  clear h hs
  go_enter Tryz.func131, Tryz.ntmps131
  go_wp2
  go_loopw [3, 8] (fun out i wr => ∃ (k : Nat) (A' : Option Addr) (c' : Nat), k ≤ n ∧ i = .int .i64 k ∧ out = .slice A' k c' ∧ wr.ownsRow w.heap.size 40 3 (.slice A' k c') k (cells3 (l.take k)) ∧ Below w.heap.size w wr) (fun out i _ => n - (intOf i).toNat)
  case atStart => exact ⟨0, none, 0, Nat.zero_le _, rfl, rfl, World.ownsRow_nil w w.heap.size 40 3, Below.refl _ _⟩
  case round =>
    obtain ⟨k, A', c', hk, rfl, rfl, ho, hb⟩ := hrel
    have HO := Lib.hid ho
    have HB := Lib.hid hb
    clear ho hb
    by_cases hlt : k < n
    · obtain ⟨b, o, x, rfl, hRb, hbl, hx, hok, ⟨x0, x1, x2⟩⟩ := (H.out.keep (Kept.all HB.out R) (fun _ h _ => h)).at_ hlt
      have HX := Lib.hid hx
      have HK := Lib.hid hok
      have hlim := HS.out x (List.mem_of_getElem? hx)
      have HCL := Lib.hid (fun W => clone_any x.s W hlim)
      obtain ⟨xk, xn, xs⟩ := x
      simp only at x0 x1 x2 HCL hlim
      clear hx hok
      have hbx := Bx.made wr xk xn xs
      have D0 := Lib.hid ((Below.refl wr.heap.size wr).alloc (Nat.le_refl _) (.cells #[.int .i64 xk, .int .i64 xn, .string xs] 40))
      go_wp2_with (first
        | (go_at_call 82; refine (HCL.out _).mono ?_; rintro e w1 ⟨rfl, hb1⟩
           have q1 := hbx.then_ hb1
           have qs := q1.setS xs
           have q3 := q1.c3
           have q4 := q1.fz 2
           have d1 : Below wr.heap.size wr (w1.setCell ⟨wr.heap.size, 2, none⟩ (.string xs)) := (Below.lit hb1).setCell (Nat.le_refl _) _
           obtain ⟨A2, c2, w2, r2, o2, b2⟩ := push_val (v := ⟨xk, xn, xs⟩) (own_then HO.out d1) (Nat.le_trans HB.out.size d1.size) HK.out (by omega)
           have hz : (w1.setCell ⟨wr.heap.size, 2, none⟩ (.string xs)).heap.size = w1.heap.size := by simp [World.setCell]
           rw [hz] at r2
           simp only at r2
           have R2 := Lib.hid r2
           have O2 := Lib.hid o2
           have B2 := Lib.hid (HB.out.trans ((d1.mono HB.out.size).trans b2))
           have Q1 := Lib.hid q1
           clear hz r2 o2 b2 hb1 q1 qs d1)
        | (at_builtin; refine wpList_append_run rfl _ _ _ _ rfl rfl rfl R2.out ?_))
      go_roundw
      case rel => exact ⟨k + 1, A2, c2, by omega, by go_num, rfl, by rw [take_one HX.out]; exact O2.out, B2.out⟩
      case measure => simp [intOf]; omega
    · obtain rfl : k = n := by omega
      go_wp2
      go_ret
      refine ⟨A', c', rfl, HB.out, ?_⟩
      have ho := HO.out
      rw [List.take_of_length_le (by have := HL.out; omega), cells3_flat] at ho
      exact Rw.flat_own ho (by omega) HL.out (fun _ => rfl) HOK.out (fun _ _ h => h)
end Go.Proofs.YtmoglaknmlhpgaaGreat
/- place: the first of a category and a name (by slices.IndexFunc). -/
namespace Go.Proofs.YtmoglaknmlhpgaaGreat
set_option linter.unusedVariables false
open Go.RowKit

theorem isg_any {w : World} {h4 h5 : Nat} {c : Int} {s : ByteArray} (g : Giv) {A : Option Addr} {n k : Nat} (hp : Ob w h4 3 #[.int .i64 c]) (hi : Ob w h5 9 #[.string s]) :
    Calls Tryz.prog 144 #[.agg #[.int .i64 g.cat, .string g.name, .slice A n k], .pointer (some ⟨h4, 0, none⟩), .pointer (some ⟨h5, 0, none⟩)] w fun e w' => e = .returned (.bool (isG c s g)) ∧ Below w.heap.size w w' := by
  have c4 := hp.cell 0
  have c5 := hi.cell 0
  have l4 := hp.lt
  have l5 := hi.lt
  have HE : Hid (isG c s g = (decide (g.cat = c) && (g.name.toList == s.toList))) := by
    show isG c s g = _
    unfold isG
    rw [Bool.eq_iff_iff]
    simp only [Bool.and_eq_true, decide_eq_true_eq, beq_iff_eq]
    rw [show (g.name.toList = s.toList) = (g.name = s) from propext ⟨fun e => text_eq (by show g.name.data.toList = s.data.toList; rw [← ByteArray.toList_eq, ← ByteArray.toList_eq]; exact e), fun e => by rw [e]⟩]
  generalize isG c s g = r at *
  obtain ⟨gc, gn, gb⟩ := g
  simp only at HE ⊢
  clear hp hi
  by_cases h : gc = c
  · have h' : (gc == c) = true := by simpa using h
    have H := Lib.hid h
    clear h
    go_enter Tryz.func144, Tryz.ntmps144
    go_wp2_with fail
    all_goals
      go_ret
      exact ⟨ret_bool (by rw [HE.out, decide_eq_true H.out, Bool.true_and]), (Below.refl _ _).alloc (Nat.le_refl _) _⟩
  · have h' : (gc == c) = false := by simpa using h
    have H := Lib.hid h
    clear h
    go_enter Tryz.func144, Tryz.ntmps144
    go_wp2_with fail
    all_goals
      go_ret
      exact ⟨ret_bool (by rw [HE.out, decide_eq_false H.out, Bool.false_and]), (Below.refl _ _).alloc (Nat.le_refl _) _⟩

set_option maxHeartbeats 800000 in
theorem aindex_any {w : World} {R : Nat → Prop} {A : Option Addr} {n c : Nat} {l : List Giv} {h4 h5 : Nat} {q : Int} {s : ByteArray} (h : Gvs w R A n c l) (hp : Ob w h4 3 #[.int .i64 q]) (hi : Ob w h5 9 #[.string s]) :
    Calls Tryz.prog 143 #[.slice A n c, .func (.func 144) #[] #[.pointer (some ⟨h4, 0, none⟩), .pointer (some ⟨h5, 0, none⟩)]] w fun e w' => e = .returned (.int .i64 (placeI l q s)) ∧ Below w.heap.size w w' := by
  have hle := Rw.le h
  have hcap := Rw.cap h
  have HL := Lib.hid (Rw.len h)
  unfold maxLen at hcap
  have H := Lib.hid h
  have HP := Lib.hid hp
  have HI := Lib.hid hi
  clear h hp hi
  go_enter Tryz.func143, Tryz.ntmps143
  go_wp2
  go_loopw [8] (fun i wr => ∃ k : Nat, k ≤ n ∧ i = .int .i64 k ∧ (∀ (j : Nat) (x : Giv), l[j]? = some x → j < k → isG q s x = false) ∧ Below w.heap.size w wr) (fun i _ => n - (intOf i).toNat)
  case atStart => exact ⟨0, Nat.zero_le _, rfl, fun _ _ _ h => absurd h (Nat.not_lt_zero _), Below.refl _ _⟩
  case round =>
    obtain ⟨k, hk, rfl, hf, hb⟩ := hrel
    have HF := Lib.hid hf
    have HB := Lib.hid hb
    clear hf hb
    by_cases hlt : k < n
    · obtain ⟨b, o, x, A', n', c', rfl, hRb, hbl, hx, hok, ⟨c0, c1, c2⟩, hin⟩ := (H.out.keep (Kept.all HB.out R) (fun _ h _ => h)).at_ hlt
      have HX := Lib.hid hx
      have HC := Lib.hid (isg_any x (A := A') (n := n') (k := c') (HP.out.below HB.out HP.out.lt) (HI.out.below HB.out HI.out.lt))
      clear hx
      cases hz : isG q s x
      · have HZ := Lib.hid hz
        rw [hz] at HC
        clear hz
        go_wp2_with (go_at_call 144; refine HC.out.mono ?_; rintro e w1 ⟨rfl, hb1⟩; have B1 := Lib.hid hb1)
        go_roundw
        case rel => exact ⟨k + 1, by omega, by go_num, fun j y hy hj => by
          by_cases e : j = k
          · subst e; rw [HX.out] at hy; injection hy with hy; subst hy; exact HZ.out
          · exact HF.out j y hy (by omega), below_step HB.out B1.out⟩
        case measure => simp [intOf]; omega
      · have HZ := Lib.hid hz
        rw [hz] at HC
        clear hz
        go_wp2_with (go_at_call 144; refine HC.out.mono ?_; rintro e w1 ⟨rfl, hb1⟩; have B1 := Lib.hid hb1)
        go_ret
        exact ⟨ret_int (place_at HX.out HZ.out HF.out).symm, below_step HB.out B1.out⟩
    · obtain rfl : k = n := by omega
      go_wp2
      go_ret
      exact ⟨ret_int (place_none (fun j x hx => HF.out j x hx (by have := (List.getElem?_eq_some_iff.1 hx).1; have := HL.out; omega))).symm, HB.out⟩

theorem place_any {w : World} {R : Nat → Prop} {A : Option Addr} {n c : Nat} {l : List Giv} (q : Int) (s : ByteArray) (h : Gvs w R A n c l) :
    Calls Tryz.prog 130 #[.slice A n c, .int .i64 q, .string s] w fun e w' => e = .returned (.int .i64 (placeI l q s)) ∧ Below w.heap.size w w' := by
  have e1 : Below w.heap.size w ((w.alloc (.cells #[.int .i64 q] 3)).alloc (.cells #[.string s] 9)) := ((Below.refl _ _).alloc (Nat.le_refl _) _).alloc (by rw [size_al]; omega) _
  have hp : Ob ((w.alloc (.cells #[.int .i64 q] 3)).alloc (.cells #[.string s] 9)) w.heap.size 3 #[.int .i64 q] := (Ob.made w 3 #[.int .i64 q]).keep (Below.heap_alloc (w.alloc (.cells #[.int .i64 q] 3)) _ w.heap.size (by rw [size_al]; omega))
  have hi : Ob ((w.alloc (.cells #[.int .i64 q] 3)).alloc (.cells #[.string s] 9)) (w.heap.size + 1) 9 #[.string s] := by
    have := Ob.made (w.alloc (.cells #[.int .i64 q] 3)) 9 #[.string s]
    rwa [size_al] at this
  have HC := Lib.hid (aindex_any (h.keep (Kept.all e1 R) (fun _ h _ => h)) hp hi)
  have HE := Lib.hid e1
  clear h hp hi e1
  go_enter Tryz.func130, Tryz.ntmps130
  go_wp2_with (go_at_call 143; refine HC.out.mono ?_; rintro e w1 ⟨rfl, hb1⟩)
  go_ret
  exact ⟨rfl, HE.out.trans (hb1.mono HE.out.size)⟩
end Go.Proofs.YtmoglaknmlhpgaaGreat
