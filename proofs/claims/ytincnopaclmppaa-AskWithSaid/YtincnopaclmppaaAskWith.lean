/- AskWith: the walk. -/
import Derived.Test.YtincnopaclmppaaElvC
import Derived.Test.YtincnopaclmppaaElvD
namespace Go.Proofs.Ytincnopaclmppaa
set_option linter.unusedVariables false
open Go.RowKit

set_option maxRecDepth 100000 in
set_option maxHeartbeats 8000000 in
theorem askWith_walk (W : World) (A : Option Addr) (n c : Nat) (h : ∃ l, Gvs W (fun _ => True) A n c l) (g : Giv) {A1 : Option Addr} {n1 k1 : Nat} (hg : g.ok ∧ Vls W (fun _ => True) A1 n1 k1 g.bag) (a : Atr) (ha : a.ok) :
    Calls Try.prog 6 #[.slice A n c, .agg #[.int .i64 g.cat, .string g.name, .slice A1 n1 k1], .agg #[.int .i64 a.cat, .string a.name, .bool a.must]] W fun e w' => e = .returned (.bool true) ∧ Below W.heap.size W w' := by
  obtain ⟨l, h⟩ := h
  obtain ⟨gc, gn, gb⟩ := g
  obtain ⟨ac, an, am⟩ := a
  simp only at hg ⊢
  have HOKG := Lib.hid hg.1
  have HRUN := Lib.hid (fun w => aruns_any w)
  have hle := Rw.le h
  have hcap := Rw.cap h
  have hbig := Rw.big h
  unfold maxLen at hcap
  have HL := Lib.hid (Rw.len h)
  have HLB : Hid (gb.length = n1) := Rw.len hg.2
  have HK := Lib.hid (fun w (hW : Below W.heap.size W w) => h.keep (Kept.all hW (fun _ => True)) (fun _ h _ => h))
  have HV : Hid (∀ w, Below W.heap.size W w → Vls w (fun _ => True) A1 n1 k1 gb) := Lib.hid (fun w (hW : Below W.heap.size W w) => Vls.keep hg.2 (Kept.all hW (fun _ => True)) (fun _ h _ => h))
  have D0 : Hid (Below W.heap.size W ((W.alloc (.cells #[.int .i64 gc, .string gn, .slice A1 n1 k1] 49)).alloc (.cells #[.int .i64 ac, .string an, .bool am] 44))) := Lib.hid (((Below.refl _ _).alloc (Nat.le_refl _) _).alloc (by rw [size_al]; omega) _)
  have OG0 : Hid (Ob ((W.alloc (.cells #[.int .i64 gc, .string gn, .slice A1 n1 k1] 49)).alloc (.cells #[.int .i64 ac, .string an, .bool am] 44)) W.heap.size 49 #[.int .i64 gc, .string gn, .slice A1 n1 k1]) := Lib.hid ((Ob.made W 49 _).keep (Below.heap_alloc _ _ W.heap.size (by rw [size_al]; omega)))
  have OA0 : Hid (Ob ((W.alloc (.cells #[.int .i64 gc, .string gn, .slice A1 n1 k1] 49)).alloc (.cells #[.int .i64 ac, .string an, .bool am] 44)) (W.heap.size + 1) 44 #[.int .i64 ac, .string an, .bool am]) := by
    show Ob _ _ _ _
    have := Ob.made (W.alloc (.cells #[.int .i64 gc, .string gn, .slice A1 n1 k1] 49)) 44 #[.int .i64 ac, .string an, .bool am]
    rwa [size_al] at this
  have FEW1 := few_any (HK.out _ D0.out)
  clear h hg ha
  by_cases hf : fewC l ≤ 1200
  rotate_left
  · rw [decide_eq_false hf] at FEW1
    have FEW1 := Lib.hid FEW1
    clear hf
    go_enter Try.func6, Try.ntmps6
    go_wp2_with (first
      | (go_at_call 16; (with_reducible refine FEW1.out.mono ?_); rintro e w1 ⟨rfl, hb1⟩
         have F1 := Lib.hid (below_step D0.out hb1)
         clear hb1)
      | (go_at_call 4; refine (HRUN.out _).mono ?_; rintro e w9 ⟨rfl, hb9⟩; have F9 := Lib.hid (below_step F1.out hb9); clear hb9))
    go_ret
    exact ⟨rfl, F9.out⟩
  rw [decide_eq_true hf] at FEW1
  have FEW1 := Lib.hid FEW1
  have HF := Lib.hid hf
  have hn6 : n ≤ 600 := by have := few_len hf; have := HL.out; omega
  clear hf
  by_cases hf2 : fewC [(⟨gc, gn, gb⟩ : Giv)] ≤ 1200
  rotate_left
  · have dF := decide_eq_false hf2
    clear hf2
    go_enter Try.func6, Try.ntmps6
    go_wp2_with (first
      | (go_at_call 16; (with_reducible refine FEW1.out.mono ?_); rintro e w1 ⟨rfl, hb1⟩
         have F1 := Lib.hid (below_step D0.out hb1)
         have OG1 := Lib.hid (Ob.below OG0.out hb1 (Ob.lt OG0.out))
         have OA1 := Lib.hid (Ob.below OA0.out hb1 (Ob.lt OA0.out))
         have g10 := OG1.out.cell 0
         have g11 := OG1.out.cell 1
         have g12 := OG1.out.cell 2
         have AL1 := Lib.hid ((Below.refl w1.heap.size w1).alloc (Nat.le_refl _) (.cells #[.int .i64 gc, .string gn, .slice A1 n1 k1] 49))
         have FEW2 := few_any (one_giv ⟨gc, gn, gb⟩ HOKG.out (HV.out w1 F1.out))
         rw [dF] at FEW2
         have FEW2 := Lib.hid FEW2
         have F1a := Lib.hid (F1.out.alloc F1.out.size (.cells #[.int .i64 gc, .string gn, .slice A1 n1 k1] 49))
         have OG1a := Lib.hid (Ob.below OG1.out AL1.out (Ob.lt OG1.out))
         have OA1a := Lib.hid (Ob.below OA1.out AL1.out (Ob.lt OA1.out))
         clear hb1)
      | (go_at_call 16; (with_reducible refine FEW2.out.mono ?_); rintro e w2 ⟨rfl, hb2⟩
         have F2 := Lib.hid (below_step F1a.out hb2)
         clear hb2)
      | (go_at_call 4; refine (HRUN.out _).mono ?_; rintro e w9 ⟨rfl, hb9⟩; have F9 := Lib.hid (below_step F2.out hb9); clear hb9))
    go_ret
    exact ⟨rfl, F9.out⟩
  have dF := decide_eq_true hf2
  have HGS : Hid (Shorts gb ∧ n1 ≤ 100000 ∧ gn.size ≤ 1000000) := by
    obtain ⟨h1, h2, h3⟩ := few_each hf2 (g := ⟨gc, gn, gb⟩) (by simp)
    refine ⟨fun v hv => ?_, ?_, ?_⟩
    · have := h3 v hv; omega
    · have := HLB.out; simp only at h2; omega
    · simp only at h1; omega
  clear hf2
  by_cases hr : rightA l = 0
  rotate_left
  · obtain ⟨rr, hrr⟩ : ∃ rr, rightA l = rr := ⟨_, rfl⟩
    rw [hrr] at hr
    have hne : (rr != 0) = true := by simpa using hr
    have hrr := Lib.hid hrr
    clear hr
    go_enter Try.func6, Try.ntmps6
    go_wp2_with (first
      | (go_at_call 16; (with_reducible refine FEW1.out.mono ?_); rintro e w1 ⟨rfl, hb1⟩
         have F1 := Lib.hid (below_step D0.out hb1)
         have OG1 := Lib.hid (Ob.below OG0.out hb1 (Ob.lt OG0.out))
         have OA1 := Lib.hid (Ob.below OA0.out hb1 (Ob.lt OA0.out))
         have g10 := OG1.out.cell 0
         have g11 := OG1.out.cell 1
         have g12 := OG1.out.cell 2
         have AL1 := Lib.hid ((Below.refl w1.heap.size w1).alloc (Nat.le_refl _) (.cells #[.int .i64 gc, .string gn, .slice A1 n1 k1] 49))
         have FEW2 := few_any (one_giv ⟨gc, gn, gb⟩ HOKG.out (HV.out w1 F1.out))
         rw [dF] at FEW2
         have FEW2 := Lib.hid FEW2
         have F1a := Lib.hid (F1.out.alloc F1.out.size (.cells #[.int .i64 gc, .string gn, .slice A1 n1 k1] 49))
         have OG1a := Lib.hid (Ob.below OG1.out AL1.out (Ob.lt OG1.out))
         have OA1a := Lib.hid (Ob.below OA1.out AL1.out (Ob.lt OA1.out))
         clear hb1)
      | (go_at_call 16; (with_reducible refine FEW2.out.mono ?_); rintro e w2 ⟨rfl, hb2⟩
         have F2 := Lib.hid (below_step F1a.out hb2)
         have OG2 := Lib.hid (Ob.below OG1a.out hb2 (Ob.lt OG1a.out))
         have OA2 := Lib.hid (Ob.below OA1a.out hb2 (Ob.lt OA1a.out))
         have RI := aright_any (HK.out w2 F2.out)
         rw [hrr.out] at RI
         have RI := Lib.hid RI
         clear hb2)
      | (go_at_call 22; (with_reducible refine RI.out.mono ?_); rintro e w3 ⟨rfl, hb3⟩
         have F3 := Lib.hid (below_step F2.out hb3)
         clear hb3)
      | (go_at_call 4; refine (HRUN.out _).mono ?_; rintro e w9 ⟨rfl, hb9⟩; have F9 := Lib.hid (below_step F3.out hb9); clear hb9))
    go_ret
    exact ⟨rfl, F9.out⟩
  have HR := Lib.hid hr
  clear hr
  by_cases hr : rightA [(⟨gc, gn, gb⟩ : Giv)] = 0
  rotate_left
  · obtain ⟨rr, hrr⟩ : ∃ rr, rightA [(⟨gc, gn, gb⟩ : Giv)] = rr := ⟨_, rfl⟩
    rw [hrr] at hr
    have hne : (rr != 0) = true := by simpa using hr
    have hrr := Lib.hid hrr
    clear hr
    go_enter Try.func6, Try.ntmps6
    go_wp2_with (first
      | (go_at_call 16; (with_reducible refine FEW1.out.mono ?_); rintro e w1 ⟨rfl, hb1⟩
         have F1 := Lib.hid (below_step D0.out hb1)
         have OG1 := Lib.hid (Ob.below OG0.out hb1 (Ob.lt OG0.out))
         have OA1 := Lib.hid (Ob.below OA0.out hb1 (Ob.lt OA0.out))
         have g10 := OG1.out.cell 0
         have g11 := OG1.out.cell 1
         have g12 := OG1.out.cell 2
         have AL1 := Lib.hid ((Below.refl w1.heap.size w1).alloc (Nat.le_refl _) (.cells #[.int .i64 gc, .string gn, .slice A1 n1 k1] 49))
         have FEW2 := few_any (one_giv ⟨gc, gn, gb⟩ HOKG.out (HV.out w1 F1.out))
         rw [dF] at FEW2
         have FEW2 := Lib.hid FEW2
         have F1a := Lib.hid (F1.out.alloc F1.out.size (.cells #[.int .i64 gc, .string gn, .slice A1 n1 k1] 49))
         have OG1a := Lib.hid (Ob.below OG1.out AL1.out (Ob.lt OG1.out))
         have OA1a := Lib.hid (Ob.below OA1.out AL1.out (Ob.lt OA1.out))
         clear hb1)
      | (go_at_call 16; (with_reducible refine FEW2.out.mono ?_); rintro e w2 ⟨rfl, hb2⟩
         have F2 := Lib.hid (below_step F1a.out hb2)
         have OG2 := Lib.hid (Ob.below OG1a.out hb2 (Ob.lt OG1a.out))
         have OA2 := Lib.hid (Ob.below OA1a.out hb2 (Ob.lt OA1a.out))
         have RI := aright_any (HK.out w2 F2.out)
         rw [HR.out] at RI
         have RI := Lib.hid RI
         clear hb2)
      | (go_at_call 22; (with_reducible refine RI.out.mono ?_); rintro e w3 ⟨rfl, hb3⟩
         have F3 := Lib.hid (below_step F2.out hb3)
         have OG3 := Lib.hid (Ob.below OG2.out hb3 (Ob.lt OG2.out))
         have OA3 := Lib.hid (Ob.below OA2.out hb3 (Ob.lt OA2.out))
         have g30 := OG3.out.cell 0
         have g31 := OG3.out.cell 1
         have g32 := OG3.out.cell 2
         have AL3 := Lib.hid ((Below.refl w3.heap.size w3).alloc (Nat.le_refl _) (.cells #[.int .i64 gc, .string gn, .slice A1 n1 k1] 49))
         have RI2 := aright_any (one_giv ⟨gc, gn, gb⟩ HOKG.out (HV.out w3 F3.out))
         rw [hrr.out] at RI2
         have RI2 := Lib.hid RI2
         have F3a := Lib.hid (F3.out.alloc F3.out.size (.cells #[.int .i64 gc, .string gn, .slice A1 n1 k1] 49))
         have OG3a := Lib.hid (Ob.below OG3.out AL3.out (Ob.lt OG3.out))
         have OA3a := Lib.hid (Ob.below OA3.out AL3.out (Ob.lt OA3.out))
         clear hb3)
      | (go_at_call 22; (with_reducible refine RI2.out.mono ?_); rintro e w4 ⟨rfl, hb4⟩
         have F4 := Lib.hid (below_step F3a.out hb4)
         clear hb4)
      | (go_at_call 4; refine (HRUN.out _).mono ?_; rintro e w9 ⟨rfl, hb9⟩; have F9 := Lib.hid (below_step F4.out hb9); clear hb9))
    go_ret
    exact ⟨rfl, F9.out⟩
  have HR2 := Lib.hid hr
  clear hr
  by_cases h60 : 60 ≤ n
  · have h60' : (60 : Int) ≤ (n : Int) := by omega
    go_enter Try.func6, Try.ntmps6
    go_wp2_with (first
      | (go_at_call 16; (with_reducible refine FEW1.out.mono ?_); rintro e w1 ⟨rfl, hb1⟩
         have F1 := Lib.hid (below_step D0.out hb1)
         have OG1 := Lib.hid (Ob.below OG0.out hb1 (Ob.lt OG0.out))
         have OA1 := Lib.hid (Ob.below OA0.out hb1 (Ob.lt OA0.out))
         have g10 := OG1.out.cell 0
         have g11 := OG1.out.cell 1
         have g12 := OG1.out.cell 2
         have AL1 := Lib.hid ((Below.refl w1.heap.size w1).alloc (Nat.le_refl _) (.cells #[.int .i64 gc, .string gn, .slice A1 n1 k1] 49))
         have FEW2 := few_any (one_giv ⟨gc, gn, gb⟩ HOKG.out (HV.out w1 F1.out))
         rw [dF] at FEW2
         have FEW2 := Lib.hid FEW2
         have F1a := Lib.hid (F1.out.alloc F1.out.size (.cells #[.int .i64 gc, .string gn, .slice A1 n1 k1] 49))
         have OG1a := Lib.hid (Ob.below OG1.out AL1.out (Ob.lt OG1.out))
         have OA1a := Lib.hid (Ob.below OA1.out AL1.out (Ob.lt OA1.out))
         clear hb1)
      | (go_at_call 16; (with_reducible refine FEW2.out.mono ?_); rintro e w2 ⟨rfl, hb2⟩
         have F2 := Lib.hid (below_step F1a.out hb2)
         have OG2 := Lib.hid (Ob.below OG1a.out hb2 (Ob.lt OG1a.out))
         have OA2 := Lib.hid (Ob.below OA1a.out hb2 (Ob.lt OA1a.out))
         have RI := aright_any (HK.out w2 F2.out)
         rw [HR.out] at RI
         have RI := Lib.hid RI
         clear hb2)
      | (go_at_call 22; (with_reducible refine RI.out.mono ?_); rintro e w3 ⟨rfl, hb3⟩
         have F3 := Lib.hid (below_step F2.out hb3)
         have OG3 := Lib.hid (Ob.below OG2.out hb3 (Ob.lt OG2.out))
         have OA3 := Lib.hid (Ob.below OA2.out hb3 (Ob.lt OA2.out))
         have g30 := OG3.out.cell 0
         have g31 := OG3.out.cell 1
         have g32 := OG3.out.cell 2
         have AL3 := Lib.hid ((Below.refl w3.heap.size w3).alloc (Nat.le_refl _) (.cells #[.int .i64 gc, .string gn, .slice A1 n1 k1] 49))
         have RI2 := aright_any (one_giv ⟨gc, gn, gb⟩ HOKG.out (HV.out w3 F3.out))
         rw [HR2.out] at RI2
         have RI2 := Lib.hid RI2
         have F3a := Lib.hid (F3.out.alloc F3.out.size (.cells #[.int .i64 gc, .string gn, .slice A1 n1 k1] 49))
         have OG3a := Lib.hid (Ob.below OG3.out AL3.out (Ob.lt OG3.out))
         have OA3a := Lib.hid (Ob.below OA3.out AL3.out (Ob.lt OA3.out))
         clear hb3)
      | (go_at_call 22; (with_reducible refine RI2.out.mono ?_); rintro e w4 ⟨rfl, hb4⟩
         have F4 := Lib.hid (below_step F3a.out hb4)
         have OG4 := Lib.hid (Ob.below OG3a.out hb4 (Ob.lt OG3a.out))
         have OA4 := Lib.hid (Ob.below OA3a.out hb4 (Ob.lt OA3a.out))
         have g40 := OG4.out.cell 0
         have g41 := OG4.out.cell 1
         have g42 := OG4.out.cell 2
         clear hb4)
      | (go_at_call 4; refine (HRUN.out _).mono ?_; rintro e w9 ⟨rfl, hb9⟩; have F9 := Lib.hid (below_step F4.out hb9); clear hb9))
    go_ret
    exact ⟨rfl, F9.out⟩
  have h60' : ¬ (60 : Int) ≤ (n : Int) := by omega
  have HSL := Lib.hid (few_short HF.out)
  have HNL := Lib.hid (few_names HF.out)
  have HSM := Lib.hid (with_short HSL.out (g := ⟨gc, gn, gb⟩) ⟨HGS.out.1, by have := HLB.out; have := HGS.out.2.1; show gb.length ≤ _; omega⟩)
  have HNM := Lib.hid (with_names HNL.out (g := ⟨gc, gn, gb⟩) HGS.out.2.2)
  have HRM := Lib.hid (with_right (g := ⟨gc, gn, gb⟩) HR.out (right_one HR2.out) (by have := HL.out; omega))
  have HGW := Lib.hid (with_get (l := l) (g := ⟨gc, gn, gb⟩))
  have WI : Hid (∀ w, Below W.heap.size W w → Calls Try.prog 24 #[.slice A n c, .agg #[.int .i64 gc, .string gn, .slice A1 n1 k1]] w fun e w' => ∃ A' n' c', e = .returned (.slice A' n' c') ∧ Below w.heap.size w w' ∧ n' ≤ n + 1 ∧ Gr 3 GivAt w' w.heap.size 49 A' n' c' (withA l ⟨gc, gn, gb⟩)) :=
    Lib.hid (fun w hW => awith_any ⟨gc, gn, gb⟩ (HK.out w hW) HSL.out HNL.out (by omega) HOKG.out (HV.out w hW) HGS.out.1 HGS.out.2.1 HGS.out.2.2)
  by_cases hcat : ac = gc
  · subst hcat
    by_cases hnm : an = gn
    · subst hnm
      go_enter Try.func6, Try.ntmps6
      go_wp2_with (first
        | (go_at_call 16; (with_reducible refine FEW1.out.mono ?_); rintro e w1 ⟨rfl, hb1⟩
           have F1 := Lib.hid (below_step D0.out hb1)
           have OG1 := Lib.hid (Ob.below OG0.out hb1 (Ob.lt OG0.out))
           have OA1 := Lib.hid (Ob.below OA0.out hb1 (Ob.lt OA0.out))
           have g10 := OG1.out.cell 0
           have g11 := OG1.out.cell 1
           have g12 := OG1.out.cell 2
           have AL1 := Lib.hid ((Below.refl w1.heap.size w1).alloc (Nat.le_refl _) (.cells #[.int .i64 ac, .string an, .slice A1 n1 k1] 49))
           have FEW2 := few_any (one_giv ⟨ac, an, gb⟩ HOKG.out (HV.out w1 F1.out))
           rw [dF] at FEW2
           have FEW2 := Lib.hid FEW2
           have F1a := Lib.hid (F1.out.alloc F1.out.size (.cells #[.int .i64 ac, .string an, .slice A1 n1 k1] 49))
           have OG1a := Lib.hid (Ob.below OG1.out AL1.out (Ob.lt OG1.out))
           have OA1a := Lib.hid (Ob.below OA1.out AL1.out (Ob.lt OA1.out))
           clear hb1)
        | (go_at_call 16; (with_reducible refine FEW2.out.mono ?_); rintro e w2 ⟨rfl, hb2⟩
           have F2 := Lib.hid (below_step F1a.out hb2)
           have OG2 := Lib.hid (Ob.below OG1a.out hb2 (Ob.lt OG1a.out))
           have OA2 := Lib.hid (Ob.below OA1a.out hb2 (Ob.lt OA1a.out))
           have RI := aright_any (HK.out w2 F2.out)
           rw [HR.out] at RI
           have RI := Lib.hid RI
           clear hb2)
        | (go_at_call 22; (with_reducible refine RI.out.mono ?_); rintro e w3 ⟨rfl, hb3⟩
           have F3 := Lib.hid (below_step F2.out hb3)
           have OG3 := Lib.hid (Ob.below OG2.out hb3 (Ob.lt OG2.out))
           have OA3 := Lib.hid (Ob.below OA2.out hb3 (Ob.lt OA2.out))
           have g30 := OG3.out.cell 0
           have g31 := OG3.out.cell 1
           have g32 := OG3.out.cell 2
           have AL3 := Lib.hid ((Below.refl w3.heap.size w3).alloc (Nat.le_refl _) (.cells #[.int .i64 ac, .string an, .slice A1 n1 k1] 49))
           have RI2 := aright_any (one_giv ⟨ac, an, gb⟩ HOKG.out (HV.out w3 F3.out))
           rw [HR2.out] at RI2
           have RI2 := Lib.hid RI2
           have F3a := Lib.hid (F3.out.alloc F3.out.size (.cells #[.int .i64 ac, .string an, .slice A1 n1 k1] 49))
           have OG3a := Lib.hid (Ob.below OG3.out AL3.out (Ob.lt OG3.out))
           have OA3a := Lib.hid (Ob.below OA3.out AL3.out (Ob.lt OA3.out))
           clear hb3)
        | (go_at_call 22; (with_reducible refine RI2.out.mono ?_); rintro e w4 ⟨rfl, hb4⟩
           have F4 := Lib.hid (below_step F3a.out hb4)
           have OG4 := Lib.hid (Ob.below OG3a.out hb4 (Ob.lt OG3a.out))
           have OA4 := Lib.hid (Ob.below OA3a.out hb4 (Ob.lt OA3a.out))
           have g40 := OG4.out.cell 0
           have g41 := OG4.out.cell 1
           have g42 := OG4.out.cell 2
           clear hb4)
        | (go_at_call 24; (with_reducible refine (WI.out _ F4.out).mono ?_); rintro e w5 ⟨A5, n5, k5, rfl, hb5, hn5, hg5⟩
           have F5 := Lib.hid (below_step F4.out hb5)
           have OG5 := Lib.hid (Ob.below OG4.out hb5 (Ob.lt OG4.out))
           have OA5 := Lib.hid (Ob.below OA4.out hb5 (Ob.lt OA4.out))
           have g50 := OG5.out.cell 0
           have g51 := OG5.out.cell 1
           have g52 := OG5.out.cell 2
           have M5 := Lib.hid (Gr.gvs hg5 (by omega))
           have GT := aget_any ⟨ac, an, false⟩ M5.out HSM.out
           rw [HGW.out.1, HGW.out.2] at GT
           have GT := Lib.hid GT
           clear hb5 hg5)
        | (go_at_call 13; (with_reducible refine GT.out.mono ?_); rintro e w6 ⟨A6, n6, k6, rfl, hb6, hv6⟩
           have F6 := Lib.hid (below_step F5.out hb6)
           have OG6 := Lib.hid (Ob.below OG5.out hb6 (Ob.lt OG5.out))
           have OA6 := Lib.hid (Ob.below OA5.out hb6 (Ob.lt OA5.out))
           have a60 := OA6.out.cell 0
           have a61 := OA6.out.cell 1
           have a62 := OA6.out.cell 2
           have M6 := Lib.hid (M5.out.keep (Kept.all hb6 _) (fun _ h _ => h))
           have X6 := Lib.hid hv6
           have GT2 := Lib.hid (aget_any ⟨ac, an, am⟩ M6.out HSM.out)
           clear hb6 hv6)
        | (go_at_call 13; (with_reducible refine GT2.out.mono ?_); rintro e w7 ⟨A7, n7, k7, rfl, hb7, hv7⟩
           have F7 := Lib.hid (below_step F6.out hb7)
           have OG7 := Lib.hid (Ob.below OG6.out hb7 (Ob.lt OG6.out))
           have OA7 := Lib.hid (Ob.below OA6.out hb7 (Ob.lt OA6.out))
           have a70 := OA7.out.cell 0
           have a71 := OA7.out.cell 1
           have a72 := OA7.out.cell 2
           have M7 := Lib.hid (M6.out.keep (Kept.all hb7 _) (fun _ h _ => h))
           have X7 := Lib.hid (X6.out.keep (Kept.all hb7 _) (fun _ h _ => h))
           have Y7 := Lib.hid hv7
           have GT3 := Lib.hid (aget_any ⟨ac, an, am⟩ (HK.out w7 F7.out) HSL.out)
           clear hb7 hv7)
        | (go_at_call 13; (with_reducible refine GT3.out.mono ?_); rintro e w8 ⟨A8, n8, k8, rfl, hb8, hv8⟩
           have F8 := Lib.hid (below_step F7.out hb8)
           have OG8 := Lib.hid (Ob.below OG7.out hb8 (Ob.lt OG7.out))
           have OA8 := Lib.hid (Ob.below OA7.out hb8 (Ob.lt OA7.out))
           have M8 := Lib.hid (M7.out.keep (Kept.all hb8 _) (fun _ h _ => h))
           have X8 := Lib.hid (X7.out.keep (Kept.all hb8 _) (fun _ h _ => h))
           have Y8 := Lib.hid (Y7.out.keep (Kept.all hb8 _) (fun _ h _ => h))
           have Z8 := Lib.hid hv8
           have RM := aright_any M8.out
           rw [HRM.out] at RM
           have RM := Lib.hid RM
           clear hb8 hv8)
        | (go_at_call 22; (with_reducible refine RM.out.mono ?_); rintro e w10 ⟨rfl, hb10⟩
           have F10 := Lib.hid (below_step F8.out hb10)
           have OG10 := Lib.hid (Ob.below OG8.out hb10 (Ob.lt OG8.out))
           have OA10 := Lib.hid (Ob.below OA8.out hb10 (Ob.lt OA8.out))
           have g100 := OG10.out.cell 2
           have M10 := Lib.hid (M8.out.keep (Kept.all hb10 _) (fun _ h _ => h))
           have Y10 := Lib.hid (Y8.out.keep (Kept.all hb10 _) (fun _ h _ => h))
           have Z10 := Lib.hid (Z8.out.keep (Kept.all hb10 _) (fun _ h _ => h))
           have SB := Lib.hid (bsame_any (X8.out.keep (Kept.all hb10 _) (fun _ h _ => h)) (HV.out w10 F10.out))
           clear hb10)
        | (go_at_call 21; (with_reducible refine SB.out.mono ?_); rintro e w11 ⟨rfl, hb11⟩
           have F11 := Lib.hid (below_step F10.out hb11)
           have OG11 := Lib.hid (Ob.below OG10.out hb11 (Ob.lt OG10.out))
           have OA11 := Lib.hid (Ob.below OA10.out hb11 (Ob.lt OA10.out))
           have g110 := OG11.out.cell 0
           have g111 := OG11.out.cell 1
           have g112 := OG11.out.cell 2
           have M11 := Lib.hid (M10.out.keep (Kept.all hb11 _) (fun _ h _ => h))
           have Y11 := Lib.hid (Y10.out.keep (Kept.all hb11 _) (fun _ h _ => h))
           have Z11 := Lib.hid (Z10.out.keep (Kept.all hb11 _) (fun _ h _ => h))
           have WM := awith_any ⟨ac, an, gb⟩ M11.out HSM.out HNM.out (by omega) HOKG.out (HV.out w11 F11.out) HGS.out.1 HGS.out.2.1 HGS.out.2.2
           rw [with_twice] at WM
           have WM := Lib.hid WM
           clear hb11)
        | (go_at_call 24; (with_reducible refine WM.out.mono ?_); rintro e w12 ⟨A12, n12, k12, rfl, hb12, hn12, hg12⟩
           have F12 := Lib.hid (below_step F11.out hb12)
           have OG12 := Lib.hid (Ob.below OG11.out hb12 (Ob.lt OG11.out))
           have OA12 := Lib.hid (Ob.below OA11.out hb12 (Ob.lt OA11.out))
           have Y12 := Lib.hid (Y11.out.keep (Kept.all hb12 _) (fun _ h _ => h))
           have Z12 := Lib.hid (Z11.out.keep (Kept.all hb12 _) (fun _ h _ => h))
           have SA := Lib.hid (same_asks (Gr.gvs hg12 (by omega)) (M11.out.keep (Kept.all hb12 _) (fun _ h _ => h)))
           clear hb12 hg12)
        | (go_at_call 23; (with_reducible refine SA.out.mono ?_); rintro e w13 ⟨rfl, hb13⟩
           have F13 := Lib.hid (below_step F12.out hb13)
           have OG13 := Lib.hid (Ob.below OG12.out hb13 (Ob.lt OG12.out))
           have OA13 := Lib.hid (Ob.below OA12.out hb13 (Ob.lt OA12.out))
           have g130 := OG13.out.cell 0
           have g131 := OG13.out.cell 1
           have a130 := OA13.out.cell 0
           have a131 := OA13.out.cell 1
           have Y13 := Lib.hid (Y12.out.keep (Kept.all hb13 _) (fun _ h _ => h))
           have Z13 := Lib.hid (Z12.out.keep (Kept.all hb13 _) (fun _ h _ => h))
           clear hb13)
        | (go_at_call 4; refine (HRUN.out _).mono ?_; rintro e w9 ⟨rfl, hb9⟩; have F9 := Lib.hid (below_step F13.out hb9); clear hb9))
      go_ret
      exact ⟨rfl, F9.out⟩
    · have hnl : (an.toList == gn.toList) = false := by
        rw [beq_eq_false_iff_ne]
        intro e
        exact hnm (text_eq (by show an.data.toList = gn.data.toList; rw [← ByteArray.toList_eq, ← ByteArray.toList_eq]; exact e))
      have HE := Lib.hid (with_getE (l := l) (g := ⟨ac, gn, gb⟩) (a := ⟨ac, an, am⟩) (fun e => hnm e.2))
      have HRR := Lib.hid (with_getR (l := l) (g := ⟨ac, gn, gb⟩) (a := ⟨ac, an, am⟩) (fun e => hnm e.2))
      obtain ⟨ee, hee⟩ : ∃ ee, getE l ⟨ac, an, am⟩ = ee := ⟨_, rfl⟩
      obtain ⟨rb, hrb⟩ : ∃ rb, getR l ⟨ac, an, am⟩ = rb := ⟨_, rfl⟩
      rw [hee] at HE
      rw [hrb] at HRR
      have hee := Lib.hid hee
      have hrb := Lib.hid hrb
      clear hnm
      go_enter Try.func6, Try.ntmps6
      go_wp2_with (first
        | (go_at_call 16; (with_reducible refine FEW1.out.mono ?_); rintro e w1 ⟨rfl, hb1⟩
           have F1 := Lib.hid (below_step D0.out hb1)
           have OG1 := Lib.hid (Ob.below OG0.out hb1 (Ob.lt OG0.out))
           have OA1 := Lib.hid (Ob.below OA0.out hb1 (Ob.lt OA0.out))
           have g10 := OG1.out.cell 0
           have g11 := OG1.out.cell 1
           have g12 := OG1.out.cell 2
           have AL1 := Lib.hid ((Below.refl w1.heap.size w1).alloc (Nat.le_refl _) (.cells #[.int .i64 ac, .string gn, .slice A1 n1 k1] 49))
           have FEW2 := few_any (one_giv ⟨ac, gn, gb⟩ HOKG.out (HV.out w1 F1.out))
           rw [dF] at FEW2
           have FEW2 := Lib.hid FEW2
           have F1a := Lib.hid (F1.out.alloc F1.out.size (.cells #[.int .i64 ac, .string gn, .slice A1 n1 k1] 49))
           have OG1a := Lib.hid (Ob.below OG1.out AL1.out (Ob.lt OG1.out))
           have OA1a := Lib.hid (Ob.below OA1.out AL1.out (Ob.lt OA1.out))
           clear hb1)
        | (go_at_call 16; (with_reducible refine FEW2.out.mono ?_); rintro e w2 ⟨rfl, hb2⟩
           have F2 := Lib.hid (below_step F1a.out hb2)
           have OG2 := Lib.hid (Ob.below OG1a.out hb2 (Ob.lt OG1a.out))
           have OA2 := Lib.hid (Ob.below OA1a.out hb2 (Ob.lt OA1a.out))
           have RI := aright_any (HK.out w2 F2.out)
           rw [HR.out] at RI
           have RI := Lib.hid RI
           clear hb2)
        | (go_at_call 22; (with_reducible refine RI.out.mono ?_); rintro e w3 ⟨rfl, hb3⟩
           have F3 := Lib.hid (below_step F2.out hb3)
           have OG3 := Lib.hid (Ob.below OG2.out hb3 (Ob.lt OG2.out))
           have OA3 := Lib.hid (Ob.below OA2.out hb3 (Ob.lt OA2.out))
           have g30 := OG3.out.cell 0
           have g31 := OG3.out.cell 1
           have g32 := OG3.out.cell 2
           have AL3 := Lib.hid ((Below.refl w3.heap.size w3).alloc (Nat.le_refl _) (.cells #[.int .i64 ac, .string gn, .slice A1 n1 k1] 49))
           have RI2 := aright_any (one_giv ⟨ac, gn, gb⟩ HOKG.out (HV.out w3 F3.out))
           rw [HR2.out] at RI2
           have RI2 := Lib.hid RI2
           have F3a := Lib.hid (F3.out.alloc F3.out.size (.cells #[.int .i64 ac, .string gn, .slice A1 n1 k1] 49))
           have OG3a := Lib.hid (Ob.below OG3.out AL3.out (Ob.lt OG3.out))
           have OA3a := Lib.hid (Ob.below OA3.out AL3.out (Ob.lt OA3.out))
           clear hb3)
        | (go_at_call 22; (with_reducible refine RI2.out.mono ?_); rintro e w4 ⟨rfl, hb4⟩
           have F4 := Lib.hid (below_step F3a.out hb4)
           have OG4 := Lib.hid (Ob.below OG3a.out hb4 (Ob.lt OG3a.out))
           have OA4 := Lib.hid (Ob.below OA3a.out hb4 (Ob.lt OA3a.out))
           have g40 := OG4.out.cell 0
           have g41 := OG4.out.cell 1
           have g42 := OG4.out.cell 2
           clear hb4)
        | (go_at_call 24; (with_reducible refine (WI.out _ F4.out).mono ?_); rintro e w5 ⟨A5, n5, k5, rfl, hb5, hn5, hg5⟩
           have F5 := Lib.hid (below_step F4.out hb5)
           have OG5 := Lib.hid (Ob.below OG4.out hb5 (Ob.lt OG4.out))
           have OA5 := Lib.hid (Ob.below OA4.out hb5 (Ob.lt OA4.out))
           have g50 := OG5.out.cell 0
           have g51 := OG5.out.cell 1
           have g52 := OG5.out.cell 2
           have M5 := Lib.hid (Gr.gvs hg5 (by omega))
           have GT := aget_any ⟨ac, gn, false⟩ M5.out HSM.out
           rw [HGW.out.1, HGW.out.2] at GT
           have GT := Lib.hid GT
           clear hb5 hg5)
        | (go_at_call 13; (with_reducible refine GT.out.mono ?_); rintro e w6 ⟨A6, n6, k6, rfl, hb6, hv6⟩
           have F6 := Lib.hid (below_step F5.out hb6)
           have OG6 := Lib.hid (Ob.below OG5.out hb6 (Ob.lt OG5.out))
           have OA6 := Lib.hid (Ob.below OA5.out hb6 (Ob.lt OA5.out))
           have a60 := OA6.out.cell 0
           have a61 := OA6.out.cell 1
           have a62 := OA6.out.cell 2
           have M6 := Lib.hid (M5.out.keep (Kept.all hb6 _) (fun _ h _ => h))
           have X6 := Lib.hid hv6
           have GT2 := aget_any ⟨ac, an, am⟩ M6.out HSM.out
           rw [HE.out, HRR.out] at GT2
           have GT2 := Lib.hid GT2
           clear hb6 hv6)
        | (go_at_call 13; (with_reducible refine GT2.out.mono ?_); rintro e w7 ⟨A7, n7, k7, rfl, hb7, hv7⟩
           have F7 := Lib.hid (below_step F6.out hb7)
           have OG7 := Lib.hid (Ob.below OG6.out hb7 (Ob.lt OG6.out))
           have OA7 := Lib.hid (Ob.below OA6.out hb7 (Ob.lt OA6.out))
           have a70 := OA7.out.cell 0
           have a71 := OA7.out.cell 1
           have a72 := OA7.out.cell 2
           have M7 := Lib.hid (M6.out.keep (Kept.all hb7 _) (fun _ h _ => h))
           have X7 := Lib.hid (X6.out.keep (Kept.all hb7 _) (fun _ h _ => h))
           have Y7 := Lib.hid hv7
           have GT3 := aget_any ⟨ac, an, am⟩ (HK.out w7 F7.out) HSL.out
           rw [hee.out, hrb.out] at GT3
           have GT3 := Lib.hid GT3
           clear hb7 hv7)
        | (go_at_call 13; (with_reducible refine GT3.out.mono ?_); rintro e w8 ⟨A8, n8, k8, rfl, hb8, hv8⟩
           have F8 := Lib.hid (below_step F7.out hb8)
           have OG8 := Lib.hid (Ob.below OG7.out hb8 (Ob.lt OG7.out))
           have OA8 := Lib.hid (Ob.below OA7.out hb8 (Ob.lt OA7.out))
           have M8 := Lib.hid (M7.out.keep (Kept.all hb8 _) (fun _ h _ => h))
           have X8 := Lib.hid (X7.out.keep (Kept.all hb8 _) (fun _ h _ => h))
           have Y8 := Lib.hid (Y7.out.keep (Kept.all hb8 _) (fun _ h _ => h))
           have Z8 := Lib.hid hv8
           have RM := aright_any M8.out
           rw [HRM.out] at RM
           have RM := Lib.hid RM
           clear hb8 hv8)
        | (go_at_call 22; (with_reducible refine RM.out.mono ?_); rintro e w10 ⟨rfl, hb10⟩
           have F10 := Lib.hid (below_step F8.out hb10)
           have OG10 := Lib.hid (Ob.below OG8.out hb10 (Ob.lt OG8.out))
           have OA10 := Lib.hid (Ob.below OA8.out hb10 (Ob.lt OA8.out))
           have g100 := OG10.out.cell 2
           have M10 := Lib.hid (M8.out.keep (Kept.all hb10 _) (fun _ h _ => h))
           have Y10 := Lib.hid (Y8.out.keep (Kept.all hb10 _) (fun _ h _ => h))
           have Z10 := Lib.hid (Z8.out.keep (Kept.all hb10 _) (fun _ h _ => h))
           have SB := Lib.hid (bsame_any (X8.out.keep (Kept.all hb10 _) (fun _ h _ => h)) (HV.out w10 F10.out))
           clear hb10)
        | (go_at_call 21; (with_reducible refine SB.out.mono ?_); rintro e w11 ⟨rfl, hb11⟩
           have F11 := Lib.hid (below_step F10.out hb11)
           have OG11 := Lib.hid (Ob.below OG10.out hb11 (Ob.lt OG10.out))
           have OA11 := Lib.hid (Ob.below OA10.out hb11 (Ob.lt OA10.out))
           have g110 := OG11.out.cell 0
           have g111 := OG11.out.cell 1
           have g112 := OG11.out.cell 2
           have M11 := Lib.hid (M10.out.keep (Kept.all hb11 _) (fun _ h _ => h))
           have Y11 := Lib.hid (Y10.out.keep (Kept.all hb11 _) (fun _ h _ => h))
           have Z11 := Lib.hid (Z10.out.keep (Kept.all hb11 _) (fun _ h _ => h))
           have WM := awith_any ⟨ac, gn, gb⟩ M11.out HSM.out HNM.out (by omega) HOKG.out (HV.out w11 F11.out) HGS.out.1 HGS.out.2.1 HGS.out.2.2
           rw [with_twice] at WM
           have WM := Lib.hid WM
           clear hb11)
        | (go_at_call 24; (with_reducible refine WM.out.mono ?_); rintro e w12 ⟨A12, n12, k12, rfl, hb12, hn12, hg12⟩
           have F12 := Lib.hid (below_step F11.out hb12)
           have OG12 := Lib.hid (Ob.below OG11.out hb12 (Ob.lt OG11.out))
           have OA12 := Lib.hid (Ob.below OA11.out hb12 (Ob.lt OA11.out))
           have Y12 := Lib.hid (Y11.out.keep (Kept.all hb12 _) (fun _ h _ => h))
           have Z12 := Lib.hid (Z11.out.keep (Kept.all hb12 _) (fun _ h _ => h))
           have SA := Lib.hid (same_asks (Gr.gvs hg12 (by omega)) (M11.out.keep (Kept.all hb12 _) (fun _ h _ => h)))
           clear hb12 hg12)
        | (go_at_call 23; (with_reducible refine SA.out.mono ?_); rintro e w13 ⟨rfl, hb13⟩
           have F13 := Lib.hid (below_step F12.out hb13)
           have OG13 := Lib.hid (Ob.below OG12.out hb13 (Ob.lt OG12.out))
           have OA13 := Lib.hid (Ob.below OA12.out hb13 (Ob.lt OA12.out))
           have g130 := OG13.out.cell 0
           have g131 := OG13.out.cell 1
           have a130 := OA13.out.cell 0
           have a131 := OA13.out.cell 1
           have Y13 := Lib.hid (Y12.out.keep (Kept.all hb13 _) (fun _ h _ => h))
           have Z13 := Lib.hid (Z12.out.keep (Kept.all hb13 _) (fun _ h _ => h))
           have SY := Lib.hid (bsame_any Y13.out Z13.out)
           clear hb13)
        | (go_at_call 21; (with_reducible refine SY.out.mono ?_); rintro e w14 ⟨rfl, hb14⟩
           have F14 := Lib.hid (below_step F13.out hb14)
           clear hb14)
        | (go_at_call 4; refine (HRUN.out _).mono ?_; rintro e w9 ⟨rfl, hb9⟩; have F9 := Lib.hid (below_step F14.out hb9); clear hb9))
      go_ret
      exact ⟨rfl, F9.out⟩
  · have hcl : (ac == gc) = false := by simpa using hcat
    have HE := Lib.hid (with_getE (l := l) (g := ⟨gc, gn, gb⟩) (a := ⟨ac, an, am⟩) (fun e => hcat e.1))
    have HRR := Lib.hid (with_getR (l := l) (g := ⟨gc, gn, gb⟩) (a := ⟨ac, an, am⟩) (fun e => hcat e.1))
    obtain ⟨ee, hee⟩ : ∃ ee, getE l ⟨ac, an, am⟩ = ee := ⟨_, rfl⟩
    obtain ⟨rb, hrb⟩ : ∃ rb, getR l ⟨ac, an, am⟩ = rb := ⟨_, rfl⟩
    rw [hee] at HE
    rw [hrb] at HRR
    have hee := Lib.hid hee
    have hrb := Lib.hid hrb
    clear hcat
    go_enter Try.func6, Try.ntmps6
    go_wp2_with (first
      | (go_at_call 16; (with_reducible refine FEW1.out.mono ?_); rintro e w1 ⟨rfl, hb1⟩
         have F1 := Lib.hid (below_step D0.out hb1)
         have OG1 := Lib.hid (Ob.below OG0.out hb1 (Ob.lt OG0.out))
         have OA1 := Lib.hid (Ob.below OA0.out hb1 (Ob.lt OA0.out))
         have g10 := OG1.out.cell 0
         have g11 := OG1.out.cell 1
         have g12 := OG1.out.cell 2
         have AL1 := Lib.hid ((Below.refl w1.heap.size w1).alloc (Nat.le_refl _) (.cells #[.int .i64 gc, .string gn, .slice A1 n1 k1] 49))
         have FEW2 := few_any (one_giv ⟨gc, gn, gb⟩ HOKG.out (HV.out w1 F1.out))
         rw [dF] at FEW2
         have FEW2 := Lib.hid FEW2
         have F1a := Lib.hid (F1.out.alloc F1.out.size (.cells #[.int .i64 gc, .string gn, .slice A1 n1 k1] 49))
         have OG1a := Lib.hid (Ob.below OG1.out AL1.out (Ob.lt OG1.out))
         have OA1a := Lib.hid (Ob.below OA1.out AL1.out (Ob.lt OA1.out))
         clear hb1)
      | (go_at_call 16; (with_reducible refine FEW2.out.mono ?_); rintro e w2 ⟨rfl, hb2⟩
         have F2 := Lib.hid (below_step F1a.out hb2)
         have OG2 := Lib.hid (Ob.below OG1a.out hb2 (Ob.lt OG1a.out))
         have OA2 := Lib.hid (Ob.below OA1a.out hb2 (Ob.lt OA1a.out))
         have RI := aright_any (HK.out w2 F2.out)
         rw [HR.out] at RI
         have RI := Lib.hid RI
         clear hb2)
      | (go_at_call 22; (with_reducible refine RI.out.mono ?_); rintro e w3 ⟨rfl, hb3⟩
         have F3 := Lib.hid (below_step F2.out hb3)
         have OG3 := Lib.hid (Ob.below OG2.out hb3 (Ob.lt OG2.out))
         have OA3 := Lib.hid (Ob.below OA2.out hb3 (Ob.lt OA2.out))
         have g30 := OG3.out.cell 0
         have g31 := OG3.out.cell 1
         have g32 := OG3.out.cell 2
         have AL3 := Lib.hid ((Below.refl w3.heap.size w3).alloc (Nat.le_refl _) (.cells #[.int .i64 gc, .string gn, .slice A1 n1 k1] 49))
         have RI2 := aright_any (one_giv ⟨gc, gn, gb⟩ HOKG.out (HV.out w3 F3.out))
         rw [HR2.out] at RI2
         have RI2 := Lib.hid RI2
         have F3a := Lib.hid (F3.out.alloc F3.out.size (.cells #[.int .i64 gc, .string gn, .slice A1 n1 k1] 49))
         have OG3a := Lib.hid (Ob.below OG3.out AL3.out (Ob.lt OG3.out))
         have OA3a := Lib.hid (Ob.below OA3.out AL3.out (Ob.lt OA3.out))
         clear hb3)
      | (go_at_call 22; (with_reducible refine RI2.out.mono ?_); rintro e w4 ⟨rfl, hb4⟩
         have F4 := Lib.hid (below_step F3a.out hb4)
         have OG4 := Lib.hid (Ob.below OG3a.out hb4 (Ob.lt OG3a.out))
         have OA4 := Lib.hid (Ob.below OA3a.out hb4 (Ob.lt OA3a.out))
         have g40 := OG4.out.cell 0
         have g41 := OG4.out.cell 1
         have g42 := OG4.out.cell 2
         clear hb4)
      | (go_at_call 24; (with_reducible refine (WI.out _ F4.out).mono ?_); rintro e w5 ⟨A5, n5, k5, rfl, hb5, hn5, hg5⟩
         have F5 := Lib.hid (below_step F4.out hb5)
         have OG5 := Lib.hid (Ob.below OG4.out hb5 (Ob.lt OG4.out))
         have OA5 := Lib.hid (Ob.below OA4.out hb5 (Ob.lt OA4.out))
         have g50 := OG5.out.cell 0
         have g51 := OG5.out.cell 1
         have g52 := OG5.out.cell 2
         have M5 := Lib.hid (Gr.gvs hg5 (by omega))
         have GT := aget_any ⟨gc, gn, false⟩ M5.out HSM.out
         rw [HGW.out.1, HGW.out.2] at GT
         have GT := Lib.hid GT
         clear hb5 hg5)
      | (go_at_call 13; (with_reducible refine GT.out.mono ?_); rintro e w6 ⟨A6, n6, k6, rfl, hb6, hv6⟩
         have F6 := Lib.hid (below_step F5.out hb6)
         have OG6 := Lib.hid (Ob.below OG5.out hb6 (Ob.lt OG5.out))
         have OA6 := Lib.hid (Ob.below OA5.out hb6 (Ob.lt OA5.out))
         have a60 := OA6.out.cell 0
         have a61 := OA6.out.cell 1
         have a62 := OA6.out.cell 2
         have M6 := Lib.hid (M5.out.keep (Kept.all hb6 _) (fun _ h _ => h))
         have X6 := Lib.hid hv6
         have GT2 := aget_any ⟨ac, an, am⟩ M6.out HSM.out
         rw [HE.out, HRR.out] at GT2
         have GT2 := Lib.hid GT2
         clear hb6 hv6)
      | (go_at_call 13; (with_reducible refine GT2.out.mono ?_); rintro e w7 ⟨A7, n7, k7, rfl, hb7, hv7⟩
         have F7 := Lib.hid (below_step F6.out hb7)
         have OG7 := Lib.hid (Ob.below OG6.out hb7 (Ob.lt OG6.out))
         have OA7 := Lib.hid (Ob.below OA6.out hb7 (Ob.lt OA6.out))
         have a70 := OA7.out.cell 0
         have a71 := OA7.out.cell 1
         have a72 := OA7.out.cell 2
         have M7 := Lib.hid (M6.out.keep (Kept.all hb7 _) (fun _ h _ => h))
         have X7 := Lib.hid (X6.out.keep (Kept.all hb7 _) (fun _ h _ => h))
         have Y7 := Lib.hid hv7
         have GT3 := aget_any ⟨ac, an, am⟩ (HK.out w7 F7.out) HSL.out
         rw [hee.out, hrb.out] at GT3
         have GT3 := Lib.hid GT3
         clear hb7 hv7)
      | (go_at_call 13; (with_reducible refine GT3.out.mono ?_); rintro e w8 ⟨A8, n8, k8, rfl, hb8, hv8⟩
         have F8 := Lib.hid (below_step F7.out hb8)
         have OG8 := Lib.hid (Ob.below OG7.out hb8 (Ob.lt OG7.out))
         have OA8 := Lib.hid (Ob.below OA7.out hb8 (Ob.lt OA7.out))
         have M8 := Lib.hid (M7.out.keep (Kept.all hb8 _) (fun _ h _ => h))
         have X8 := Lib.hid (X7.out.keep (Kept.all hb8 _) (fun _ h _ => h))
         have Y8 := Lib.hid (Y7.out.keep (Kept.all hb8 _) (fun _ h _ => h))
         have Z8 := Lib.hid hv8
         have RM := aright_any M8.out
         rw [HRM.out] at RM
         have RM := Lib.hid RM
         clear hb8 hv8)
      | (go_at_call 22; (with_reducible refine RM.out.mono ?_); rintro e w10 ⟨rfl, hb10⟩
         have F10 := Lib.hid (below_step F8.out hb10)
         have OG10 := Lib.hid (Ob.below OG8.out hb10 (Ob.lt OG8.out))
         have OA10 := Lib.hid (Ob.below OA8.out hb10 (Ob.lt OA8.out))
         have g100 := OG10.out.cell 2
         have M10 := Lib.hid (M8.out.keep (Kept.all hb10 _) (fun _ h _ => h))
         have Y10 := Lib.hid (Y8.out.keep (Kept.all hb10 _) (fun _ h _ => h))
         have Z10 := Lib.hid (Z8.out.keep (Kept.all hb10 _) (fun _ h _ => h))
         have SB := Lib.hid (bsame_any (X8.out.keep (Kept.all hb10 _) (fun _ h _ => h)) (HV.out w10 F10.out))
         clear hb10)
      | (go_at_call 21; (with_reducible refine SB.out.mono ?_); rintro e w11 ⟨rfl, hb11⟩
         have F11 := Lib.hid (below_step F10.out hb11)
         have OG11 := Lib.hid (Ob.below OG10.out hb11 (Ob.lt OG10.out))
         have OA11 := Lib.hid (Ob.below OA10.out hb11 (Ob.lt OA10.out))
         have g110 := OG11.out.cell 0
         have g111 := OG11.out.cell 1
         have g112 := OG11.out.cell 2
         have M11 := Lib.hid (M10.out.keep (Kept.all hb11 _) (fun _ h _ => h))
         have Y11 := Lib.hid (Y10.out.keep (Kept.all hb11 _) (fun _ h _ => h))
         have Z11 := Lib.hid (Z10.out.keep (Kept.all hb11 _) (fun _ h _ => h))
         have WM := awith_any ⟨gc, gn, gb⟩ M11.out HSM.out HNM.out (by omega) HOKG.out (HV.out w11 F11.out) HGS.out.1 HGS.out.2.1 HGS.out.2.2
         rw [with_twice] at WM
         have WM := Lib.hid WM
         clear hb11)
      | (go_at_call 24; (with_reducible refine WM.out.mono ?_); rintro e w12 ⟨A12, n12, k12, rfl, hb12, hn12, hg12⟩
         have F12 := Lib.hid (below_step F11.out hb12)
         have OG12 := Lib.hid (Ob.below OG11.out hb12 (Ob.lt OG11.out))
         have OA12 := Lib.hid (Ob.below OA11.out hb12 (Ob.lt OA11.out))
         have Y12 := Lib.hid (Y11.out.keep (Kept.all hb12 _) (fun _ h _ => h))
         have Z12 := Lib.hid (Z11.out.keep (Kept.all hb12 _) (fun _ h _ => h))
         have SA := Lib.hid (same_asks (Gr.gvs hg12 (by omega)) (M11.out.keep (Kept.all hb12 _) (fun _ h _ => h)))
         clear hb12 hg12)
      | (go_at_call 23; (with_reducible refine SA.out.mono ?_); rintro e w13 ⟨rfl, hb13⟩
         have F13 := Lib.hid (below_step F12.out hb13)
         have OG13 := Lib.hid (Ob.below OG12.out hb13 (Ob.lt OG12.out))
         have OA13 := Lib.hid (Ob.below OA12.out hb13 (Ob.lt OA12.out))
         have g130 := OG13.out.cell 0
         have g131 := OG13.out.cell 1
         have a130 := OA13.out.cell 0
         have a131 := OA13.out.cell 1
         have Y13 := Lib.hid (Y12.out.keep (Kept.all hb13 _) (fun _ h _ => h))
         have Z13 := Lib.hid (Z12.out.keep (Kept.all hb13 _) (fun _ h _ => h))
         have SY := Lib.hid (bsame_any Y13.out Z13.out)
         clear hb13)
      | (go_at_call 21; (with_reducible refine SY.out.mono ?_); rintro e w14 ⟨rfl, hb14⟩
         have F14 := Lib.hid (below_step F13.out hb14)
         clear hb14)
      | (go_at_call 4; refine (HRUN.out _).mono ?_; rintro e w9 ⟨rfl, hb9⟩; have F9 := Lib.hid (below_step F14.out hb9); clear hb9))
    go_ret
    exact ⟨rfl, F9.out⟩
end Go.Proofs.Ytincnopaclmppaa
