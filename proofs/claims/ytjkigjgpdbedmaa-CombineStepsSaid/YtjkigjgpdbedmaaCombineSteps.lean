/- CombineSteps: the walk, an algorithm each. Written by gen5steps.py. -/
import Derived.Test.YtjkigjgpdbedmaaCombKit
import Derived.Test.YtjkigjgpdbedmaaMkSteps
namespace Go.Proofs.Ytjkigjgpdbedmaa
set_option linter.unusedVariables false
open Go.RowKit
attribute [local go_sem] eq0 eq2 eq4 gt0 gt2 ord_eq ord_gt ord_lt run_max_fl

def StepRel (a : Fin 6) (l : List Mk) (j u i : Value) : Prop :=
  ∃ k : Nat, k ≤ l.length ∧ i = .int .i64 (k : Int) ∧ ∃ (p d : Fin 5) (bu : Bool), j = .complex .f64 (fl p) (fl d) ∧ u = .bool bu ∧ foldM a (l.take k) = (p, d) ∧ anyU (l.take k) = bu

set_option maxHeartbeats 12800000 in
theorem steps_0 (W : World) (g : Int) (A : Option Addr) (n c : Nat) (L : List Int) (h : Sl W W.heap.size A n c (nv L))
    (c0 : ∀ w, Calls Try.prog 13 #[.int .i64 g, .int .i64 0, .int .i64 5] w fun e w' => e = .returned (.int .i64 0) ∧ w = w') :
    Calls Try.prog 6 #[.int .i64 g, .slice A n c] W fun e w' => e = .returned (.bool true) ∧ Below W.heap.size W w' := by
  have hrow := row_any h (Nat.le_refl _)
  have h6 := rowM_six L
  have h20 := rowM_len L
  generalize rowM L = l at *
  have HR := Lib.hid hrow
  have H6 := Lib.hid h6
  have C0 := Lib.hid c0
  clear hrow h h6 c0
  go_enter Try.func6, Try.ntmps6
  go_wp2_with fail
  refine (C0.out _).mono ?_
  rintro x w' ⟨rfl, rfl⟩
  go_wp2_with fail
  refine HR.out.mono ?_
  rintro x w1 ⟨A1, c1, rfl, hown, hb⟩
  have hs := Sl.of_own hown
  have hle := hs.le
  have hcap := hs.cap
  unfold maxLen at hcap
  have HB1 := Lib.hid hb
  have HS := Lib.hid hs
  clear hown hb hs
  go_wp2_with fail
  go_loop [7, 8, 21] (fun j u i => StepRel 0 l j u i) (fun _ _ i => l.length - (intOf i).toNat)
  case atStart => exact ⟨0, Nat.zero_le _, rfl, 0, 0, false, by rw [fl0], rfl, rfl, rfl⟩
  case round =>
    obtain ⟨k, hk, rfl, p, d, bu, rfl, rfl, r1, r2⟩ := hrel
    have R1 := Lib.hid r1
    have R2 := Lib.hid r2
    clear r1 r2
    by_cases hlt : k < l.length
    · obtain ⟨b, o, q, e, rfl, _, hx, hc⟩ := HS.out.mark hlt
      obtain ⟨r, f, hm⟩ : ∃ r f : Fin 5, stepM 0 (p, d) (q, e) = (r, f) := ⟨_, _, rfl⟩
      have S1 := Lib.hid ((fold_take 0 hx).trans ((congrArg (fun m => stepM 0 m (q, e)) R1.out).trans hm))
      have S2 := Lib.hid ((anyU_step hx).trans (by rw [R2.out]))
      have CS := Lib.hid (step_at (x := 1) 0 (by decide +kernel) hm)
      have hv := six_of q e (H6.out _ (List.mem_of_getElem? hx))
      clear hx R1 R2 hm
      obtain ⟨rfl, rfl⟩ | ⟨rfl, rfl⟩ | ⟨rfl, rfl⟩ | ⟨rfl, rfl⟩ | ⟨rfl, rfl⟩ | ⟨rfl, rfl⟩ := hv
      all_goals
        cases bu
        all_goals
          go_wp2_with fail
          refine (CS.out _).mono ?_
          rintro x w' ⟨rfl, rfl⟩
          go_wp2_with fail
          go_round
          case rel => exact ⟨k + 1, by omega, by go_num, _, _, _, rfl, rfl, S1.out, S2.out⟩
          case measure => simp [intOf]; omega
    · obtain rfl : k = l.length := by omega
      rw [List.take_length] at R1 R2
      have CA := Lib.hid (all_at (x := 1) 0 (by decide +kernel) HS.out H6.out (show makeM 0 l = (overP p d, overD p d) from make_fold R1.out rfl))
      go_wp2_with fail
      refine (CA.out).mono ?_
      rintro x w' ⟨rfl, rfl⟩
      go_wp2_with fail
      refine (over_any p d _).mono ?_
      rintro x w' ⟨rfl, rfl⟩
      go_wp2_with fail
      refine (runs_any _).mono ?_
      rintro x w3 ⟨rfl, hb3⟩
      have hb4 := Lib.hid (below_step HB1.out hb3)
      clear hb3
      go_wp2_with fail
      go_ret
      exact ⟨rfl, hb4.out⟩

set_option maxHeartbeats 12800000 in
theorem steps_1 (W : World) (g : Int) (A : Option Addr) (n c : Nat) (L : List Int) (h : Sl W W.heap.size A n c (nv L))
    (c0 : ∀ w, Calls Try.prog 13 #[.int .i64 g, .int .i64 0, .int .i64 5] w fun e w' => e = .returned (.int .i64 1) ∧ w = w') :
    Calls Try.prog 6 #[.int .i64 g, .slice A n c] W fun e w' => e = .returned (.bool true) ∧ Below W.heap.size W w' := by
  have hrow := row_any h (Nat.le_refl _)
  have h6 := rowM_six L
  have h20 := rowM_len L
  generalize rowM L = l at *
  have HR := Lib.hid hrow
  have H6 := Lib.hid h6
  have C0 := Lib.hid c0
  clear hrow h h6 c0
  go_enter Try.func6, Try.ntmps6
  go_wp2_with fail
  refine (C0.out _).mono ?_
  rintro x w' ⟨rfl, rfl⟩
  go_wp2_with fail
  refine HR.out.mono ?_
  rintro x w1 ⟨A1, c1, rfl, hown, hb⟩
  have hs := Sl.of_own hown
  have hle := hs.le
  have hcap := hs.cap
  unfold maxLen at hcap
  have HB1 := Lib.hid hb
  have HS := Lib.hid hs
  clear hown hb hs
  go_wp2_with fail
  go_loop [7, 8, 21] (fun j u i => StepRel 1 l j u i) (fun _ _ i => l.length - (intOf i).toNat)
  case atStart => exact ⟨0, Nat.zero_le _, rfl, 0, 0, false, by rw [fl0], rfl, rfl, rfl⟩
  case round =>
    obtain ⟨k, hk, rfl, p, d, bu, rfl, rfl, r1, r2⟩ := hrel
    have R1 := Lib.hid r1
    have R2 := Lib.hid r2
    clear r1 r2
    by_cases hlt : k < l.length
    · obtain ⟨b, o, q, e, rfl, _, hx, hc⟩ := HS.out.mark hlt
      obtain ⟨r, f, hm⟩ : ∃ r f : Fin 5, stepM 1 (p, d) (q, e) = (r, f) := ⟨_, _, rfl⟩
      have S1 := Lib.hid ((fold_take 1 hx).trans ((congrArg (fun m => stepM 1 m (q, e)) R1.out).trans hm))
      have S2 := Lib.hid ((anyU_step hx).trans (by rw [R2.out]))
      have CS := Lib.hid (step_at (x := 2) 1 (by decide +kernel) hm)
      have hv := six_of q e (H6.out _ (List.mem_of_getElem? hx))
      clear hx R1 R2 hm
      obtain ⟨rfl, rfl⟩ | ⟨rfl, rfl⟩ | ⟨rfl, rfl⟩ | ⟨rfl, rfl⟩ | ⟨rfl, rfl⟩ | ⟨rfl, rfl⟩ := hv
      all_goals
        cases bu
        all_goals
          go_wp2_with fail
          refine (CS.out _).mono ?_
          rintro x w' ⟨rfl, rfl⟩
          go_wp2_with fail
          go_round
          case rel => exact ⟨k + 1, by omega, by go_num, _, _, _, rfl, rfl, S1.out, S2.out⟩
          case measure => simp [intOf]; omega
    · obtain rfl : k = l.length := by omega
      rw [List.take_length] at R1 R2
      have CA := Lib.hid (all_at (x := 2) 1 (by decide +kernel) HS.out H6.out (show makeM 1 l = (overD d p, overP d p) from make_fold R1.out rfl))
      go_wp2_with fail
      refine (CA.out).mono ?_
      rintro x w' ⟨rfl, rfl⟩
      go_wp2_with fail
      refine (turn_any p d _).mono ?_
      rintro x w' ⟨rfl, rfl⟩
      go_wp2_with fail
      refine (over_any d p _).mono ?_
      rintro x w' ⟨rfl, rfl⟩
      go_wp2_with fail
      refine (turn_any _ _ _).mono ?_
      rintro x w' ⟨rfl, rfl⟩
      go_wp2_with fail
      refine (runs_any _).mono ?_
      rintro x w3 ⟨rfl, hb3⟩
      have hb4 := Lib.hid (below_step HB1.out hb3)
      clear hb3
      go_wp2_with fail
      go_ret
      exact ⟨rfl, hb4.out⟩

set_option maxHeartbeats 12800000 in
theorem steps_2 (W : World) (g : Int) (A : Option Addr) (n c : Nat) (L : List Int) (h : Sl W W.heap.size A n c (nv L))
    (c0 : ∀ w, Calls Try.prog 13 #[.int .i64 g, .int .i64 0, .int .i64 5] w fun e w' => e = .returned (.int .i64 2) ∧ w = w') :
    Calls Try.prog 6 #[.int .i64 g, .slice A n c] W fun e w' => e = .returned (.bool true) ∧ Below W.heap.size W w' := by
  have hrow := row_any h (Nat.le_refl _)
  have h6 := rowM_six L
  have h20 := rowM_len L
  generalize rowM L = l at *
  have HR := Lib.hid hrow
  have H6 := Lib.hid h6
  have C0 := Lib.hid c0
  clear hrow h h6 c0
  go_enter Try.func6, Try.ntmps6
  go_wp2_with fail
  refine (C0.out _).mono ?_
  rintro x w' ⟨rfl, rfl⟩
  go_wp2_with fail
  refine HR.out.mono ?_
  rintro x w1 ⟨A1, c1, rfl, hown, hb⟩
  have hs := Sl.of_own hown
  have hle := hs.le
  have hcap := hs.cap
  unfold maxLen at hcap
  have HB1 := Lib.hid hb
  have HS := Lib.hid hs
  clear hown hb hs
  go_wp2_with fail
  go_loop [7, 8, 21] (fun j u i => StepRel 2 l j u i) (fun _ _ i => l.length - (intOf i).toNat)
  case atStart => exact ⟨0, Nat.zero_le _, rfl, 0, 0, false, by rw [fl0], rfl, rfl, rfl⟩
  case round =>
    obtain ⟨k, hk, rfl, p, d, bu, rfl, rfl, r1, r2⟩ := hrel
    have R1 := Lib.hid r1
    have R2 := Lib.hid r2
    clear r1 r2
    by_cases hlt : k < l.length
    · obtain ⟨b, o, q, e, rfl, _, hx, hc⟩ := HS.out.mark hlt
      obtain ⟨r, f, hm⟩ : ∃ r f : Fin 5, stepM 2 (p, d) (q, e) = (r, f) := ⟨_, _, rfl⟩
      have S1 := Lib.hid ((fold_take 2 hx).trans ((congrArg (fun m => stepM 2 m (q, e)) R1.out).trans hm))
      have S2 := Lib.hid ((anyU_step hx).trans (by rw [R2.out]))
      have CS := Lib.hid (step_at (x := 3) 2 (by decide +kernel) hm)
      have hv := six_of q e (H6.out _ (List.mem_of_getElem? hx))
      clear hx R1 R2 hm
      obtain ⟨rfl, rfl⟩ | ⟨rfl, rfl⟩ | ⟨rfl, rfl⟩ | ⟨rfl, rfl⟩ | ⟨rfl, rfl⟩ | ⟨rfl, rfl⟩ := hv
      all_goals
        cases bu
        all_goals
          go_wp2_with fail
          refine (CS.out _).mono ?_
          rintro x w' ⟨rfl, rfl⟩
          go_wp2_with fail
          go_round
          case rel => exact ⟨k + 1, by omega, by go_num, _, _, _, rfl, rfl, S1.out, S2.out⟩
          case measure => simp [intOf]; omega
    · obtain rfl : k = l.length := by omega
      rw [List.take_length] at R1 R2
      have CA := Lib.hid (all_at (x := 3) 2 (by decide +kernel) HS.out H6.out (show makeM 2 l = (p, d) from make_fold R1.out rfl))
      go_wp2_with fail
      refine (CA.out).mono ?_
      rintro x w' ⟨rfl, rfl⟩
      go_wp2_with fail
      refine (runs_any _).mono ?_
      rintro x w3 ⟨rfl, hb3⟩
      have hb4 := Lib.hid (below_step HB1.out hb3)
      clear hb3
      go_wp2_with fail
      go_ret
      exact ⟨rfl, hb4.out⟩

set_option maxHeartbeats 12800000 in
theorem steps_3 (W : World) (g : Int) (A : Option Addr) (n c : Nat) (L : List Int) (h : Sl W W.heap.size A n c (nv L))
    (c0 : ∀ w, Calls Try.prog 13 #[.int .i64 g, .int .i64 0, .int .i64 5] w fun e w' => e = .returned (.int .i64 3) ∧ w = w') :
    Calls Try.prog 6 #[.int .i64 g, .slice A n c] W fun e w' => e = .returned (.bool true) ∧ Below W.heap.size W w' := by
  have hrow := row_any h (Nat.le_refl _)
  have h6 := rowM_six L
  have h20 := rowM_len L
  generalize rowM L = l at *
  have HR := Lib.hid hrow
  have H6 := Lib.hid h6
  have C0 := Lib.hid c0
  clear hrow h h6 c0
  go_enter Try.func6, Try.ntmps6
  go_wp2_with fail
  refine (C0.out _).mono ?_
  rintro x w' ⟨rfl, rfl⟩
  go_wp2_with fail
  refine HR.out.mono ?_
  rintro x w1 ⟨A1, c1, rfl, hown, hb⟩
  have hs := Sl.of_own hown
  have hle := hs.le
  have hcap := hs.cap
  unfold maxLen at hcap
  have HB1 := Lib.hid hb
  have HS := Lib.hid hs
  clear hown hb hs
  go_wp2_with fail
  go_loop [7, 8, 21] (fun j u i => StepRel 3 l j u i) (fun _ _ i => l.length - (intOf i).toNat)
  case atStart => exact ⟨0, Nat.zero_le _, rfl, 0, 0, false, by rw [fl0], rfl, rfl, rfl⟩
  case round =>
    obtain ⟨k, hk, rfl, p, d, bu, rfl, rfl, r1, r2⟩ := hrel
    have R1 := Lib.hid r1
    have R2 := Lib.hid r2
    clear r1 r2
    by_cases hlt : k < l.length
    · obtain ⟨b, o, q, e, rfl, _, hx, hc⟩ := HS.out.mark hlt
      obtain ⟨r, f, hm⟩ : ∃ r f : Fin 5, stepM 3 (p, d) (q, e) = (r, f) := ⟨_, _, rfl⟩
      have S1 := Lib.hid ((fold_take 3 hx).trans ((congrArg (fun m => stepM 3 m (q, e)) R1.out).trans hm))
      have S2 := Lib.hid ((anyU_step hx).trans (by rw [R2.out]))
      have CS := Lib.hid (step_at (x := 4) 3 (by decide +kernel) hm)
      have hv := six_of q e (H6.out _ (List.mem_of_getElem? hx))
      clear hx R1 R2 hm
      obtain ⟨rfl, rfl⟩ | ⟨rfl, rfl⟩ | ⟨rfl, rfl⟩ | ⟨rfl, rfl⟩ | ⟨rfl, rfl⟩ | ⟨rfl, rfl⟩ := hv
      all_goals
        cases bu
        all_goals
          go_wp2_with fail
          refine (CS.out _).mono ?_
          rintro x w' ⟨rfl, rfl⟩
          go_wp2_with fail
          go_round
          case rel => exact ⟨k + 1, by omega, by go_num, _, _, _, rfl, rfl, S1.out, S2.out⟩
          case measure => simp [intOf]; omega
    · obtain rfl : k = l.length := by omega
      rw [List.take_length] at R1 R2
      cases bu
      · have CA := Lib.hid (all_at (x := 4) 3 (by decide +kernel) HS.out H6.out (show makeM 3 l = (p, d) from by rw [make_only, R2.out, R1.out]; rfl))
        go_wp2_with fail
        refine (CA.out).mono ?_
        rintro x w' ⟨rfl, rfl⟩
        go_wp2_with fail
        refine (runs_any _).mono ?_
        rintro x w3 ⟨rfl, hb3⟩
        have hb4 := Lib.hid (below_step HB1.out hb3)
        clear hb3
        go_wp2_with fail
        go_ret
        exact ⟨rfl, hb4.out⟩
      · have CA := Lib.hid (all_at (x := 4) 3 (by decide +kernel) HS.out H6.out (show makeM 3 l = (2, 2) from by rw [make_only, R2.out]; rfl))
        go_wp2_with fail
        refine (CA.out).mono ?_
        rintro x w' ⟨rfl, rfl⟩
        go_wp2_with fail
        refine (runs_any _).mono ?_
        rintro x w3 ⟨rfl, hb3⟩
        have hb4 := Lib.hid (below_step HB1.out hb3)
        clear hb3
        go_wp2_with fail
        go_ret
        exact ⟨rfl, hb4.out⟩

set_option maxHeartbeats 12800000 in
theorem steps_4 (W : World) (g : Int) (A : Option Addr) (n c : Nat) (L : List Int) (h : Sl W W.heap.size A n c (nv L))
    (c0 : ∀ w, Calls Try.prog 13 #[.int .i64 g, .int .i64 0, .int .i64 5] w fun e w' => e = .returned (.int .i64 4) ∧ w = w') :
    Calls Try.prog 6 #[.int .i64 g, .slice A n c] W fun e w' => e = .returned (.bool true) ∧ Below W.heap.size W w' := by
  have hrow := row_any h (Nat.le_refl _)
  have h6 := rowM_six L
  have h20 := rowM_len L
  generalize rowM L = l at *
  have HR := Lib.hid hrow
  have H6 := Lib.hid h6
  have C0 := Lib.hid c0
  clear hrow h h6 c0
  go_enter Try.func6, Try.ntmps6
  go_wp2_with fail
  refine (C0.out _).mono ?_
  rintro x w' ⟨rfl, rfl⟩
  go_wp2_with fail
  refine HR.out.mono ?_
  rintro x w1 ⟨A1, c1, rfl, hown, hb⟩
  have hs := Sl.of_own hown
  have hle := hs.le
  have hcap := hs.cap
  unfold maxLen at hcap
  have HB1 := Lib.hid hb
  have HS := Lib.hid hs
  clear hown hb hs
  go_wp2_with fail
  go_loop [7, 8, 21] (fun j u i => StepRel 4 l j u i) (fun _ _ i => l.length - (intOf i).toNat)
  case atStart => exact ⟨0, Nat.zero_le _, rfl, 0, 0, false, by rw [fl0], rfl, rfl, rfl⟩
  case round =>
    obtain ⟨k, hk, rfl, p, d, bu, rfl, rfl, r1, r2⟩ := hrel
    have R1 := Lib.hid r1
    have R2 := Lib.hid r2
    clear r1 r2
    by_cases hlt : k < l.length
    · obtain ⟨b, o, q, e, rfl, _, hx, hc⟩ := HS.out.mark hlt
      obtain ⟨r, f, hm⟩ : ∃ r f : Fin 5, stepM 4 (p, d) (q, e) = (r, f) := ⟨_, _, rfl⟩
      have S1 := Lib.hid ((fold_take 4 hx).trans ((congrArg (fun m => stepM 4 m (q, e)) R1.out).trans hm))
      have S2 := Lib.hid ((anyU_step hx).trans (by rw [R2.out]))
      have CS := Lib.hid (step_at (x := 5) 4 (by decide +kernel) hm)
      have hv := six_of q e (H6.out _ (List.mem_of_getElem? hx))
      clear hx R1 R2 hm
      obtain ⟨rfl, rfl⟩ | ⟨rfl, rfl⟩ | ⟨rfl, rfl⟩ | ⟨rfl, rfl⟩ | ⟨rfl, rfl⟩ | ⟨rfl, rfl⟩ := hv
      all_goals
        cases bu
        all_goals
          go_wp2_with fail
          refine (CS.out _).mono ?_
          rintro x w' ⟨rfl, rfl⟩
          go_wp2_with fail
          go_round
          case rel => exact ⟨k + 1, by omega, by go_num, _, _, _, rfl, rfl, S1.out, S2.out⟩
          case measure => simp [intOf]; omega
    · obtain rfl : k = l.length := by omega
      rw [List.take_length] at R1 R2
      by_cases hp : p = 4
      · have hp1 : (p == 4) = true := by simp [hp]
        have CA := Lib.hid (all_at (x := 5) 4 (by decide +kernel) HS.out H6.out (show makeM 4 l = (4, 0) from make_fold R1.out (by simp only [decideM, hp]; rfl)))
        clear hp
        go_wp2_with fail
        refine (CA.out).mono ?_
        rintro x w' ⟨rfl, rfl⟩
        go_wp2_with fail
        refine (runs_any _).mono ?_
        rintro x w3 ⟨rfl, hb3⟩
        have hb4 := Lib.hid (below_step HB1.out hb3)
        clear hb3
        go_wp2_with fail
        go_ret
        exact ⟨rfl, hb4.out⟩
      · have hp1 : (p == 4) = false := by simp [hp]
        have CA := Lib.hid (all_at (x := 5) 4 (by decide +kernel) HS.out H6.out (show makeM 4 l = (0, 4) from make_fold R1.out (by simp only [decideM, hp]; rfl)))
        clear hp
        go_wp2_with fail
        refine (CA.out).mono ?_
        rintro x w' ⟨rfl, rfl⟩
        go_wp2_with fail
        refine (runs_any _).mono ?_
        rintro x w3 ⟨rfl, hb3⟩
        have hb4 := Lib.hid (below_step HB1.out hb3)
        clear hb3
        go_wp2_with fail
        go_ret
        exact ⟨rfl, hb4.out⟩

set_option maxHeartbeats 12800000 in
theorem steps_5 (W : World) (g : Int) (A : Option Addr) (n c : Nat) (L : List Int) (h : Sl W W.heap.size A n c (nv L))
    (c0 : ∀ w, Calls Try.prog 13 #[.int .i64 g, .int .i64 0, .int .i64 5] w fun e w' => e = .returned (.int .i64 5) ∧ w = w') :
    Calls Try.prog 6 #[.int .i64 g, .slice A n c] W fun e w' => e = .returned (.bool true) ∧ Below W.heap.size W w' := by
  have hrow := row_any h (Nat.le_refl _)
  have h6 := rowM_six L
  have h20 := rowM_len L
  generalize rowM L = l at *
  have HR := Lib.hid hrow
  have H6 := Lib.hid h6
  have C0 := Lib.hid c0
  clear hrow h h6 c0
  go_enter Try.func6, Try.ntmps6
  go_wp2_with fail
  refine (C0.out _).mono ?_
  rintro x w' ⟨rfl, rfl⟩
  go_wp2_with fail
  refine HR.out.mono ?_
  rintro x w1 ⟨A1, c1, rfl, hown, hb⟩
  have hs := Sl.of_own hown
  have hle := hs.le
  have hcap := hs.cap
  unfold maxLen at hcap
  have HB1 := Lib.hid hb
  have HS := Lib.hid hs
  clear hown hb hs
  go_wp2_with fail
  go_loop [7, 8, 21] (fun j u i => StepRel 5 l j u i) (fun _ _ i => l.length - (intOf i).toNat)
  case atStart => exact ⟨0, Nat.zero_le _, rfl, 0, 0, false, by rw [fl0], rfl, rfl, rfl⟩
  case round =>
    obtain ⟨k, hk, rfl, p, d, bu, rfl, rfl, r1, r2⟩ := hrel
    have R1 := Lib.hid r1
    have R2 := Lib.hid r2
    clear r1 r2
    by_cases hlt : k < l.length
    · obtain ⟨b, o, q, e, rfl, _, hx, hc⟩ := HS.out.mark hlt
      obtain ⟨r, f, hm⟩ : ∃ r f : Fin 5, stepM 5 (p, d) (q, e) = (r, f) := ⟨_, _, rfl⟩
      have S1 := Lib.hid ((fold_take 5 hx).trans ((congrArg (fun m => stepM 5 m (q, e)) R1.out).trans hm))
      have S2 := Lib.hid ((anyU_step hx).trans (by rw [R2.out]))
      have CS := Lib.hid (step_at (x := 6) 5 (by decide +kernel) hm)
      have hv := six_of q e (H6.out _ (List.mem_of_getElem? hx))
      clear hx R1 R2 hm
      obtain ⟨rfl, rfl⟩ | ⟨rfl, rfl⟩ | ⟨rfl, rfl⟩ | ⟨rfl, rfl⟩ | ⟨rfl, rfl⟩ | ⟨rfl, rfl⟩ := hv
      all_goals
        cases bu
        all_goals
          go_wp2_with fail
          refine (CS.out _).mono ?_
          rintro x w' ⟨rfl, rfl⟩
          go_wp2_with fail
          go_round
          case rel => exact ⟨k + 1, by omega, by go_num, _, _, _, rfl, rfl, S1.out, S2.out⟩
          case measure => simp [intOf]; omega
    · obtain rfl : k = l.length := by omega
      rw [List.take_length] at R1 R2
      by_cases hp : d = 4
      · have hp1 : (d == 4) = true := by simp [hp]
        have CA := Lib.hid (all_at (x := 6) 5 (by decide +kernel) HS.out H6.out (show makeM 5 l = (0, 4) from make_fold R1.out (by simp only [decideM, hp]; rfl)))
        clear hp
        go_wp2_with fail
        refine (CA.out).mono ?_
        rintro x w' ⟨rfl, rfl⟩
        go_wp2_with fail
        refine (runs_any _).mono ?_
        rintro x w3 ⟨rfl, hb3⟩
        have hb4 := Lib.hid (below_step HB1.out hb3)
        clear hb3
        go_wp2_with fail
        go_ret
        exact ⟨rfl, hb4.out⟩
      · have hp1 : (d == 4) = false := by simp [hp]
        have CA := Lib.hid (all_at (x := 6) 5 (by decide +kernel) HS.out H6.out (show makeM 5 l = (4, 0) from make_fold R1.out (by simp only [decideM, hp]; rfl)))
        clear hp
        go_wp2_with fail
        refine (CA.out).mono ?_
        rintro x w' ⟨rfl, rfl⟩
        go_wp2_with fail
        refine (runs_any _).mono ?_
        rintro x w3 ⟨rfl, hb3⟩
        have hb4 := Lib.hid (below_step HB1.out hb3)
        clear hb3
        go_wp2_with fail
        go_ret
        exact ⟨rfl, hb4.out⟩

theorem combineSteps_walk (W : World) (g : Int) (hg : (Lit.int .i64 g).wf = true) (A : Option Addr) (n c : Nat) (h : ∃ l, Sl W W.heap.size A n c (nv l)) :
    Calls Try.prog 6 #[.int .i64 g, .slice A n c] W fun e w' => e = .returned (.bool true) ∧ Below W.heap.size W w' := by
  obtain ⟨L, h⟩ := h
  obtain ⟨a, v, x, c0, hx, hv⟩ := alg_cases g
  obtain ⟨rfl, rfl, rfl⟩ | ⟨rfl, rfl, rfl⟩ | ⟨rfl, rfl, rfl⟩ | ⟨rfl, rfl, rfl⟩ | ⟨rfl, rfl, rfl⟩ | ⟨rfl, rfl, rfl⟩ := hv
  · exact steps_0 W g A n c L h c0
  · exact steps_1 W g A n c L h c0
  · exact steps_2 W g A n c L h c0
  · exact steps_3 W g A n c L h c0
  · exact steps_4 W g A n c L h c0
  · exact steps_5 W g A n c L h c0
end Go.Proofs.Ytjkigjgpdbedmaa
