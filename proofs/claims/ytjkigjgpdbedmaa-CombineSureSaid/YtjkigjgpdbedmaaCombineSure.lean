/- CombineSure: the walk. -/
import Derived.Test.YtjkigjgpdbedmaaCombKit
import Derived.Test.YtjkigjgpdbedmaaMkSteps
namespace Go.Proofs.Ytjkigjgpdbedmaa
set_option linter.unusedVariables false
open Go.RowKit
attribute [local go_sem] eq0 eq2 eq4 gt0 gt2 ord_eq ord_gt ord_lt run_max_fl

def SureRel (l : List Mk) (p d u m i : Value) : Prop :=
  ∃ k : Nat, k ≤ l.length ∧ i = .int .i64 (k : Int) ∧ ∃ (bp bd bu : Bool) (c : Nat), p = .bool bp ∧ d = .bool bd ∧ u = .bool bu ∧ m = .int .i64 (c : Int) ∧ c ≤ 20 ∧
    hasM (4, 0) (l.take k) = bp ∧ hasM (0, 4) (l.take k) = bd ∧ anyU (l.take k) = bu ∧ cnt (l.take k) = c
theorem or_eq {a b c : Bool} (h : a = b) (k : c = false) : (a || c) = b := by rw [h, k, Bool.or_false]
theorem or_eq' {a b c : Bool} (k : c = true) : (a || c) = true := by rw [k, Bool.or_true]

set_option maxHeartbeats 25600000 in
theorem combineSure_walk (W : World) (A : Option Addr) (n c : Nat) (h : ∃ l, Sl W W.heap.size A n c (nv l)) :
    Calls Try.prog 8 #[.slice A n c] W fun e w' => e = .returned (.bool true) ∧ Below W.heap.size W w' := by
  obtain ⟨L, h⟩ := h
  have hrow := row_any h (Nat.le_refl _)
  have h6 := rowM_six L
  have h20 := rowM_len L
  generalize rowM L = l at *
  have HR := Lib.hid hrow
  have H6 := Lib.hid h6
  clear hrow h h6
  go_enter Try.func8, Try.ntmps8
  go_wp2_with fail
  refine HR.out.mono ?_
  rintro x w1 ⟨A1, c1, rfl, hown, hb⟩
  have hs := Sl.of_own hown
  have hle := hs.le
  have hcap := hs.cap
  unfold maxLen at hcap
  have HB1 := Lib.hid hb
  have HS := Lib.hid hs
  clear hown hb hs
  go_wp2_with fail
  go_loop [4, 5, 6, 7, 21] (fun p d u m i => SureRel l p d u m i) (fun _ _ _ _ i => l.length - (intOf i).toNat)
  case atStart => exact ⟨0, Nat.zero_le _, rfl, false, false, false, 0, rfl, rfl, rfl, rfl, by omega, rfl, rfl, rfl, rfl⟩
  case round =>
    obtain ⟨k, hk, rfl, bp, bd, bu, cc, rfl, rfl, rfl, rfl, hcc, r1, r2, r3, r4⟩ := hrel
    have R1 := Lib.hid r1
    have R2 := Lib.hid r2
    have R3 := Lib.hid r3
    have R4 := Lib.hid r4
    clear r1 r2 r3 r4
    by_cases hlt : k < l.length
    · have hc1 : cc + 1 ≤ 20 := by
        have := cnt_le (l.take k)
        rw [R4.out, List.length_take] at this
        omega
      obtain ⟨b, o, p, d, rfl, _, hx, hc⟩ := HS.out.mark hlt
      have S1 := Lib.hid ((hasM_step hx (4, 0)).trans (by rw [R1.out]))
      have S2 := Lib.hid ((hasM_step hx (0, 4)).trans (by rw [R2.out]))
      have S3 := Lib.hid ((anyU_step hx).trans (by rw [R3.out]))
      have S4 := Lib.hid ((cnt_step hx).trans (by rw [R4.out]))
      have hv := six_of p d (H6.out _ (List.mem_of_getElem? hx))
      clear hx R1 R2 R3 R4
      obtain ⟨rfl, rfl⟩ | ⟨rfl, rfl⟩ | ⟨rfl, rfl⟩ | ⟨rfl, rfl⟩ | ⟨rfl, rfl⟩ | ⟨rfl, rfl⟩ := hv
      all_goals
        cases bp
        all_goals
          cases bd
          all_goals
            cases bu
            all_goals
              go_wp2_with fail
              go_round
              case rel => exact ⟨k + 1, by omega, by go_num, _, _, _, _, rfl, rfl, rfl, rfl, by omega, S1.out, S2.out, S3.out, S4.out⟩
              case measure => simp [intOf]; omega
    · obtain rfl : k = l.length := by omega
      rw [List.take_length] at R1 R2 R3 R4
      obtain ⟨q0, e0, m0⟩ : ∃ p d : Fin 5, makeM 0 l = (p, d) := ⟨_, _, rfl⟩
      obtain ⟨q1, e1, m1⟩ : ∃ p d : Fin 5, makeM 1 l = (p, d) := ⟨_, _, rfl⟩
      obtain ⟨q3, e3, m3⟩ : ∃ p d : Fin 5, makeM 3 l = (p, d) := ⟨_, _, rfl⟩
      have C0 := Lib.hid (all_at (x := 1) 0 (by decide +kernel) HS.out H6.out m0)
      have C1 := Lib.hid (all_at (x := 2) 1 (by decide +kernel) HS.out H6.out m1)
      have C3 := Lib.hid (all_at (x := 4) 3 (by decide +kernel) HS.out H6.out m3)
      have d0 : (q0 == 0 && e0 == 4) = bd := by
        rw [← R2.out, hasM, Bool.eq_iff_iff, decide_eq_true_iff, ← make_deny H6.out, m0]; simp
      have d1 : (q1 == 4 && e1 == 0) = bp := by
        rw [← R1.out, hasM, Bool.eq_iff_iff, decide_eq_true_iff, ← make_permit H6.out, m1]; simp
      have d3 : (q3 == 2 && e3 == 2) = (bu || decide (1 < cc)) := by
        rw [← R3.out, ← R4.out, Bool.eq_iff_iff, Bool.or_eq_true, decide_eq_true_iff, ← make_only_two, m3]; simp
      have dw : bu = false → (q0, e0) = if bd then ((0, 4) : Mk) else if bp then (4, 0) else (0, 0) := by
        intro hu
        rw [← m0, make_sure H6.out (R3.out.trans hu), ← R1.out, ← R2.out]
        simp [hasM]
      clear m0 m1 m3 R1 R2 R3 R4 HS H6 HR
      by_cases hm : 1 < cc
      all_goals
        first
          | rw [decide_eq_true hm, Bool.or_true] at d3
          | rw [decide_eq_false hm, Bool.or_false] at d3
        cases bu
        all_goals
          cases bd
          all_goals
            cases bp
            all_goals
              try (
                have dw' := dw rfl
                simp only [if_true, if_false, Bool.false_eq_true, Prod.mk.injEq] at dw'
                obtain ⟨rfl, rfl⟩ := dw'
                clear d0)
              clear dw
              go_wp2_with fail
              refine (C0.out).mono ?_
              rintro x w' ⟨rfl, rfl⟩
              go_wp2_with fail
              refine (C1.out).mono ?_
              rintro x w' ⟨rfl, rfl⟩
              go_wp2_with fail
              refine (C3.out).mono ?_
              rintro x w' ⟨rfl, rfl⟩
              go_wp2_with fail
              all_goals
                first
                  | (rename_i hbad; rw [decide_eq_true (by omega)] at hbad; cases hbad)
                  | (refine (runs_any _).mono ?_
                     rintro x w3 ⟨rfl, hb3⟩
                     have hb4 := Lib.hid (below_step HB1.out hb3)
                     clear hb3
                     go_wp2_with fail
                     go_ret
                     exact ⟨rfl, hb4.out⟩)
end Go.Proofs.Ytjkigjgpdbedmaa
