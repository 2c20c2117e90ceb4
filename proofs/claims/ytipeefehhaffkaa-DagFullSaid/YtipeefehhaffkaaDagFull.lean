/- DagFull, walked (gen16full.py). -/
import Derived.Test.YtipeefehhaffkaaDagRunsW
import Derived.Test.YtipeefehhaffkaaWithin
import Derived.Test.YtipeefehhaffkaaOpenNums
namespace Go.Proofs.Ytipeefehhaffkaa
set_option linter.unusedVariables false
open Go.RowKit Go.Sort

theorem brF_in {k : Nat} (h : k ≤ 1000) : (brF k).ok := by
  unfold Br.ok InI brF
  simp only
  omega
set_option maxRecDepth 100000 in
set_option maxHeartbeats 6400000 in
theorem dagFull_walk (W : World) (m : Int) (hm : (Lit.int .i64 m).wf = true) (A : Option Addr) (n c : Nat) (h : ∃ l, Sl W W.heap.size A n c (nv l)) :
    Calls Try.prog 7 #[.int .i64 m, .slice A n c] W fun e w' => e = .returned (.bool true) ∧ Below W.heap.size W w' := by
  obtain ⟨l, hl⟩ := h
  have hle := hl.le
  have hcap := hl.cap
  unfold maxLen at hcap
  have HS := Lib.hid hl
  clear hl
  obtain ⟨z0, z1⟩ := within_le (n := m) (lo := 0) (hi := 29) (by omega)
  obtain ⟨N, hN⟩ : ∃ N : Nat, 1 + withinOf m 0 29 = (N : Int) := ⟨(1 + withinOf m 0 29).toNat, by omega⟩
  have hw1 : IntKind.i64.wrap (1 + withinOf m 0 29) = (N : Int) := by rw [IntKind.wrap_i64]; omega
  have hN1 : 1 ≤ N ∧ N ≤ 30 := by omega
  clear hN z0 z1
  go_enter Try.func7, Try.ntmps7
  go_wp2_with fail
  refine (within_any (by omega) (by omega) (by omega)).mono ?_
  rintro e w0 ⟨rfl, hw0⟩
  rw [← hw0]
  clear hw0
  go_wp2_with fail
  refine (new_at (N : Int) (by omega) (by omega) (Nat.le_refl _)).mono ?_
  rintro e w1 ⟨g, rfl, hd, hb⟩
  have D := Lib.hid hd
  have B := Lib.hid hb
  clear hd hb hw1
  go_wp2_with fail
  go_loopw [8] (fun i wr => ∃ k : Nat, k ≤ N ∧ i = .int .i64 k ∧ (∃ A' n' c', DgAt 57 wr W.heap.size g N A' n' c' (fullL k)) ∧ Below W.heap.size W wr) (fun i _ => N - (intOf i).toNat)
  case atStart => exact ⟨0, by omega, rfl, ⟨_, _, _, D.out⟩, B.out⟩
  case round =>
    clear D B
    obtain ⟨w2, hw2⟩ : ∃ w2, w2 = wr := ⟨wr, rfl⟩
    subst hw2
    obtain ⟨k, hk, rfl, ⟨A1, n1, c1, hd⟩, hb⟩ := hrel
    have D := Lib.hid hd
    have B := Lib.hid hb
    clear hd hb
    by_cases hlt : k < N
    · have hkI : (k : Int) < (N : Int) := by omega
      have h7 : (k : Int).tmod 7 = ((k % 7 : Nat) : Int) := by rw [Int.tmod_eq_emod_of_nonneg (by omega)]; omega
      have e1 : IntKind.i64.wrap (-1 - (k : Int)) = -1 - (k : Int) := by rw [IntKind.wrap_i64]; omega
      have e2 : IntKind.i64.wrap (-2 - (k : Int)) = -2 - (k : Int) := by rw [IntKind.wrap_i64]; omega
      have e3 : IntKind.i64.wrap (-3 - (k : Int)) = -3 - (k : Int) := by rw [IntKind.wrap_i64]; omega
      go_wp2_with fail
      refine (bl_any ((k % 7 : Nat) : Int) (-1 - (k : Int)) (-2 - (k : Int)) (-3 - (k : Int))).mono ?_
      rintro e w3 ⟨rfl, hb⟩
      have D := Lib.hid (D.out.below hb)
      have B := Lib.hid (Below.up B.out (by have := B.out.size; omega) hb)
      clear hb h7 e1 e2 e3
      go_wp2_with fail
      refine (make_is D.out (b := brF k) (brF_in (by omega)) (make_full (n := N) hlt hN1.2)).mono ?_
      rintro e w4 ⟨rfl, hb, A2, n2, c2, hd⟩
      have B := Lib.hid (B.out.trans hb)
      have D := Lib.hid hd
      clear hb hd
      go_wp2_with fail
      go_roundw
      case rel => exact ⟨k + 1, by omega, by go_num, ⟨_, _, _, D.out⟩, B.out⟩
      case measure => simp [intOf]; omega
    · obtain rfl : N = k := by omega
      go_wp2_with fail
      refine (bl_any 0 (-100) (-101) (-102)).mono ?_
      rintro e w3 ⟨rfl, hb⟩
      have D := Lib.hid (D.out.below hb)
      have B := Lib.hid (Below.up B.out (by have := B.out.size; omega) hb)
      clear hb
      go_wp2_with fail
      refine (make_is D.out (b := ⟨0, -100, -101, -102⟩) (by unfold Br.ok InI; decide) (make_over hN1.2)).mono ?_
      rintro e w4 ⟨rfl, hb, A2, n2, c2, hd⟩
      have B := Lib.hid (B.out.trans hb)
      have D := Lib.hid hd
      clear hb hd
      go_wp2_with fail
      refine (bl_any 3 (-50) (-50) (-50)).mono ?_
      rintro e w5 ⟨rfl, hb⟩
      have D := Lib.hid (D.out.below hb)
      have B := Lib.hid (Below.up B.out (by have := B.out.size; omega) hb)
      clear hb
      go_wp2_with fail
      refine (make_is D.out (b := ⟨3, -50, -50, -50⟩) (by unfold Br.ok InI; decide) (make_same _ _)).mono ?_
      rintro e w6 ⟨rfl, hb, A3, n3, c3, hd⟩
      have B := Lib.hid (B.out.trans hb)
      have D := Lib.hid hd
      clear hb hd
      go_wp2_with fail
      go_loopw [15] (fun i wr => ∃ k : Nat, k ≤ 20 ∧ i = .int .i64 k ∧ (∃ A' n' c', DgAt 57 wr W.heap.size g N A' n' c' (fullL N)) ∧ Below W.heap.size W wr) (fun i _ => 20 - (intOf i).toNat)
      case atStart => exact ⟨0, by omega, rfl, ⟨_, _, _, D.out⟩, B.out⟩
      case round =>
        clear D B
        obtain ⟨w7, hw7⟩ : ∃ w7, w7 = wr := ⟨wr, rfl⟩
        subst hw7
        obtain ⟨k, hk2, rfl, ⟨A4, n4, c4, hd⟩, hb⟩ := hrel
        have D := Lib.hid hd
        have B := Lib.hid hb
        clear hd hb
        by_cases hin : k < n ∧ k < 20
        · obtain ⟨bx, o, x, rfl, _, hx, x0⟩ := (HS.out.below B.out).num hin.1
          have hki : (k : Int) < (n : Int) := by omega
          have hk20 : (k : Int) < 20 := by omega
          clear hx hin
          obtain ⟨y0, y1⟩ := within_le (n := x) (lo := 0) (hi := (N : Int) - 1) (by omega)
          obtain ⟨j, hj⟩ : ∃ j : Nat, withinOf x 0 ((N : Int) - 1) = (j : Int) := ⟨(withinOf x 0 ((N : Int) - 1)).toNat, by omega⟩
          have hjN : j < N := by omega
          have HJ := Lib.hid hj
          have hw2 : IntKind.i64.wrap ((N : Int) - 1) = (N : Int) - 1 := by rw [IntKind.wrap_i64]; omega
          clear hj y0 y1
          go_wp2_with fail
          refine (within_any (by omega) (by omega) (by omega)).mono ?_
          rintro e w0 ⟨rfl, hw0⟩
          rw [← hw0, HJ.out]
          clear hw0 hw2 x0
          have h7 : (j : Int).tmod 7 = ((j % 7 : Nat) : Int) := by rw [Int.tmod_eq_emod_of_nonneg (by omega)]; omega
          have e1 : IntKind.i64.wrap (-1 - (j : Int)) = -1 - (j : Int) := by rw [IntKind.wrap_i64]; omega
          have e2 : IntKind.i64.wrap (-2 - (j : Int)) = -2 - (j : Int) := by rw [IntKind.wrap_i64]; omega
          have e3 : IntKind.i64.wrap (-3 - (j : Int)) = -3 - (j : Int) := by rw [IntKind.wrap_i64]; omega
          go_wp2_with fail
          refine (bl_any ((j % 7 : Nat) : Int) (-1 - (j : Int)) (-2 - (j : Int)) (-3 - (j : Int))).mono ?_
          rintro e w8 ⟨rfl, hb⟩
          have D := Lib.hid (D.out.below hb)
          have B := Lib.hid (Below.up B.out (by have := B.out.size; omega) hb)
          clear hb h7 e1 e2 e3
          go_wp2_with fail
          refine (make_is D.out (b := brF j) (brF_in (by omega)) (make_again hjN hN1.2)).mono ?_
          rintro e w9 ⟨rfl, hb, A5, n5, c5, hd⟩
          have B := Lib.hid (B.out.trans hb)
          have D := Lib.hid hd
          clear hb hd
          go_wp2_with fail
          go_roundw
          case rel => exact ⟨k + 1, by omega, by go_num, ⟨_, _, _, D.out⟩, B.out⟩
          case measure => simp [intOf]; omega
        · have hn4 : n4 = N := by have := D.out.len; rw [fullL_len] at this; omega
          have HN4 := Lib.hid hn4
          have CL := Lib.hid (len_any D.out)
          rw [HN4.out] at CL
          clear hn4
          by_cases hkn : k < n
          · have hki : (k : Int) < (n : Int) := by omega
            have hk20 : ¬ (k : Int) < 20 := by omega
            clear hin
            go_wp2_with fail
            refine CL.out.mono ?_
            rintro e we ⟨rfl, hb⟩
            rw [← hb]
            clear hb
            go_wp2_with fail
            refine (dagruns_any _).mono ?_
            rintro e wf ⟨rfl, hb⟩
            have B := Lib.hid (Below.up B.out (by have := B.out.size; omega) hb)
            clear hb
            go_wp2_with fail
            go_ret
            exact ⟨rfl, B.out⟩
          · have hki : ¬ (k : Int) < (n : Int) := by omega
            clear hin
            go_wp2_with fail
            refine CL.out.mono ?_
            rintro e we ⟨rfl, hb⟩
            rw [← hb]
            clear hb
            go_wp2_with fail
            refine (dagruns_any _).mono ?_
            rintro e wf ⟨rfl, hb⟩
            have B := Lib.hid (Below.up B.out (by have := B.out.size; omega) hb)
            clear hb
            go_wp2_with fail
            go_ret
            exact ⟨rfl, B.out⟩
end Go.Proofs.Ytipeefehhaffkaa
