/- PackIn: the walk. -/
import Derived.Test.YtkmpckfpoaakfaaLaws
namespace Go.Proofs.Ytkmpckfpoaakfaa
open Go.RowKit

set_option maxHeartbeats 1600000 in
theorem packIn_walk (n : Int) (hn : (Lit.int .i64 n).wf = true) (lo : Int) (_ : (Lit.int .i64 lo).wf = true) (hi : Int) (_ : (Lit.int .i64 hi).wf = true) (w : World) :
    Calls Try.prog 10 #[.int .i64 n, .int .i64 lo, .int .i64 hi] w fun e w' => e = .returned (.bool true) ∧ Below w.heap.size w w' := by
  obtain ⟨n1, n2⟩ := wf_bounds hn
  have hin := rIn_own (lo := lo) (hi := hi) n1 n2
  have hlen := numB_len n1 n2
  have HIN := Lib.hid hin
  have HLEN := Lib.hid hlen
  clear hin hlen hn
  by_cases hc : lo ≤ n ∧ n ≤ hi
  · obtain ⟨h1, h2⟩ := hc
    go_enter Try.func10, Try.ntmps10
    go_wp2_with fail
    refine (num_nil w n n1 n2).mono ?_
    rintro e w1 ⟨A1, m1, c1, rfl, hown, hb1⟩
    have S1 := Lib.hid (Sl.of_own hown)
    have B1 := Lib.hid hb1
    clear hown hb1
    go_wp2_with fail
    refine (read_any S1.out (by have := S1.out.len; rw [bv_len] at this; have := HLEN.out; omega)).mono ?_
    rintro e w2 ⟨r, rfl, hr2, hb2⟩
    have R2 := Lib.hid hr2
    have B2 := Lib.hid (below_step B1.out hb2)
    have HR := Lib.hid (Nat.le_trans B1.out.size hr2.base)
    clear hr2 hb2
    go_wp2_with fail
    have c3 := rin_any (lo := lo) (hi := hi) R2.out
    rw [HIN.out, if_neg (by omega)] at c3
    refine c3.mono ?_
    clear c3
    rintro e w3 ⟨rfl, hr3, ho3⟩
    have R3 := Lib.hid hr3
    have B3 := Lib.hid (only_step B2.out ho3 HR.out)
    clear hr3 ho3
    go_wp2_with fail
    refine (end_any R3.out).mono ?_
    rintro e w4 ⟨rfl, k, rfl⟩
    have he : endOf (numB n) (numB n).length 0 = 0 := endOf_all _
    simp only [he]
    clear he
    go_wp2_with fail
    refine (runs_any _).mono ?_
    rintro e w5 ⟨rfl, hb5⟩
    have B5 := Lib.hid (below_step (below_drewN B3.out k) hb5)
    clear hb5
    go_wp2_with fail
    go_ret
    exact ⟨rfl, B5.out⟩
  · by_cases h1 : lo ≤ n
    all_goals
      try (have h2 : hi < n := by omega)
      clear hc
      go_enter Try.func10, Try.ntmps10
      go_wp2_with fail
      refine (num_nil w n n1 n2).mono ?_
      rintro e w1 ⟨A1, m1, c1, rfl, hown, hb1⟩
      have S1 := Lib.hid (Sl.of_own hown)
      have B1 := Lib.hid hb1
      clear hown hb1
      go_wp2_with fail
      refine (read_any S1.out (by have := S1.out.len; rw [bv_len] at this; have := HLEN.out; omega)).mono ?_
      rintro e w2 ⟨r, rfl, hr2, hb2⟩
      have R2 := Lib.hid hr2
      have B2 := Lib.hid (below_step B1.out hb2)
      have HR := Lib.hid (Nat.le_trans B1.out.size hr2.base)
      clear hr2 hb2
      go_wp2_with fail
      have c3 := rin_any (lo := lo) (hi := hi) R2.out
      rw [HIN.out, if_pos (by omega)] at c3
      refine c3.mono ?_
      clear c3
      rintro e w3 ⟨rfl, hr3, ho3⟩
      have R3 := Lib.hid hr3
      have B3 := Lib.hid (only_step B2.out ho3 HR.out)
      clear hr3 ho3
      go_wp2_with fail
      refine (wrong_any R3.out).mono ?_
      rintro e w4 ⟨rfl, rfl⟩
      go_wp2_with fail
      refine (at_any R3.out).mono ?_
      rintro e w4 ⟨rfl, rfl⟩
      go_wp2_with fail
      refine (runs_any _).mono ?_
      rintro e w5 ⟨rfl, hb5⟩
      have B5 := Lib.hid (below_step B3.out hb5)
      clear hb5
      go_wp2_with fail
      go_ret
      exact ⟨rfl, B5.out⟩
end Go.Proofs.Ytkmpckfpoaakfaa
