/- FunRuns: the walk, in any world. -/
import Derived.Test.YtjcegpakacedoaaFunFacts
import Derived.Lib.QuietBelow
namespace Go.Proofs.Ytjcegpakacedoaa
set_option linter.unusedVariables false
open Go.RowKit Go.Sort

set_option maxHeartbeats 3200000 in
theorem fruns_any (w : World) : Calls Try.prog 3 #[] w fun e w' => e = .returned (.bool true) ∧ Below w.heap.size w w' := by
  have C1 := Lib.hid (fun w => fits_is (show fits (9223372036854775807 + 1) = (0, 3) by decide +kernel) (add_any 9223372036854775807 1 (by decide +kernel) (by decide +kernel) w))
  have C2 := Lib.hid (fun w => fits_is (show fits (-9223372036854775808 * -1) = (0, 3) by decide +kernel) (mul_any (-9223372036854775808) (-1) (by decide +kernel) (by decide +kernel) w))
  go_enter Try.func3, Try.ntmps3
  go_wp2_with fail
  refine (C1.out _).mono ?_
  rintro e w' ⟨rfl, rfl⟩
  go_wp2_with fail
  refine (C2.out _).mono ?_
  rintro e w' ⟨rfl, rfl⟩
  go_wp2_with fail
  refine (lnum_any _ _).mono ?_
  rintro e w1 ⟨rfl, hb⟩
  have D1 := Lib.hid hb
  clear hb
  go_wp2_with fail
  refine (lnum_any _ _).mono ?_
  rintro e w2 ⟨rfl, hb⟩
  have D2 := Lib.hid (below_step D1.out hb)
  clear hb
  go_wp2_with fail
  refine (call_pair (Vs.lit2 w2 (numV 2) (numV 3) (num_ok (by decide)) (num_ok (by decide))) (by rw [size_al]; omega) (by omega) 7 (k := 1) (m := 1) (s := ⟨#[]⟩) (e := 0) (f_less 2 3)).mono ?_
  rintro e w3 ⟨rfl, hb⟩
  have D3 := Lib.hid (below_step D2.out (Below.lit hb))
  clear hb
  go_wp2_with fail
  refine (lnum_any _ _).mono ?_
  rintro e w4 ⟨rfl, hb⟩
  have D4 := Lib.hid (below_step D3.out (Below.lit hb))
  have X4 := Lib.hid ((Bx.made w3 1 1 ⟨#[]⟩).then_ hb)
  clear hb
  go_wp2_with fail
  refine (call_pair (Vs.lit2 w4 (numV 2) two2 (num_ok (by decide)) ⟨by decide, by decide, by decide⟩) (by rw [size_al]; omega) (by omega) 6 (k := 0) (m := 0) (s := ⟨#[]⟩) (e := 2) f_eq_kind).mono ?_
  rintro e w5 ⟨rfl, hb⟩
  have D5 := Lib.hid (below_step D4.out (Below.lit hb))
  have X5 := Lib.hid (X4.out.then_ (Below.lit hb))
  clear hb
  go_wp2_with fail
  refine (ltruth_any _ _).mono ?_
  rintro e w6 ⟨rfl, hb⟩
  have D6 := Lib.hid (below_step D5.out (Below.lit hb))
  have X6 := Lib.hid (X5.out.then_ (Below.lit hb))
  clear hb
  go_wp2_with fail
  refine (call_pair (Vs.lit1 w6 (truthV true) (truth_ok true)) (by rw [size_al]; omega) (by omega) 11 (k := 1) (m := 0) (s := ⟨#[]⟩) (e := 0) (f_not true)).mono ?_
  rintro e w7 ⟨rfl, hb⟩
  have D7 := Lib.hid (below_step D6.out (Below.lit hb))
  have X7 := Lib.hid (X6.out.then_ (Below.lit hb))
  clear hb
  have c0 := X7.out.c3
  have hlt : w3.heap.size < w7.heap.size := X7.out.lt
  go_wp2_with fail
  have X8 := Lib.hid (X7.out.alloc (.cells #[.int .i64 1, .int .i64 0, .string ⟨#[]⟩] 26))
  have Y8 := Lib.hid (Bx.made w7 1 0 ⟨#[]⟩)
  have D8 := Lib.hid (D7.out.trans ((below1 w7 (.cells #[.int .i64 1, .int .i64 0, .string ⟨#[]⟩] 26)).mono D7.out.size))
  generalize w7.alloc (.cells #[.int .i64 1, .int .i64 0, .string ⟨#[]⟩] 26) = w8 at *
  obtain ⟨x0, x1, x2⟩ := X8.out.grown
  obtain ⟨y0, y1, y2⟩ := Y8.out.grown
  have TT := Lib.hid (fun d os => Calls.regrown_of (w := w8) (d := d) (os := os) (show Calls _ _ _ (grow (redrawn w8 d) os) fun e w' => e = .returned (.agg #[.int .i64 1, .int .i64 1, .string ⟨#[]⟩]) ∧ _ from ltruth_any true (grow (redrawn w8 d) os)))
  have TF := Lib.hid (fun d os => Calls.regrown_of (w := w8) (d := d) (os := os) (show Calls _ _ _ (grow (redrawn w8 d) os) fun e w' => e = .returned (.agg #[.int .i64 1, .int .i64 0, .string ⟨#[]⟩]) ∧ _ from ltruth_any false (grow (redrawn w8 d) os)))
  have hve : ∀ W, _ = Result.ok true W := fun W => (val_eq 1 1 1 1 ⟨#[]⟩ ⟨#[]⟩ W).trans (by rw [veq_true rfl])
  have hvf : ∀ W, _ = Result.ok true W := fun W => (val_eq 1 0 1 0 ⟨#[]⟩ ⟨#[]⟩ W).trans (by rw [veq_true rfl])
  clear c0
  refine wp_region_quiet_below (by kernel_rfl) (by kernel_rfl) ?_
  repeat (go_big_quiet_step ((first | (go_at_call 13; with_reducible exact TT.out _ _) | (go_at_call 13; with_reducible exact TF.out _ _))))
  refine wpQuiet_nil ?_
  intro _ hw'
  obtain ⟨⟨dq, osq⟩, hw''⟩ := hw'
  subst hw''
  clear x0 x1 x2 y0 y1 y2
  go_wp2_with fail
  go_ret
  exact ⟨rfl, below_step D8.out (below_regrown w8 dq osq)⟩
theorem funRuns_walk (w : World) : Calls Try.prog 3 #[] w fun e w' => e = .returned (.bool true) ∧ Below w.heap.size w w' := fruns_any w
end Go.Proofs.Ytjcegpakacedoaa
