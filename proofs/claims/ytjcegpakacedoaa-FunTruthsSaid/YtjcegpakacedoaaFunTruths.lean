/- FunTruths: the walk. -/
import Derived.Test.YtjcegpakacedoaaFunRuns
namespace Go.Proofs.Ytjcegpakacedoaa
set_option linter.unusedVariables false
open Go.RowKit Go.Sort

theorem ltruth_t (w : World) : Calls Try.prog 13 #[.bool true] w fun e w' => e = .returned (.agg #[.int .i64 1, .int .i64 1, .string ⟨#[]⟩]) ∧ Below w.heap.size w w' := ltruth_any true w
theorem ltruth_f (w : World) : Calls Try.prog 13 #[.bool false] w fun e w' => e = .returned (.agg #[.int .i64 1, .int .i64 0, .string ⟨#[]⟩]) ∧ Below w.heap.size w w' := ltruth_any false w

set_option maxHeartbeats 6400000 in
set_option maxRecDepth 100000 in
theorem funTruths_11 (m : Int) (im : In64 m) (n : Int) (im2 : In64 n) (w : World) :
    Calls Try.prog 7 #[.bool true, .bool true, .int .i64 m, .int .i64 n] w fun e w' => e = .returned (.bool true) ∧ Below w.heap.size w w' := by
  have Im := Lib.hid im
  have In := Lib.hid im2
  clear im im2
  have he := f_eq m n
  have hl := f_less m n
  have te := ltruth_any (m == n)
  rw [show truthN (m == n) = truthN (decide (m = n)) by rw [eq_dec]] at te
  have tl := ltruth_any (decide (m < n))
  rw [show callV 6 [numV m, numV n] = (truthV (decide (m = n)), 0) ↔ callV 6 [numV m, numV n] = (⟨1, truthN (decide (m = n)), ⟨#[]⟩⟩, 0) from Iff.rfl] at he
  rw [show callV 7 [numV m, numV n] = (truthV (decide (m < n)), 0) ↔ callV 7 [numV m, numV n] = (⟨1, truthN (decide (m < n)), ⟨#[]⟩⟩, 0) from Iff.rfl] at hl
  generalize truthN (decide (m = n)) = N1 at *
  generalize truthN (decide (m < n)) = N2 at *
  have HE := Lib.hid he
  have HL := Lib.hid hl
  have TE := Lib.hid te
  have TL := Lib.hid tl
  clear he hl te tl
  go_enter Try.func7, Try.ntmps7
  go_wp2_with fail
  refine (ltruth_t _).mono ?_
  rintro e w1 ⟨rfl, hb⟩
  have D1 := Lib.hid (hb)
  clear hb
  go_wp2_with fail
  refine (ltruth_t _).mono ?_
  rintro e w2 ⟨rfl, hb⟩
  have D2 := Lib.hid (below_step D1.out hb)
  clear hb D1
  go_wp2_with fail
  refine (call_pair (Vs.lit2 _ (truthV true) (truthV true) (truth_ok true) (truth_ok true)) (by rw [size_al]; omega) (by omega) 12 (k := 1) (m := 1) (s := ⟨#[]⟩) (e := 0) (f_and true true)).mono ?_
  rintro e w3 ⟨rfl, hb⟩
  have D3 := Lib.hid (below_step D2.out (Below.lit hb))
  clear hb D2
  go_wp2_with fail
  refine (ltruth_t _).mono ?_
  rintro e w4 ⟨rfl, hb⟩
  have D4 := Lib.hid (below_step D3.out (Below.lit hb))
  have XA_4 := Lib.hid ((Bx.made w3 1 1 ⟨#[]⟩).then_ hb)
  clear hb D3
  go_wp2_with fail
  refine (ltruth_t _).mono ?_
  rintro e w5 ⟨rfl, hb⟩
  have D5 := Lib.hid (below_step D4.out hb)
  have XA_5 := Lib.hid (XA_4.out.then_ hb)
  clear hb XA_4 D4
  go_wp2_with fail
  refine (call_pair (Vs.lit2 _ (truthV true) (truthV true) (truth_ok true) (truth_ok true)) (by rw [size_al]; omega) (by omega) 13 (k := 1) (m := 1) (s := ⟨#[]⟩) (e := 0) (f_or true true)).mono ?_
  rintro e w6 ⟨rfl, hb⟩
  have D6 := Lib.hid (below_step D5.out (Below.lit hb))
  have XA_6 := Lib.hid (XA_5.out.then_ (Below.lit hb))
  clear hb XA_5 D5
  go_wp2_with fail
  refine (ltruth_t _).mono ?_
  rintro e w7 ⟨rfl, hb⟩
  have D7 := Lib.hid (below_step D6.out (Below.lit hb))
  have XA_7 := Lib.hid (XA_6.out.then_ (Below.lit hb))
  have XB_7 := Lib.hid ((Bx.made w6 1 1 ⟨#[]⟩).then_ hb)
  clear hb XA_6 D6
  go_wp2_with fail
  refine (call_pair (Vs.lit1 _ (truthV true) (truth_ok true)) (by rw [size_al]; omega) (by omega) 11 (k := 1) (m := 0) (s := ⟨#[]⟩) (e := 0) (f_not true)).mono ?_
  rintro e w8 ⟨rfl, hb⟩
  have D8 := Lib.hid (below_step D7.out (Below.lit hb))
  have XA_8 := Lib.hid (XA_7.out.then_ (Below.lit hb))
  have XB_8 := Lib.hid (XB_7.out.then_ (Below.lit hb))
  clear hb XA_7 XB_7 D7
  go_wp2_with fail
  refine (lnum_any m _).mono ?_
  rintro e w9 ⟨rfl, hb⟩
  have D9 := Lib.hid (below_step D8.out (Below.lit hb))
  have XA_9 := Lib.hid (XA_8.out.then_ (Below.lit hb))
  have XB_9 := Lib.hid (XB_8.out.then_ (Below.lit hb))
  have XC_9 := Lib.hid ((Bx.made w8 1 0 ⟨#[]⟩).then_ hb)
  clear hb XA_8 XB_8 D8
  go_wp2_with fail
  refine (lnum_any n _).mono ?_
  rintro e w10 ⟨rfl, hb⟩
  have D10 := Lib.hid (below_step D9.out hb)
  have XA_10 := Lib.hid (XA_9.out.then_ hb)
  have XB_10 := Lib.hid (XB_9.out.then_ hb)
  have XC_10 := Lib.hid (XC_9.out.then_ hb)
  clear hb XA_9 XB_9 XC_9 D9
  go_wp2_with fail
  refine (call_pair (Vs.lit2 _ (numV m) (numV n) (num_ok Im.out) (num_ok In.out)) (by rw [size_al]; omega) (by omega) 6 (k := 1) (m := N1) (s := ⟨#[]⟩) (e := 0) HE.out).mono ?_
  rintro e w11 ⟨rfl, hb⟩
  have D11 := Lib.hid (below_step D10.out (Below.lit hb))
  have XA_11 := Lib.hid (XA_10.out.then_ (Below.lit hb))
  have XB_11 := Lib.hid (XB_10.out.then_ (Below.lit hb))
  have XC_11 := Lib.hid (XC_10.out.then_ (Below.lit hb))
  clear hb XA_10 XB_10 XC_10 D10
  go_wp2_with fail
  refine (lnum_any m _).mono ?_
  rintro e w12 ⟨rfl, hb⟩
  have D12 := Lib.hid (below_step D11.out (Below.lit hb))
  have XA_12 := Lib.hid (XA_11.out.then_ (Below.lit hb))
  have XB_12 := Lib.hid (XB_11.out.then_ (Below.lit hb))
  have XC_12 := Lib.hid (XC_11.out.then_ (Below.lit hb))
  have XD_12 := Lib.hid ((Bx.made w11 1 N1 ⟨#[]⟩).then_ hb)
  clear hb XA_11 XB_11 XC_11 D11
  go_wp2_with fail
  refine (lnum_any n _).mono ?_
  rintro e w13 ⟨rfl, hb⟩
  have D13 := Lib.hid (below_step D12.out hb)
  have XA_13 := Lib.hid (XA_12.out.then_ hb)
  have XB_13 := Lib.hid (XB_12.out.then_ hb)
  have XC_13 := Lib.hid (XC_12.out.then_ hb)
  have XD_13 := Lib.hid (XD_12.out.then_ hb)
  clear hb XA_12 XB_12 XC_12 XD_12 D12
  go_wp2_with fail
  refine (call_pair (Vs.lit2 _ (numV m) (numV n) (num_ok Im.out) (num_ok In.out)) (by rw [size_al]; omega) (by omega) 7 (k := 1) (m := N2) (s := ⟨#[]⟩) (e := 0) HL.out).mono ?_
  rintro e w14 ⟨rfl, hb⟩
  have D14 := Lib.hid (below_step D13.out (Below.lit hb))
  have XA_14 := Lib.hid (XA_13.out.then_ (Below.lit hb))
  have XB_14 := Lib.hid (XB_13.out.then_ (Below.lit hb))
  have XC_14 := Lib.hid (XC_13.out.then_ (Below.lit hb))
  have XD_14 := Lib.hid (XD_13.out.then_ (Below.lit hb))
  clear hb XA_13 XB_13 XC_13 XD_13 D13
  go_wp2_with fail
  refine (ltruth_t _).mono ?_
  rintro e w15 ⟨rfl, hb⟩
  have D15 := Lib.hid (below_step D14.out (Below.lit hb))
  have XA_15 := Lib.hid (XA_14.out.then_ (Below.lit hb))
  have XB_15 := Lib.hid (XB_14.out.then_ (Below.lit hb))
  have XC_15 := Lib.hid (XC_14.out.then_ (Below.lit hb))
  have XD_15 := Lib.hid (XD_14.out.then_ (Below.lit hb))
  have XL_15 := Lib.hid ((Bx.made w14 1 N2 ⟨#[]⟩).then_ hb)
  clear hb XA_14 XB_14 XC_14 XD_14 D14
  go_wp2_with fail
  refine (lnum_any n _).mono ?_
  rintro e w16 ⟨rfl, hb⟩
  have D16 := Lib.hid (below_step D15.out hb)
  have XA_16 := Lib.hid (XA_15.out.then_ hb)
  have XB_16 := Lib.hid (XB_15.out.then_ hb)
  have XC_16 := Lib.hid (XC_15.out.then_ hb)
  have XD_16 := Lib.hid (XD_15.out.then_ hb)
  have XL_16 := Lib.hid (XL_15.out.then_ hb)
  clear hb XA_15 XB_15 XC_15 XD_15 XL_15 D15
  go_wp2_with fail
  refine (call_pair (Vs.lit2 _ (truthV true) (numV n) (truth_ok true) (num_ok In.out)) (by rw [size_al]; omega) (by omega) 12 (k := 0) (m := 0) (s := ⟨#[]⟩) (e := 2) (f_and_kind true n)).mono ?_
  rintro e w17 ⟨rfl, hb⟩
  have D17 := Lib.hid (below_step D16.out (Below.lit hb))
  have XA_17 := Lib.hid (XA_16.out.then_ (Below.lit hb))
  have XB_17 := Lib.hid (XB_16.out.then_ (Below.lit hb))
  have XC_17 := Lib.hid (XC_16.out.then_ (Below.lit hb))
  have XD_17 := Lib.hid (XD_16.out.then_ (Below.lit hb))
  have XL_17 := Lib.hid (XL_16.out.then_ (Below.lit hb))
  clear hb XA_16 XB_16 XC_16 XD_16 XL_16 D16
  go_wp2_with fail
  refine (ltruth_t _).mono ?_
  rintro e w18 ⟨rfl, hb⟩
  have D18 := Lib.hid (below_step D17.out (Below.lit hb))
  have XA_18 := Lib.hid (XA_17.out.then_ (Below.lit hb))
  have XB_18 := Lib.hid (XB_17.out.then_ (Below.lit hb))
  have XC_18 := Lib.hid (XC_17.out.then_ (Below.lit hb))
  have XD_18 := Lib.hid (XD_17.out.then_ (Below.lit hb))
  have XL_18 := Lib.hid (XL_17.out.then_ (Below.lit hb))
  have X6_18 := Lib.hid ((Bx.made w17 0 0 ⟨#[]⟩).then_ hb)
  clear hb XA_17 XB_17 XC_17 XD_17 XL_17 D17
  go_wp2_with fail
  refine (ltruth_t _).mono ?_
  rintro e w19 ⟨rfl, hb⟩
  have D19 := Lib.hid (below_step D18.out hb)
  have XA_19 := Lib.hid (XA_18.out.then_ hb)
  have XB_19 := Lib.hid (XB_18.out.then_ hb)
  have XC_19 := Lib.hid (XC_18.out.then_ hb)
  have XD_19 := Lib.hid (XD_18.out.then_ hb)
  have XL_19 := Lib.hid (XL_18.out.then_ hb)
  have X6_19 := Lib.hid (X6_18.out.then_ hb)
  clear hb XA_18 XB_18 XC_18 XD_18 XL_18 X6_18 D18
  go_wp2_with fail
  refine (call_pair (Vs.lit2 _ (truthV true) (truthV true) (truth_ok true) (truth_ok true)) (by rw [size_al]; omega) (by omega) 7 (k := 0) (m := 0) (s := ⟨#[]⟩) (e := 2) (f_less_kind true true)).mono ?_
  rintro e w20 ⟨rfl, hb⟩
  have D20 := Lib.hid (below_step D19.out (Below.lit hb))
  have XA_20 := Lib.hid (XA_19.out.then_ (Below.lit hb))
  have XB_20 := Lib.hid (XB_19.out.then_ (Below.lit hb))
  have XC_20 := Lib.hid (XC_19.out.then_ (Below.lit hb))
  have XD_20 := Lib.hid (XD_19.out.then_ (Below.lit hb))
  have XL_20 := Lib.hid (XL_19.out.then_ (Below.lit hb))
  have X6_20 := Lib.hid (X6_19.out.then_ (Below.lit hb))
  clear hb XA_19 XB_19 XC_19 XD_19 XL_19 X6_19 D19
  go_wp2_with fail
  refine (lnum_any m _).mono ?_
  rintro e w21 ⟨rfl, hb⟩
  have D21 := Lib.hid (below_step D20.out (Below.lit hb))
  have XA_21 := Lib.hid (XA_20.out.then_ (Below.lit hb))
  have XB_21 := Lib.hid (XB_20.out.then_ (Below.lit hb))
  have XC_21 := Lib.hid (XC_20.out.then_ (Below.lit hb))
  have XD_21 := Lib.hid (XD_20.out.then_ (Below.lit hb))
  have XL_21 := Lib.hid (XL_20.out.then_ (Below.lit hb))
  have X6_21 := Lib.hid (X6_20.out.then_ (Below.lit hb))
  have X7_21 := Lib.hid ((Bx.made w20 0 0 ⟨#[]⟩).then_ hb)
  clear hb XA_20 XB_20 XC_20 XD_20 XL_20 X6_20 D20
  go_wp2_with fail
  refine (ltruth_t _).mono ?_
  rintro e w22 ⟨rfl, hb⟩
  have D22 := Lib.hid (below_step D21.out hb)
  have XA_22 := Lib.hid (XA_21.out.then_ hb)
  have XB_22 := Lib.hid (XB_21.out.then_ hb)
  have XC_22 := Lib.hid (XC_21.out.then_ hb)
  have XD_22 := Lib.hid (XD_21.out.then_ hb)
  have XL_22 := Lib.hid (XL_21.out.then_ hb)
  have X6_22 := Lib.hid (X6_21.out.then_ hb)
  have X7_22 := Lib.hid (X7_21.out.then_ hb)
  clear hb XA_21 XB_21 XC_21 XD_21 XL_21 X6_21 X7_21 D21
  go_wp2_with fail
  refine (call_pair (Vs.lit2 _ (numV m) (truthV true) (num_ok Im.out) (truth_ok true)) (by rw [size_al]; omega) (by omega) 8 (k := 0) (m := 0) (s := ⟨#[]⟩) (e := 2) (f_add_kind m true)).mono ?_
  rintro e w23 ⟨rfl, hb⟩
  have D23 := Lib.hid (below_step D22.out (Below.lit hb))
  have XA_23 := Lib.hid (XA_22.out.then_ (Below.lit hb))
  have XB_23 := Lib.hid (XB_22.out.then_ (Below.lit hb))
  have XC_23 := Lib.hid (XC_22.out.then_ (Below.lit hb))
  have XD_23 := Lib.hid (XD_22.out.then_ (Below.lit hb))
  have XL_23 := Lib.hid (XL_22.out.then_ (Below.lit hb))
  have X6_23 := Lib.hid (X6_22.out.then_ (Below.lit hb))
  have X7_23 := Lib.hid (X7_22.out.then_ (Below.lit hb))
  clear hb XA_22 XB_22 XC_22 XD_22 XL_22 X6_22 X7_22 D22
  go_wp2_with fail
  have XA := Lib.hid (XA_23.out.alloc (.cells #[.int .i64 0, .int .i64 0, .string ⟨#[]⟩] 26))
  have XB := Lib.hid (XB_23.out.alloc (.cells #[.int .i64 0, .int .i64 0, .string ⟨#[]⟩] 26))
  have XC := Lib.hid (XC_23.out.alloc (.cells #[.int .i64 0, .int .i64 0, .string ⟨#[]⟩] 26))
  have XD := Lib.hid (XD_23.out.alloc (.cells #[.int .i64 0, .int .i64 0, .string ⟨#[]⟩] 26))
  have XL := Lib.hid (XL_23.out.alloc (.cells #[.int .i64 0, .int .i64 0, .string ⟨#[]⟩] 26))
  have DZ := Lib.hid (D23.out.trans ((below1 w23 (.cells #[.int .i64 0, .int .i64 0, .string ⟨#[]⟩] 26)).mono D23.out.size))
  clear XA_23 XB_23 XC_23 XD_23 XL_23 X6_23 X7_23 D23
  generalize w23.alloc (.cells #[.int .i64 0, .int .i64 0, .string ⟨#[]⟩] 26) = wz at *
  obtain ⟨x00, x01, x02⟩ := XA.out.grown
  obtain ⟨x10, x11, x12⟩ := XB.out.grown
  obtain ⟨x20, x21, x22⟩ := XC.out.grown
  obtain ⟨x30, x31, x32⟩ := XD.out.grown
  obtain ⟨x40, x41, x42⟩ := XL.out.grown
  have QT := Lib.hid (fun d os => Calls.regrown_of (w := wz) (d := d) (os := os) (ltruth_t (grow (redrawn wz d) os)))
  have QF := Lib.hid (fun d os => Calls.regrown_of (w := wz) (d := d) (os := os) (ltruth_f (grow (redrawn wz d) os)))
  have QE := Lib.hid (fun d os => Calls.regrown_of (w := wz) (d := d) (os := os) (TE.out (grow (redrawn wz d) os)))
  have QL := Lib.hid (fun d os => Calls.regrown_of (w := wz) (d := d) (os := os) (TL.out (grow (redrawn wz d) os)))
  have QR := Lib.hid (fun d os => Calls.regrown_of (w := wz) (d := d) (os := os) (fruns_any (grow (redrawn wz d) os)))
  have hv1 : ∀ W, _ = Result.ok true W := fun W => (val_eq 1 1 1 1 ⟨#[]⟩ ⟨#[]⟩ W).trans (by rw [veq_true rfl])
  have hv0 : ∀ W, _ = Result.ok true W := fun W => (val_eq 1 0 1 0 ⟨#[]⟩ ⟨#[]⟩ W).trans (by rw [veq_true rfl])
  have hvE : ∀ W, _ = Result.ok true W := fun W => (val_eq 1 N1 1 N1 ⟨#[]⟩ ⟨#[]⟩ W).trans (by rw [veq_true rfl])
  have hvL : ∀ W, _ = Result.ok true W := fun W => (val_eq 1 N2 1 N2 ⟨#[]⟩ ⟨#[]⟩ W).trans (by rw [veq_true rfl])
  refine wp_region_quiet_below (by kernel_rfl) (by kernel_rfl) ?_
  repeat (go_big_quiet_step ((first | (go_at_call 13; with_reducible exact QT.out _ _) | (go_at_call 13; with_reducible exact QF.out _ _) | (go_at_call 13; with_reducible exact QE.out _ _) | (go_at_call 13; with_reducible exact QL.out _ _) | (go_at_call 3; with_reducible exact QR.out _ _))))
  refine wpQuiet_nil ?_
  intro _ hw'
  obtain ⟨⟨dq, osq⟩, hw''⟩ := hw'
  subst hw''
  clear x00 x01 x02 x10 x11 x12 x20 x21 x22 x30 x31 x32 x40 x41 x42
  go_wp2_with fail
  go_ret
  exact ⟨rfl, below_step DZ.out (below_regrown wz dq osq)⟩

set_option maxHeartbeats 6400000 in
set_option maxRecDepth 100000 in
theorem funTruths_10 (m : Int) (im : In64 m) (n : Int) (im2 : In64 n) (w : World) :
    Calls Try.prog 7 #[.bool true, .bool false, .int .i64 m, .int .i64 n] w fun e w' => e = .returned (.bool true) ∧ Below w.heap.size w w' := by
  have Im := Lib.hid im
  have In := Lib.hid im2
  clear im im2
  have he := f_eq m n
  have hl := f_less m n
  have te := ltruth_any (m == n)
  rw [show truthN (m == n) = truthN (decide (m = n)) by rw [eq_dec]] at te
  have tl := ltruth_any (decide (m < n))
  rw [show callV 6 [numV m, numV n] = (truthV (decide (m = n)), 0) ↔ callV 6 [numV m, numV n] = (⟨1, truthN (decide (m = n)), ⟨#[]⟩⟩, 0) from Iff.rfl] at he
  rw [show callV 7 [numV m, numV n] = (truthV (decide (m < n)), 0) ↔ callV 7 [numV m, numV n] = (⟨1, truthN (decide (m < n)), ⟨#[]⟩⟩, 0) from Iff.rfl] at hl
  generalize truthN (decide (m = n)) = N1 at *
  generalize truthN (decide (m < n)) = N2 at *
  have HE := Lib.hid he
  have HL := Lib.hid hl
  have TE := Lib.hid te
  have TL := Lib.hid tl
  clear he hl te tl
  go_enter Try.func7, Try.ntmps7
  go_wp2_with fail
  refine (ltruth_t _).mono ?_
  rintro e w1 ⟨rfl, hb⟩
  have D1 := Lib.hid (hb)
  clear hb
  go_wp2_with fail
  refine (ltruth_f _).mono ?_
  rintro e w2 ⟨rfl, hb⟩
  have D2 := Lib.hid (below_step D1.out hb)
  clear hb D1
  go_wp2_with fail
  refine (call_pair (Vs.lit2 _ (truthV true) (truthV false) (truth_ok true) (truth_ok false)) (by rw [size_al]; omega) (by omega) 12 (k := 1) (m := 0) (s := ⟨#[]⟩) (e := 0) (f_and true false)).mono ?_
  rintro e w3 ⟨rfl, hb⟩
  have D3 := Lib.hid (below_step D2.out (Below.lit hb))
  clear hb D2
  go_wp2_with fail
  refine (ltruth_t _).mono ?_
  rintro e w4 ⟨rfl, hb⟩
  have D4 := Lib.hid (below_step D3.out (Below.lit hb))
  have XA_4 := Lib.hid ((Bx.made w3 1 0 ⟨#[]⟩).then_ hb)
  clear hb D3
  go_wp2_with fail
  refine (ltruth_f _).mono ?_
  rintro e w5 ⟨rfl, hb⟩
  have D5 := Lib.hid (below_step D4.out hb)
  have XA_5 := Lib.hid (XA_4.out.then_ hb)
  clear hb XA_4 D4
  go_wp2_with fail
  refine (call_pair (Vs.lit2 _ (truthV true) (truthV false) (truth_ok true) (truth_ok false)) (by rw [size_al]; omega) (by omega) 13 (k := 1) (m := 1) (s := ⟨#[]⟩) (e := 0) (f_or true false)).mono ?_
  rintro e w6 ⟨rfl, hb⟩
  have D6 := Lib.hid (below_step D5.out (Below.lit hb))
  have XA_6 := Lib.hid (XA_5.out.then_ (Below.lit hb))
  clear hb XA_5 D5
  go_wp2_with fail
  refine (ltruth_t _).mono ?_
  rintro e w7 ⟨rfl, hb⟩
  have D7 := Lib.hid (below_step D6.out (Below.lit hb))
  have XA_7 := Lib.hid (XA_6.out.then_ (Below.lit hb))
  have XB_7 := Lib.hid ((Bx.made w6 1 1 ⟨#[]⟩).then_ hb)
  clear hb XA_6 D6
  go_wp2_with fail
  refine (call_pair (Vs.lit1 _ (truthV true) (truth_ok true)) (by rw [size_al]; omega) (by omega) 11 (k := 1) (m := 0) (s := ⟨#[]⟩) (e := 0) (f_not true)).mono ?_
  rintro e w8 ⟨rfl, hb⟩
  have D8 := Lib.hid (below_step D7.out (Below.lit hb))
  have XA_8 := Lib.hid (XA_7.out.then_ (Below.lit hb))
  have XB_8 := Lib.hid (XB_7.out.then_ (Below.lit hb))
  clear hb XA_7 XB_7 D7
  go_wp2_with fail
  refine (lnum_any m _).mono ?_
  rintro e w9 ⟨rfl, hb⟩
  have D9 := Lib.hid (below_step D8.out (Below.lit hb))
  have XA_9 := Lib.hid (XA_8.out.then_ (Below.lit hb))
  have XB_9 := Lib.hid (XB_8.out.then_ (Below.lit hb))
  have XC_9 := Lib.hid ((Bx.made w8 1 0 ⟨#[]⟩).then_ hb)
  clear hb XA_8 XB_8 D8
  go_wp2_with fail
  refine (lnum_any n _).mono ?_
  rintro e w10 ⟨rfl, hb⟩
  have D10 := Lib.hid (below_step D9.out hb)
  have XA_10 := Lib.hid (XA_9.out.then_ hb)
  have XB_10 := Lib.hid (XB_9.out.then_ hb)
  have XC_10 := Lib.hid (XC_9.out.then_ hb)
  clear hb XA_9 XB_9 XC_9 D9
  go_wp2_with fail
  refine (call_pair (Vs.lit2 _ (numV m) (numV n) (num_ok Im.out) (num_ok In.out)) (by rw [size_al]; omega) (by omega) 6 (k := 1) (m := N1) (s := ⟨#[]⟩) (e := 0) HE.out).mono ?_
  rintro e w11 ⟨rfl, hb⟩
  have D11 := Lib.hid (below_step D10.out (Below.lit hb))
  have XA_11 := Lib.hid (XA_10.out.then_ (Below.lit hb))
  have XB_11 := Lib.hid (XB_10.out.then_ (Below.lit hb))
  have XC_11 := Lib.hid (XC_10.out.then_ (Below.lit hb))
  clear hb XA_10 XB_10 XC_10 D10
  go_wp2_with fail
  refine (lnum_any m _).mono ?_
  rintro e w12 ⟨rfl, hb⟩
  have D12 := Lib.hid (below_step D11.out (Below.lit hb))
  have XA_12 := Lib.hid (XA_11.out.then_ (Below.lit hb))
  have XB_12 := Lib.hid (XB_11.out.then_ (Below.lit hb))
  have XC_12 := Lib.hid (XC_11.out.then_ (Below.lit hb))
  have XD_12 := Lib.hid ((Bx.made w11 1 N1 ⟨#[]⟩).then_ hb)
  clear hb XA_11 XB_11 XC_11 D11
  go_wp2_with fail
  refine (lnum_any n _).mono ?_
  rintro e w13 ⟨rfl, hb⟩
  have D13 := Lib.hid (below_step D12.out hb)
  have XA_13 := Lib.hid (XA_12.out.then_ hb)
  have XB_13 := Lib.hid (XB_12.out.then_ hb)
  have XC_13 := Lib.hid (XC_12.out.then_ hb)
  have XD_13 := Lib.hid (XD_12.out.then_ hb)
  clear hb XA_12 XB_12 XC_12 XD_12 D12
  go_wp2_with fail
  refine (call_pair (Vs.lit2 _ (numV m) (numV n) (num_ok Im.out) (num_ok In.out)) (by rw [size_al]; omega) (by omega) 7 (k := 1) (m := N2) (s := ⟨#[]⟩) (e := 0) HL.out).mono ?_
  rintro e w14 ⟨rfl, hb⟩
  have D14 := Lib.hid (below_step D13.out (Below.lit hb))
  have XA_14 := Lib.hid (XA_13.out.then_ (Below.lit hb))
  have XB_14 := Lib.hid (XB_13.out.then_ (Below.lit hb))
  have XC_14 := Lib.hid (XC_13.out.then_ (Below.lit hb))
  have XD_14 := Lib.hid (XD_13.out.then_ (Below.lit hb))
  clear hb XA_13 XB_13 XC_13 XD_13 D13
  go_wp2_with fail
  refine (ltruth_t _).mono ?_
  rintro e w15 ⟨rfl, hb⟩
  have D15 := Lib.hid (below_step D14.out (Below.lit hb))
  have XA_15 := Lib.hid (XA_14.out.then_ (Below.lit hb))
  have XB_15 := Lib.hid (XB_14.out.then_ (Below.lit hb))
  have XC_15 := Lib.hid (XC_14.out.then_ (Below.lit hb))
  have XD_15 := Lib.hid (XD_14.out.then_ (Below.lit hb))
  have XL_15 := Lib.hid ((Bx.made w14 1 N2 ⟨#[]⟩).then_ hb)
  clear hb XA_14 XB_14 XC_14 XD_14 D14
  go_wp2_with fail
  refine (lnum_any n _).mono ?_
  rintro e w16 ⟨rfl, hb⟩
  have D16 := Lib.hid (below_step D15.out hb)
  have XA_16 := Lib.hid (XA_15.out.then_ hb)
  have XB_16 := Lib.hid (XB_15.out.then_ hb)
  have XC_16 := Lib.hid (XC_15.out.then_ hb)
  have XD_16 := Lib.hid (XD_15.out.then_ hb)
  have XL_16 := Lib.hid (XL_15.out.then_ hb)
  clear hb XA_15 XB_15 XC_15 XD_15 XL_15 D15
  go_wp2_with fail
  refine (call_pair (Vs.lit2 _ (truthV true) (numV n) (truth_ok true) (num_ok In.out)) (by rw [size_al]; omega) (by omega) 12 (k := 0) (m := 0) (s := ⟨#[]⟩) (e := 2) (f_and_kind true n)).mono ?_
  rintro e w17 ⟨rfl, hb⟩
  have D17 := Lib.hid (below_step D16.out (Below.lit hb))
  have XA_17 := Lib.hid (XA_16.out.then_ (Below.lit hb))
  have XB_17 := Lib.hid (XB_16.out.then_ (Below.lit hb))
  have XC_17 := Lib.hid (XC_16.out.then_ (Below.lit hb))
  have XD_17 := Lib.hid (XD_16.out.then_ (Below.lit hb))
  have XL_17 := Lib.hid (XL_16.out.then_ (Below.lit hb))
  clear hb XA_16 XB_16 XC_16 XD_16 XL_16 D16
  go_wp2_with fail
  refine (ltruth_t _).mono ?_
  rintro e w18 ⟨rfl, hb⟩
  have D18 := Lib.hid (below_step D17.out (Below.lit hb))
  have XA_18 := Lib.hid (XA_17.out.then_ (Below.lit hb))
  have XB_18 := Lib.hid (XB_17.out.then_ (Below.lit hb))
  have XC_18 := Lib.hid (XC_17.out.then_ (Below.lit hb))
  have XD_18 := Lib.hid (XD_17.out.then_ (Below.lit hb))
  have XL_18 := Lib.hid (XL_17.out.then_ (Below.lit hb))
  have X6_18 := Lib.hid ((Bx.made w17 0 0 ⟨#[]⟩).then_ hb)
  clear hb XA_17 XB_17 XC_17 XD_17 XL_17 D17
  go_wp2_with fail
  refine (ltruth_f _).mono ?_
  rintro e w19 ⟨rfl, hb⟩
  have D19 := Lib.hid (below_step D18.out hb)
  have XA_19 := Lib.hid (XA_18.out.then_ hb)
  have XB_19 := Lib.hid (XB_18.out.then_ hb)
  have XC_19 := Lib.hid (XC_18.out.then_ hb)
  have XD_19 := Lib.hid (XD_18.out.then_ hb)
  have XL_19 := Lib.hid (XL_18.out.then_ hb)
  have X6_19 := Lib.hid (X6_18.out.then_ hb)
  clear hb XA_18 XB_18 XC_18 XD_18 XL_18 X6_18 D18
  go_wp2_with fail
  refine (call_pair (Vs.lit2 _ (truthV true) (truthV false) (truth_ok true) (truth_ok false)) (by rw [size_al]; omega) (by omega) 7 (k := 0) (m := 0) (s := ⟨#[]⟩) (e := 2) (f_less_kind true false)).mono ?_
  rintro e w20 ⟨rfl, hb⟩
  have D20 := Lib.hid (below_step D19.out (Below.lit hb))
  have XA_20 := Lib.hid (XA_19.out.then_ (Below.lit hb))
  have XB_20 := Lib.hid (XB_19.out.then_ (Below.lit hb))
  have XC_20 := Lib.hid (XC_19.out.then_ (Below.lit hb))
  have XD_20 := Lib.hid (XD_19.out.then_ (Below.lit hb))
  have XL_20 := Lib.hid (XL_19.out.then_ (Below.lit hb))
  have X6_20 := Lib.hid (X6_19.out.then_ (Below.lit hb))
  clear hb XA_19 XB_19 XC_19 XD_19 XL_19 X6_19 D19
  go_wp2_with fail
  refine (lnum_any m _).mono ?_
  rintro e w21 ⟨rfl, hb⟩
  have D21 := Lib.hid (below_step D20.out (Below.lit hb))
  have XA_21 := Lib.hid (XA_20.out.then_ (Below.lit hb))
  have XB_21 := Lib.hid (XB_20.out.then_ (Below.lit hb))
  have XC_21 := Lib.hid (XC_20.out.then_ (Below.lit hb))
  have XD_21 := Lib.hid (XD_20.out.then_ (Below.lit hb))
  have XL_21 := Lib.hid (XL_20.out.then_ (Below.lit hb))
  have X6_21 := Lib.hid (X6_20.out.then_ (Below.lit hb))
  have X7_21 := Lib.hid ((Bx.made w20 0 0 ⟨#[]⟩).then_ hb)
  clear hb XA_20 XB_20 XC_20 XD_20 XL_20 X6_20 D20
  go_wp2_with fail
  refine (ltruth_f _).mono ?_
  rintro e w22 ⟨rfl, hb⟩
  have D22 := Lib.hid (below_step D21.out hb)
  have XA_22 := Lib.hid (XA_21.out.then_ hb)
  have XB_22 := Lib.hid (XB_21.out.then_ hb)
  have XC_22 := Lib.hid (XC_21.out.then_ hb)
  have XD_22 := Lib.hid (XD_21.out.then_ hb)
  have XL_22 := Lib.hid (XL_21.out.then_ hb)
  have X6_22 := Lib.hid (X6_21.out.then_ hb)
  have X7_22 := Lib.hid (X7_21.out.then_ hb)
  clear hb XA_21 XB_21 XC_21 XD_21 XL_21 X6_21 X7_21 D21
  go_wp2_with fail
  refine (call_pair (Vs.lit2 _ (numV m) (truthV false) (num_ok Im.out) (truth_ok false)) (by rw [size_al]; omega) (by omega) 8 (k := 0) (m := 0) (s := ⟨#[]⟩) (e := 2) (f_add_kind m false)).mono ?_
  rintro e w23 ⟨rfl, hb⟩
  have D23 := Lib.hid (below_step D22.out (Below.lit hb))
  have XA_23 := Lib.hid (XA_22.out.then_ (Below.lit hb))
  have XB_23 := Lib.hid (XB_22.out.then_ (Below.lit hb))
  have XC_23 := Lib.hid (XC_22.out.then_ (Below.lit hb))
  have XD_23 := Lib.hid (XD_22.out.then_ (Below.lit hb))
  have XL_23 := Lib.hid (XL_22.out.then_ (Below.lit hb))
  have X6_23 := Lib.hid (X6_22.out.then_ (Below.lit hb))
  have X7_23 := Lib.hid (X7_22.out.then_ (Below.lit hb))
  clear hb XA_22 XB_22 XC_22 XD_22 XL_22 X6_22 X7_22 D22
  go_wp2_with fail
  have XA := Lib.hid (XA_23.out.alloc (.cells #[.int .i64 0, .int .i64 0, .string ⟨#[]⟩] 26))
  have XB := Lib.hid (XB_23.out.alloc (.cells #[.int .i64 0, .int .i64 0, .string ⟨#[]⟩] 26))
  have XC := Lib.hid (XC_23.out.alloc (.cells #[.int .i64 0, .int .i64 0, .string ⟨#[]⟩] 26))
  have XD := Lib.hid (XD_23.out.alloc (.cells #[.int .i64 0, .int .i64 0, .string ⟨#[]⟩] 26))
  have XL := Lib.hid (XL_23.out.alloc (.cells #[.int .i64 0, .int .i64 0, .string ⟨#[]⟩] 26))
  have DZ := Lib.hid (D23.out.trans ((below1 w23 (.cells #[.int .i64 0, .int .i64 0, .string ⟨#[]⟩] 26)).mono D23.out.size))
  clear XA_23 XB_23 XC_23 XD_23 XL_23 X6_23 X7_23 D23
  generalize w23.alloc (.cells #[.int .i64 0, .int .i64 0, .string ⟨#[]⟩] 26) = wz at *
  obtain ⟨x00, x01, x02⟩ := XA.out.grown
  obtain ⟨x10, x11, x12⟩ := XB.out.grown
  obtain ⟨x20, x21, x22⟩ := XC.out.grown
  obtain ⟨x30, x31, x32⟩ := XD.out.grown
  obtain ⟨x40, x41, x42⟩ := XL.out.grown
  have QT := Lib.hid (fun d os => Calls.regrown_of (w := wz) (d := d) (os := os) (ltruth_t (grow (redrawn wz d) os)))
  have QF := Lib.hid (fun d os => Calls.regrown_of (w := wz) (d := d) (os := os) (ltruth_f (grow (redrawn wz d) os)))
  have QE := Lib.hid (fun d os => Calls.regrown_of (w := wz) (d := d) (os := os) (TE.out (grow (redrawn wz d) os)))
  have QL := Lib.hid (fun d os => Calls.regrown_of (w := wz) (d := d) (os := os) (TL.out (grow (redrawn wz d) os)))
  have QR := Lib.hid (fun d os => Calls.regrown_of (w := wz) (d := d) (os := os) (fruns_any (grow (redrawn wz d) os)))
  have hv1 : ∀ W, _ = Result.ok true W := fun W => (val_eq 1 1 1 1 ⟨#[]⟩ ⟨#[]⟩ W).trans (by rw [veq_true rfl])
  have hv0 : ∀ W, _ = Result.ok true W := fun W => (val_eq 1 0 1 0 ⟨#[]⟩ ⟨#[]⟩ W).trans (by rw [veq_true rfl])
  have hvE : ∀ W, _ = Result.ok true W := fun W => (val_eq 1 N1 1 N1 ⟨#[]⟩ ⟨#[]⟩ W).trans (by rw [veq_true rfl])
  have hvL : ∀ W, _ = Result.ok true W := fun W => (val_eq 1 N2 1 N2 ⟨#[]⟩ ⟨#[]⟩ W).trans (by rw [veq_true rfl])
  refine wp_region_quiet_below (by kernel_rfl) (by kernel_rfl) ?_
  repeat (go_big_quiet_step ((first | (go_at_call 13; with_reducible exact QT.out _ _) | (go_at_call 13; with_reducible exact QF.out _ _) | (go_at_call 13; with_reducible exact QE.out _ _) | (go_at_call 13; with_reducible exact QL.out _ _) | (go_at_call 3; with_reducible exact QR.out _ _))))
  refine wpQuiet_nil ?_
  intro _ hw'
  obtain ⟨⟨dq, osq⟩, hw''⟩ := hw'
  subst hw''
  clear x00 x01 x02 x10 x11 x12 x20 x21 x22 x30 x31 x32 x40 x41 x42
  go_wp2_with fail
  go_ret
  exact ⟨rfl, below_step DZ.out (below_regrown wz dq osq)⟩

set_option maxHeartbeats 6400000 in
set_option maxRecDepth 100000 in
theorem funTruths_01 (m : Int) (im : In64 m) (n : Int) (im2 : In64 n) (w : World) :
    Calls Try.prog 7 #[.bool false, .bool true, .int .i64 m, .int .i64 n] w fun e w' => e = .returned (.bool true) ∧ Below w.heap.size w w' := by
  have Im := Lib.hid im
  have In := Lib.hid im2
  clear im im2
  have he := f_eq m n
  have hl := f_less m n
  have te := ltruth_any (m == n)
  rw [show truthN (m == n) = truthN (decide (m = n)) by rw [eq_dec]] at te
  have tl := ltruth_any (decide (m < n))
  rw [show callV 6 [numV m, numV n] = (truthV (decide (m = n)), 0) ↔ callV 6 [numV m, numV n] = (⟨1, truthN (decide (m = n)), ⟨#[]⟩⟩, 0) from Iff.rfl] at he
  rw [show callV 7 [numV m, numV n] = (truthV (decide (m < n)), 0) ↔ callV 7 [numV m, numV n] = (⟨1, truthN (decide (m < n)), ⟨#[]⟩⟩, 0) from Iff.rfl] at hl
  generalize truthN (decide (m = n)) = N1 at *
  generalize truthN (decide (m < n)) = N2 at *
  have HE := Lib.hid he
  have HL := Lib.hid hl
  have TE := Lib.hid te
  have TL := Lib.hid tl
  clear he hl te tl
  go_enter Try.func7, Try.ntmps7
  go_wp2_with fail
  refine (ltruth_f _).mono ?_
  rintro e w1 ⟨rfl, hb⟩
  have D1 := Lib.hid (hb)
  clear hb
  go_wp2_with fail
  refine (ltruth_t _).mono ?_
  rintro e w2 ⟨rfl, hb⟩
  have D2 := Lib.hid (below_step D1.out hb)
  clear hb D1
  go_wp2_with fail
  refine (call_pair (Vs.lit2 _ (truthV false) (truthV true) (truth_ok false) (truth_ok true)) (by rw [size_al]; omega) (by omega) 12 (k := 1) (m := 0) (s := ⟨#[]⟩) (e := 0) (f_and false true)).mono ?_
  rintro e w3 ⟨rfl, hb⟩
  have D3 := Lib.hid (below_step D2.out (Below.lit hb))
  clear hb D2
  go_wp2_with fail
  refine (ltruth_f _).mono ?_
  rintro e w4 ⟨rfl, hb⟩
  have D4 := Lib.hid (below_step D3.out (Below.lit hb))
  have XA_4 := Lib.hid ((Bx.made w3 1 0 ⟨#[]⟩).then_ hb)
  clear hb D3
  go_wp2_with fail
  refine (ltruth_t _).mono ?_
  rintro e w5 ⟨rfl, hb⟩
  have D5 := Lib.hid (below_step D4.out hb)
  have XA_5 := Lib.hid (XA_4.out.then_ hb)
  clear hb XA_4 D4
  go_wp2_with fail
  refine (call_pair (Vs.lit2 _ (truthV false) (truthV true) (truth_ok false) (truth_ok true)) (by rw [size_al]; omega) (by omega) 13 (k := 1) (m := 1) (s := ⟨#[]⟩) (e := 0) (f_or false true)).mono ?_
  rintro e w6 ⟨rfl, hb⟩
  have D6 := Lib.hid (below_step D5.out (Below.lit hb))
  have XA_6 := Lib.hid (XA_5.out.then_ (Below.lit hb))
  clear hb XA_5 D5
  go_wp2_with fail
  refine (ltruth_f _).mono ?_
  rintro e w7 ⟨rfl, hb⟩
  have D7 := Lib.hid (below_step D6.out (Below.lit hb))
  have XA_7 := Lib.hid (XA_6.out.then_ (Below.lit hb))
  have XB_7 := Lib.hid ((Bx.made w6 1 1 ⟨#[]⟩).then_ hb)
  clear hb XA_6 D6
  go_wp2_with fail
  refine (call_pair (Vs.lit1 _ (truthV false) (truth_ok false)) (by rw [size_al]; omega) (by omega) 11 (k := 1) (m := 1) (s := ⟨#[]⟩) (e := 0) (f_not false)).mono ?_
  rintro e w8 ⟨rfl, hb⟩
  have D8 := Lib.hid (below_step D7.out (Below.lit hb))
  have XA_8 := Lib.hid (XA_7.out.then_ (Below.lit hb))
  have XB_8 := Lib.hid (XB_7.out.then_ (Below.lit hb))
  clear hb XA_7 XB_7 D7
  go_wp2_with fail
  refine (lnum_any m _).mono ?_
  rintro e w9 ⟨rfl, hb⟩
  have D9 := Lib.hid (below_step D8.out (Below.lit hb))
  have XA_9 := Lib.hid (XA_8.out.then_ (Below.lit hb))
  have XB_9 := Lib.hid (XB_8.out.then_ (Below.lit hb))
  have XC_9 := Lib.hid ((Bx.made w8 1 1 ⟨#[]⟩).then_ hb)
  clear hb XA_8 XB_8 D8
  go_wp2_with fail
  refine (lnum_any n _).mono ?_
  rintro e w10 ⟨rfl, hb⟩
  have D10 := Lib.hid (below_step D9.out hb)
  have XA_10 := Lib.hid (XA_9.out.then_ hb)
  have XB_10 := Lib.hid (XB_9.out.then_ hb)
  have XC_10 := Lib.hid (XC_9.out.then_ hb)
  clear hb XA_9 XB_9 XC_9 D9
  go_wp2_with fail
  refine (call_pair (Vs.lit2 _ (numV m) (numV n) (num_ok Im.out) (num_ok In.out)) (by rw [size_al]; omega) (by omega) 6 (k := 1) (m := N1) (s := ⟨#[]⟩) (e := 0) HE.out).mono ?_
  rintro e w11 ⟨rfl, hb⟩
  have D11 := Lib.hid (below_step D10.out (Below.lit hb))
  have XA_11 := Lib.hid (XA_10.out.then_ (Below.lit hb))
  have XB_11 := Lib.hid (XB_10.out.then_ (Below.lit hb))
  have XC_11 := Lib.hid (XC_10.out.then_ (Below.lit hb))
  clear hb XA_10 XB_10 XC_10 D10
  go_wp2_with fail
  refine (lnum_any m _).mono ?_
  rintro e w12 ⟨rfl, hb⟩
  have D12 := Lib.hid (below_step D11.out (Below.lit hb))
  have XA_12 := Lib.hid (XA_11.out.then_ (Below.lit hb))
  have XB_12 := Lib.hid (XB_11.out.then_ (Below.lit hb))
  have XC_12 := Lib.hid (XC_11.out.then_ (Below.lit hb))
  have XD_12 := Lib.hid ((Bx.made w11 1 N1 ⟨#[]⟩).then_ hb)
  clear hb XA_11 XB_11 XC_11 D11
  go_wp2_with fail
  refine (lnum_any n _).mono ?_
  rintro e w13 ⟨rfl, hb⟩
  have D13 := Lib.hid (below_step D12.out hb)
  have XA_13 := Lib.hid (XA_12.out.then_ hb)
  have XB_13 := Lib.hid (XB_12.out.then_ hb)
  have XC_13 := Lib.hid (XC_12.out.then_ hb)
  have XD_13 := Lib.hid (XD_12.out.then_ hb)
  clear hb XA_12 XB_12 XC_12 XD_12 D12
  go_wp2_with fail
  refine (call_pair (Vs.lit2 _ (numV m) (numV n) (num_ok Im.out) (num_ok In.out)) (by rw [size_al]; omega) (by omega) 7 (k := 1) (m := N2) (s := ⟨#[]⟩) (e := 0) HL.out).mono ?_
  rintro e w14 ⟨rfl, hb⟩
  have D14 := Lib.hid (below_step D13.out (Below.lit hb))
  have XA_14 := Lib.hid (XA_13.out.then_ (Below.lit hb))
  have XB_14 := Lib.hid (XB_13.out.then_ (Below.lit hb))
  have XC_14 := Lib.hid (XC_13.out.then_ (Below.lit hb))
  have XD_14 := Lib.hid (XD_13.out.then_ (Below.lit hb))
  clear hb XA_13 XB_13 XC_13 XD_13 D13
  go_wp2_with fail
  refine (ltruth_f _).mono ?_
  rintro e w15 ⟨rfl, hb⟩
  have D15 := Lib.hid (below_step D14.out (Below.lit hb))
  have XA_15 := Lib.hid (XA_14.out.then_ (Below.lit hb))
  have XB_15 := Lib.hid (XB_14.out.then_ (Below.lit hb))
  have XC_15 := Lib.hid (XC_14.out.then_ (Below.lit hb))
  have XD_15 := Lib.hid (XD_14.out.then_ (Below.lit hb))
  have XL_15 := Lib.hid ((Bx.made w14 1 N2 ⟨#[]⟩).then_ hb)
  clear hb XA_14 XB_14 XC_14 XD_14 D14
  go_wp2_with fail
  refine (lnum_any n _).mono ?_
  rintro e w16 ⟨rfl, hb⟩
  have D16 := Lib.hid (below_step D15.out hb)
  have XA_16 := Lib.hid (XA_15.out.then_ hb)
  have XB_16 := Lib.hid (XB_15.out.then_ hb)
  have XC_16 := Lib.hid (XC_15.out.then_ hb)
  have XD_16 := Lib.hid (XD_15.out.then_ hb)
  have XL_16 := Lib.hid (XL_15.out.then_ hb)
  clear hb XA_15 XB_15 XC_15 XD_15 XL_15 D15
  go_wp2_with fail
  refine (call_pair (Vs.lit2 _ (truthV false) (numV n) (truth_ok false) (num_ok In.out)) (by rw [size_al]; omega) (by omega) 12 (k := 0) (m := 0) (s := ⟨#[]⟩) (e := 2) (f_and_kind false n)).mono ?_
  rintro e w17 ⟨rfl, hb⟩
  have D17 := Lib.hid (below_step D16.out (Below.lit hb))
  have XA_17 := Lib.hid (XA_16.out.then_ (Below.lit hb))
  have XB_17 := Lib.hid (XB_16.out.then_ (Below.lit hb))
  have XC_17 := Lib.hid (XC_16.out.then_ (Below.lit hb))
  have XD_17 := Lib.hid (XD_16.out.then_ (Below.lit hb))
  have XL_17 := Lib.hid (XL_16.out.then_ (Below.lit hb))
  clear hb XA_16 XB_16 XC_16 XD_16 XL_16 D16
  go_wp2_with fail
  refine (ltruth_f _).mono ?_
  rintro e w18 ⟨rfl, hb⟩
  have D18 := Lib.hid (below_step D17.out (Below.lit hb))
  have XA_18 := Lib.hid (XA_17.out.then_ (Below.lit hb))
  have XB_18 := Lib.hid (XB_17.out.then_ (Below.lit hb))
  have XC_18 := Lib.hid (XC_17.out.then_ (Below.lit hb))
  have XD_18 := Lib.hid (XD_17.out.then_ (Below.lit hb))
  have XL_18 := Lib.hid (XL_17.out.then_ (Below.lit hb))
  have X6_18 := Lib.hid ((Bx.made w17 0 0 ⟨#[]⟩).then_ hb)
  clear hb XA_17 XB_17 XC_17 XD_17 XL_17 D17
  go_wp2_with fail
  refine (ltruth_t _).mono ?_
  rintro e w19 ⟨rfl, hb⟩
  have D19 := Lib.hid (below_step D18.out hb)
  have XA_19 := Lib.hid (XA_18.out.then_ hb)
  have XB_19 := Lib.hid (XB_18.out.then_ hb)
  have XC_19 := Lib.hid (XC_18.out.then_ hb)
  have XD_19 := Lib.hid (XD_18.out.then_ hb)
  have XL_19 := Lib.hid (XL_18.out.then_ hb)
  have X6_19 := Lib.hid (X6_18.out.then_ hb)
  clear hb XA_18 XB_18 XC_18 XD_18 XL_18 X6_18 D18
  go_wp2_with fail
  refine (call_pair (Vs.lit2 _ (truthV false) (truthV true) (truth_ok false) (truth_ok true)) (by rw [size_al]; omega) (by omega) 7 (k := 0) (m := 0) (s := ⟨#[]⟩) (e := 2) (f_less_kind false true)).mono ?_
  rintro e w20 ⟨rfl, hb⟩
  have D20 := Lib.hid (below_step D19.out (Below.lit hb))
  have XA_20 := Lib.hid (XA_19.out.then_ (Below.lit hb))
  have XB_20 := Lib.hid (XB_19.out.then_ (Below.lit hb))
  have XC_20 := Lib.hid (XC_19.out.then_ (Below.lit hb))
  have XD_20 := Lib.hid (XD_19.out.then_ (Below.lit hb))
  have XL_20 := Lib.hid (XL_19.out.then_ (Below.lit hb))
  have X6_20 := Lib.hid (X6_19.out.then_ (Below.lit hb))
  clear hb XA_19 XB_19 XC_19 XD_19 XL_19 X6_19 D19
  go_wp2_with fail
  refine (lnum_any m _).mono ?_
  rintro e w21 ⟨rfl, hb⟩
  have D21 := Lib.hid (below_step D20.out (Below.lit hb))
  have XA_21 := Lib.hid (XA_20.out.then_ (Below.lit hb))
  have XB_21 := Lib.hid (XB_20.out.then_ (Below.lit hb))
  have XC_21 := Lib.hid (XC_20.out.then_ (Below.lit hb))
  have XD_21 := Lib.hid (XD_20.out.then_ (Below.lit hb))
  have XL_21 := Lib.hid (XL_20.out.then_ (Below.lit hb))
  have X6_21 := Lib.hid (X6_20.out.then_ (Below.lit hb))
  have X7_21 := Lib.hid ((Bx.made w20 0 0 ⟨#[]⟩).then_ hb)
  clear hb XA_20 XB_20 XC_20 XD_20 XL_20 X6_20 D20
  go_wp2_with fail
  refine (ltruth_t _).mono ?_
  rintro e w22 ⟨rfl, hb⟩
  have D22 := Lib.hid (below_step D21.out hb)
  have XA_22 := Lib.hid (XA_21.out.then_ hb)
  have XB_22 := Lib.hid (XB_21.out.then_ hb)
  have XC_22 := Lib.hid (XC_21.out.then_ hb)
  have XD_22 := Lib.hid (XD_21.out.then_ hb)
  have XL_22 := Lib.hid (XL_21.out.then_ hb)
  have X6_22 := Lib.hid (X6_21.out.then_ hb)
  have X7_22 := Lib.hid (X7_21.out.then_ hb)
  clear hb XA_21 XB_21 XC_21 XD_21 XL_21 X6_21 X7_21 D21
  go_wp2_with fail
  refine (call_pair (Vs.lit2 _ (numV m) (truthV true) (num_ok Im.out) (truth_ok true)) (by rw [size_al]; omega) (by omega) 8 (k := 0) (m := 0) (s := ⟨#[]⟩) (e := 2) (f_add_kind m true)).mono ?_
  rintro e w23 ⟨rfl, hb⟩
  have D23 := Lib.hid (below_step D22.out (Below.lit hb))
  have XA_23 := Lib.hid (XA_22.out.then_ (Below.lit hb))
  have XB_23 := Lib.hid (XB_22.out.then_ (Below.lit hb))
  have XC_23 := Lib.hid (XC_22.out.then_ (Below.lit hb))
  have XD_23 := Lib.hid (XD_22.out.then_ (Below.lit hb))
  have XL_23 := Lib.hid (XL_22.out.then_ (Below.lit hb))
  have X6_23 := Lib.hid (X6_22.out.then_ (Below.lit hb))
  have X7_23 := Lib.hid (X7_22.out.then_ (Below.lit hb))
  clear hb XA_22 XB_22 XC_22 XD_22 XL_22 X6_22 X7_22 D22
  go_wp2_with fail
  have XA := Lib.hid (XA_23.out.alloc (.cells #[.int .i64 0, .int .i64 0, .string ⟨#[]⟩] 26))
  have XB := Lib.hid (XB_23.out.alloc (.cells #[.int .i64 0, .int .i64 0, .string ⟨#[]⟩] 26))
  have XC := Lib.hid (XC_23.out.alloc (.cells #[.int .i64 0, .int .i64 0, .string ⟨#[]⟩] 26))
  have XD := Lib.hid (XD_23.out.alloc (.cells #[.int .i64 0, .int .i64 0, .string ⟨#[]⟩] 26))
  have XL := Lib.hid (XL_23.out.alloc (.cells #[.int .i64 0, .int .i64 0, .string ⟨#[]⟩] 26))
  have DZ := Lib.hid (D23.out.trans ((below1 w23 (.cells #[.int .i64 0, .int .i64 0, .string ⟨#[]⟩] 26)).mono D23.out.size))
  clear XA_23 XB_23 XC_23 XD_23 XL_23 X6_23 X7_23 D23
  generalize w23.alloc (.cells #[.int .i64 0, .int .i64 0, .string ⟨#[]⟩] 26) = wz at *
  obtain ⟨x00, x01, x02⟩ := XA.out.grown
  obtain ⟨x10, x11, x12⟩ := XB.out.grown
  obtain ⟨x20, x21, x22⟩ := XC.out.grown
  obtain ⟨x30, x31, x32⟩ := XD.out.grown
  obtain ⟨x40, x41, x42⟩ := XL.out.grown
  have QT := Lib.hid (fun d os => Calls.regrown_of (w := wz) (d := d) (os := os) (ltruth_t (grow (redrawn wz d) os)))
  have QF := Lib.hid (fun d os => Calls.regrown_of (w := wz) (d := d) (os := os) (ltruth_f (grow (redrawn wz d) os)))
  have QE := Lib.hid (fun d os => Calls.regrown_of (w := wz) (d := d) (os := os) (TE.out (grow (redrawn wz d) os)))
  have QL := Lib.hid (fun d os => Calls.regrown_of (w := wz) (d := d) (os := os) (TL.out (grow (redrawn wz d) os)))
  have QR := Lib.hid (fun d os => Calls.regrown_of (w := wz) (d := d) (os := os) (fruns_any (grow (redrawn wz d) os)))
  have hv1 : ∀ W, _ = Result.ok true W := fun W => (val_eq 1 1 1 1 ⟨#[]⟩ ⟨#[]⟩ W).trans (by rw [veq_true rfl])
  have hv0 : ∀ W, _ = Result.ok true W := fun W => (val_eq 1 0 1 0 ⟨#[]⟩ ⟨#[]⟩ W).trans (by rw [veq_true rfl])
  have hvE : ∀ W, _ = Result.ok true W := fun W => (val_eq 1 N1 1 N1 ⟨#[]⟩ ⟨#[]⟩ W).trans (by rw [veq_true rfl])
  have hvL : ∀ W, _ = Result.ok true W := fun W => (val_eq 1 N2 1 N2 ⟨#[]⟩ ⟨#[]⟩ W).trans (by rw [veq_true rfl])
  refine wp_region_quiet_below (by kernel_rfl) (by kernel_rfl) ?_
  repeat (go_big_quiet_step ((first | (go_at_call 13; with_reducible exact QT.out _ _) | (go_at_call 13; with_reducible exact QF.out _ _) | (go_at_call 13; with_reducible exact QE.out _ _) | (go_at_call 13; with_reducible exact QL.out _ _) | (go_at_call 3; with_reducible exact QR.out _ _))))
  refine wpQuiet_nil ?_
  intro _ hw'
  obtain ⟨⟨dq, osq⟩, hw''⟩ := hw'
  subst hw''
  clear x00 x01 x02 x10 x11 x12 x20 x21 x22 x30 x31 x32 x40 x41 x42
  go_wp2_with fail
  go_ret
  exact ⟨rfl, below_step DZ.out (below_regrown wz dq osq)⟩

set_option maxHeartbeats 6400000 in
set_option maxRecDepth 100000 in
theorem funTruths_00 (m : Int) (im : In64 m) (n : Int) (im2 : In64 n) (w : World) :
    Calls Try.prog 7 #[.bool false, .bool false, .int .i64 m, .int .i64 n] w fun e w' => e = .returned (.bool true) ∧ Below w.heap.size w w' := by
  have Im := Lib.hid im
  have In := Lib.hid im2
  clear im im2
  have he := f_eq m n
  have hl := f_less m n
  have te := ltruth_any (m == n)
  rw [show truthN (m == n) = truthN (decide (m = n)) by rw [eq_dec]] at te
  have tl := ltruth_any (decide (m < n))
  rw [show callV 6 [numV m, numV n] = (truthV (decide (m = n)), 0) ↔ callV 6 [numV m, numV n] = (⟨1, truthN (decide (m = n)), ⟨#[]⟩⟩, 0) from Iff.rfl] at he
  rw [show callV 7 [numV m, numV n] = (truthV (decide (m < n)), 0) ↔ callV 7 [numV m, numV n] = (⟨1, truthN (decide (m < n)), ⟨#[]⟩⟩, 0) from Iff.rfl] at hl
  generalize truthN (decide (m = n)) = N1 at *
  generalize truthN (decide (m < n)) = N2 at *
  have HE := Lib.hid he
  have HL := Lib.hid hl
  have TE := Lib.hid te
  have TL := Lib.hid tl
  clear he hl te tl
  go_enter Try.func7, Try.ntmps7
  go_wp2_with fail
  refine (ltruth_f _).mono ?_
  rintro e w1 ⟨rfl, hb⟩
  have D1 := Lib.hid (hb)
  clear hb
  go_wp2_with fail
  refine (ltruth_f _).mono ?_
  rintro e w2 ⟨rfl, hb⟩
  have D2 := Lib.hid (below_step D1.out hb)
  clear hb D1
  go_wp2_with fail
  refine (call_pair (Vs.lit2 _ (truthV false) (truthV false) (truth_ok false) (truth_ok false)) (by rw [size_al]; omega) (by omega) 12 (k := 1) (m := 0) (s := ⟨#[]⟩) (e := 0) (f_and false false)).mono ?_
  rintro e w3 ⟨rfl, hb⟩
  have D3 := Lib.hid (below_step D2.out (Below.lit hb))
  clear hb D2
  go_wp2_with fail
  refine (ltruth_f _).mono ?_
  rintro e w4 ⟨rfl, hb⟩
  have D4 := Lib.hid (below_step D3.out (Below.lit hb))
  have XA_4 := Lib.hid ((Bx.made w3 1 0 ⟨#[]⟩).then_ hb)
  clear hb D3
  go_wp2_with fail
  refine (ltruth_f _).mono ?_
  rintro e w5 ⟨rfl, hb⟩
  have D5 := Lib.hid (below_step D4.out hb)
  have XA_5 := Lib.hid (XA_4.out.then_ hb)
  clear hb XA_4 D4
  go_wp2_with fail
  refine (call_pair (Vs.lit2 _ (truthV false) (truthV false) (truth_ok false) (truth_ok false)) (by rw [size_al]; omega) (by omega) 13 (k := 1) (m := 0) (s := ⟨#[]⟩) (e := 0) (f_or false false)).mono ?_
  rintro e w6 ⟨rfl, hb⟩
  have D6 := Lib.hid (below_step D5.out (Below.lit hb))
  have XA_6 := Lib.hid (XA_5.out.then_ (Below.lit hb))
  clear hb XA_5 D5
  go_wp2_with fail
  refine (ltruth_f _).mono ?_
  rintro e w7 ⟨rfl, hb⟩
  have D7 := Lib.hid (below_step D6.out (Below.lit hb))
  have XA_7 := Lib.hid (XA_6.out.then_ (Below.lit hb))
  have XB_7 := Lib.hid ((Bx.made w6 1 0 ⟨#[]⟩).then_ hb)
  clear hb XA_6 D6
  go_wp2_with fail
  refine (call_pair (Vs.lit1 _ (truthV false) (truth_ok false)) (by rw [size_al]; omega) (by omega) 11 (k := 1) (m := 1) (s := ⟨#[]⟩) (e := 0) (f_not false)).mono ?_
  rintro e w8 ⟨rfl, hb⟩
  have D8 := Lib.hid (below_step D7.out (Below.lit hb))
  have XA_8 := Lib.hid (XA_7.out.then_ (Below.lit hb))
  have XB_8 := Lib.hid (XB_7.out.then_ (Below.lit hb))
  clear hb XA_7 XB_7 D7
  go_wp2_with fail
  refine (lnum_any m _).mono ?_
  rintro e w9 ⟨rfl, hb⟩
  have D9 := Lib.hid (below_step D8.out (Below.lit hb))
  have XA_9 := Lib.hid (XA_8.out.then_ (Below.lit hb))
  have XB_9 := Lib.hid (XB_8.out.then_ (Below.lit hb))
  have XC_9 := Lib.hid ((Bx.made w8 1 1 ⟨#[]⟩).then_ hb)
  clear hb XA_8 XB_8 D8
  go_wp2_with fail
  refine (lnum_any n _).mono ?_
  rintro e w10 ⟨rfl, hb⟩
  have D10 := Lib.hid (below_step D9.out hb)
  have XA_10 := Lib.hid (XA_9.out.then_ hb)
  have XB_10 := Lib.hid (XB_9.out.then_ hb)
  have XC_10 := Lib.hid (XC_9.out.then_ hb)
  clear hb XA_9 XB_9 XC_9 D9
  go_wp2_with fail
  refine (call_pair (Vs.lit2 _ (numV m) (numV n) (num_ok Im.out) (num_ok In.out)) (by rw [size_al]; omega) (by omega) 6 (k := 1) (m := N1) (s := ⟨#[]⟩) (e := 0) HE.out).mono ?_
  rintro e w11 ⟨rfl, hb⟩
  have D11 := Lib.hid (below_step D10.out (Below.lit hb))
  have XA_11 := Lib.hid (XA_10.out.then_ (Below.lit hb))
  have XB_11 := Lib.hid (XB_10.out.then_ (Below.lit hb))
  have XC_11 := Lib.hid (XC_10.out.then_ (Below.lit hb))
  clear hb XA_10 XB_10 XC_10 D10
  go_wp2_with fail
  refine (lnum_any m _).mono ?_
  rintro e w12 ⟨rfl, hb⟩
  have D12 := Lib.hid (below_step D11.out (Below.lit hb))
  have XA_12 := Lib.hid (XA_11.out.then_ (Below.lit hb))
  have XB_12 := Lib.hid (XB_11.out.then_ (Below.lit hb))
  have XC_12 := Lib.hid (XC_11.out.then_ (Below.lit hb))
  have XD_12 := Lib.hid ((Bx.made w11 1 N1 ⟨#[]⟩).then_ hb)
  clear hb XA_11 XB_11 XC_11 D11
  go_wp2_with fail
  refine (lnum_any n _).mono ?_
  rintro e w13 ⟨rfl, hb⟩
  have D13 := Lib.hid (below_step D12.out hb)
  have XA_13 := Lib.hid (XA_12.out.then_ hb)
  have XB_13 := Lib.hid (XB_12.out.then_ hb)
  have XC_13 := Lib.hid (XC_12.out.then_ hb)
  have XD_13 := Lib.hid (XD_12.out.then_ hb)
  clear hb XA_12 XB_12 XC_12 XD_12 D12
  go_wp2_with fail
  refine (call_pair (Vs.lit2 _ (numV m) (numV n) (num_ok Im.out) (num_ok In.out)) (by rw [size_al]; omega) (by omega) 7 (k := 1) (m := N2) (s := ⟨#[]⟩) (e := 0) HL.out).mono ?_
  rintro e w14 ⟨rfl, hb⟩
  have D14 := Lib.hid (below_step D13.out (Below.lit hb))
  have XA_14 := Lib.hid (XA_13.out.then_ (Below.lit hb))
  have XB_14 := Lib.hid (XB_13.out.then_ (Below.lit hb))
  have XC_14 := Lib.hid (XC_13.out.then_ (Below.lit hb))
  have XD_14 := Lib.hid (XD_13.out.then_ (Below.lit hb))
  clear hb XA_13 XB_13 XC_13 XD_13 D13
  go_wp2_with fail
  refine (ltruth_f _).mono ?_
  rintro e w15 ⟨rfl, hb⟩
  have D15 := Lib.hid (below_step D14.out (Below.lit hb))
  have XA_15 := Lib.hid (XA_14.out.then_ (Below.lit hb))
  have XB_15 := Lib.hid (XB_14.out.then_ (Below.lit hb))
  have XC_15 := Lib.hid (XC_14.out.then_ (Below.lit hb))
  have XD_15 := Lib.hid (XD_14.out.then_ (Below.lit hb))
  have XL_15 := Lib.hid ((Bx.made w14 1 N2 ⟨#[]⟩).then_ hb)
  clear hb XA_14 XB_14 XC_14 XD_14 D14
  go_wp2_with fail
  refine (lnum_any n _).mono ?_
  rintro e w16 ⟨rfl, hb⟩
  have D16 := Lib.hid (below_step D15.out hb)
  have XA_16 := Lib.hid (XA_15.out.then_ hb)
  have XB_16 := Lib.hid (XB_15.out.then_ hb)
  have XC_16 := Lib.hid (XC_15.out.then_ hb)
  have XD_16 := Lib.hid (XD_15.out.then_ hb)
  have XL_16 := Lib.hid (XL_15.out.then_ hb)
  clear hb XA_15 XB_15 XC_15 XD_15 XL_15 D15
  go_wp2_with fail
  refine (call_pair (Vs.lit2 _ (truthV false) (numV n) (truth_ok false) (num_ok In.out)) (by rw [size_al]; omega) (by omega) 12 (k := 0) (m := 0) (s := ⟨#[]⟩) (e := 2) (f_and_kind false n)).mono ?_
  rintro e w17 ⟨rfl, hb⟩
  have D17 := Lib.hid (below_step D16.out (Below.lit hb))
  have XA_17 := Lib.hid (XA_16.out.then_ (Below.lit hb))
  have XB_17 := Lib.hid (XB_16.out.then_ (Below.lit hb))
  have XC_17 := Lib.hid (XC_16.out.then_ (Below.lit hb))
  have XD_17 := Lib.hid (XD_16.out.then_ (Below.lit hb))
  have XL_17 := Lib.hid (XL_16.out.then_ (Below.lit hb))
  clear hb XA_16 XB_16 XC_16 XD_16 XL_16 D16
  go_wp2_with fail
  refine (ltruth_f _).mono ?_
  rintro e w18 ⟨rfl, hb⟩
  have D18 := Lib.hid (below_step D17.out (Below.lit hb))
  have XA_18 := Lib.hid (XA_17.out.then_ (Below.lit hb))
  have XB_18 := Lib.hid (XB_17.out.then_ (Below.lit hb))
  have XC_18 := Lib.hid (XC_17.out.then_ (Below.lit hb))
  have XD_18 := Lib.hid (XD_17.out.then_ (Below.lit hb))
  have XL_18 := Lib.hid (XL_17.out.then_ (Below.lit hb))
  have X6_18 := Lib.hid ((Bx.made w17 0 0 ⟨#[]⟩).then_ hb)
  clear hb XA_17 XB_17 XC_17 XD_17 XL_17 D17
  go_wp2_with fail
  refine (ltruth_f _).mono ?_
  rintro e w19 ⟨rfl, hb⟩
  have D19 := Lib.hid (below_step D18.out hb)
  have XA_19 := Lib.hid (XA_18.out.then_ hb)
  have XB_19 := Lib.hid (XB_18.out.then_ hb)
  have XC_19 := Lib.hid (XC_18.out.then_ hb)
  have XD_19 := Lib.hid (XD_18.out.then_ hb)
  have XL_19 := Lib.hid (XL_18.out.then_ hb)
  have X6_19 := Lib.hid (X6_18.out.then_ hb)
  clear hb XA_18 XB_18 XC_18 XD_18 XL_18 X6_18 D18
  go_wp2_with fail
  refine (call_pair (Vs.lit2 _ (truthV false) (truthV false) (truth_ok false) (truth_ok false)) (by rw [size_al]; omega) (by omega) 7 (k := 0) (m := 0) (s := ⟨#[]⟩) (e := 2) (f_less_kind false false)).mono ?_
  rintro e w20 ⟨rfl, hb⟩
  have D20 := Lib.hid (below_step D19.out (Below.lit hb))
  have XA_20 := Lib.hid (XA_19.out.then_ (Below.lit hb))
  have XB_20 := Lib.hid (XB_19.out.then_ (Below.lit hb))
  have XC_20 := Lib.hid (XC_19.out.then_ (Below.lit hb))
  have XD_20 := Lib.hid (XD_19.out.then_ (Below.lit hb))
  have XL_20 := Lib.hid (XL_19.out.then_ (Below.lit hb))
  have X6_20 := Lib.hid (X6_19.out.then_ (Below.lit hb))
  clear hb XA_19 XB_19 XC_19 XD_19 XL_19 X6_19 D19
  go_wp2_with fail
  refine (lnum_any m _).mono ?_
  rintro e w21 ⟨rfl, hb⟩
  have D21 := Lib.hid (below_step D20.out (Below.lit hb))
  have XA_21 := Lib.hid (XA_20.out.then_ (Below.lit hb))
  have XB_21 := Lib.hid (XB_20.out.then_ (Below.lit hb))
  have XC_21 := Lib.hid (XC_20.out.then_ (Below.lit hb))
  have XD_21 := Lib.hid (XD_20.out.then_ (Below.lit hb))
  have XL_21 := Lib.hid (XL_20.out.then_ (Below.lit hb))
  have X6_21 := Lib.hid (X6_20.out.then_ (Below.lit hb))
  have X7_21 := Lib.hid ((Bx.made w20 0 0 ⟨#[]⟩).then_ hb)
  clear hb XA_20 XB_20 XC_20 XD_20 XL_20 X6_20 D20
  go_wp2_with fail
  refine (ltruth_f _).mono ?_
  rintro e w22 ⟨rfl, hb⟩
  have D22 := Lib.hid (below_step D21.out hb)
  have XA_22 := Lib.hid (XA_21.out.then_ hb)
  have XB_22 := Lib.hid (XB_21.out.then_ hb)
  have XC_22 := Lib.hid (XC_21.out.then_ hb)
  have XD_22 := Lib.hid (XD_21.out.then_ hb)
  have XL_22 := Lib.hid (XL_21.out.then_ hb)
  have X6_22 := Lib.hid (X6_21.out.then_ hb)
  have X7_22 := Lib.hid (X7_21.out.then_ hb)
  clear hb XA_21 XB_21 XC_21 XD_21 XL_21 X6_21 X7_21 D21
  go_wp2_with fail
  refine (call_pair (Vs.lit2 _ (numV m) (truthV false) (num_ok Im.out) (truth_ok false)) (by rw [size_al]; omega) (by omega) 8 (k := 0) (m := 0) (s := ⟨#[]⟩) (e := 2) (f_add_kind m false)).mono ?_
  rintro e w23 ⟨rfl, hb⟩
  have D23 := Lib.hid (below_step D22.out (Below.lit hb))
  have XA_23 := Lib.hid (XA_22.out.then_ (Below.lit hb))
  have XB_23 := Lib.hid (XB_22.out.then_ (Below.lit hb))
  have XC_23 := Lib.hid (XC_22.out.then_ (Below.lit hb))
  have XD_23 := Lib.hid (XD_22.out.then_ (Below.lit hb))
  have XL_23 := Lib.hid (XL_22.out.then_ (Below.lit hb))
  have X6_23 := Lib.hid (X6_22.out.then_ (Below.lit hb))
  have X7_23 := Lib.hid (X7_22.out.then_ (Below.lit hb))
  clear hb XA_22 XB_22 XC_22 XD_22 XL_22 X6_22 X7_22 D22
  go_wp2_with fail
  have XA := Lib.hid (XA_23.out.alloc (.cells #[.int .i64 0, .int .i64 0, .string ⟨#[]⟩] 26))
  have XB := Lib.hid (XB_23.out.alloc (.cells #[.int .i64 0, .int .i64 0, .string ⟨#[]⟩] 26))
  have XC := Lib.hid (XC_23.out.alloc (.cells #[.int .i64 0, .int .i64 0, .string ⟨#[]⟩] 26))
  have XD := Lib.hid (XD_23.out.alloc (.cells #[.int .i64 0, .int .i64 0, .string ⟨#[]⟩] 26))
  have XL := Lib.hid (XL_23.out.alloc (.cells #[.int .i64 0, .int .i64 0, .string ⟨#[]⟩] 26))
  have DZ := Lib.hid (D23.out.trans ((below1 w23 (.cells #[.int .i64 0, .int .i64 0, .string ⟨#[]⟩] 26)).mono D23.out.size))
  clear XA_23 XB_23 XC_23 XD_23 XL_23 X6_23 X7_23 D23
  generalize w23.alloc (.cells #[.int .i64 0, .int .i64 0, .string ⟨#[]⟩] 26) = wz at *
  obtain ⟨x00, x01, x02⟩ := XA.out.grown
  obtain ⟨x10, x11, x12⟩ := XB.out.grown
  obtain ⟨x20, x21, x22⟩ := XC.out.grown
  obtain ⟨x30, x31, x32⟩ := XD.out.grown
  obtain ⟨x40, x41, x42⟩ := XL.out.grown
  have QT := Lib.hid (fun d os => Calls.regrown_of (w := wz) (d := d) (os := os) (ltruth_t (grow (redrawn wz d) os)))
  have QF := Lib.hid (fun d os => Calls.regrown_of (w := wz) (d := d) (os := os) (ltruth_f (grow (redrawn wz d) os)))
  have QE := Lib.hid (fun d os => Calls.regrown_of (w := wz) (d := d) (os := os) (TE.out (grow (redrawn wz d) os)))
  have QL := Lib.hid (fun d os => Calls.regrown_of (w := wz) (d := d) (os := os) (TL.out (grow (redrawn wz d) os)))
  have QR := Lib.hid (fun d os => Calls.regrown_of (w := wz) (d := d) (os := os) (fruns_any (grow (redrawn wz d) os)))
  have hv1 : ∀ W, _ = Result.ok true W := fun W => (val_eq 1 1 1 1 ⟨#[]⟩ ⟨#[]⟩ W).trans (by rw [veq_true rfl])
  have hv0 : ∀ W, _ = Result.ok true W := fun W => (val_eq 1 0 1 0 ⟨#[]⟩ ⟨#[]⟩ W).trans (by rw [veq_true rfl])
  have hvE : ∀ W, _ = Result.ok true W := fun W => (val_eq 1 N1 1 N1 ⟨#[]⟩ ⟨#[]⟩ W).trans (by rw [veq_true rfl])
  have hvL : ∀ W, _ = Result.ok true W := fun W => (val_eq 1 N2 1 N2 ⟨#[]⟩ ⟨#[]⟩ W).trans (by rw [veq_true rfl])
  refine wp_region_quiet_below (by kernel_rfl) (by kernel_rfl) ?_
  repeat (go_big_quiet_step ((first | (go_at_call 13; with_reducible exact QT.out _ _) | (go_at_call 13; with_reducible exact QF.out _ _) | (go_at_call 13; with_reducible exact QE.out _ _) | (go_at_call 13; with_reducible exact QL.out _ _) | (go_at_call 3; with_reducible exact QR.out _ _))))
  refine wpQuiet_nil ?_
  intro _ hw'
  obtain ⟨⟨dq, osq⟩, hw''⟩ := hw'
  subst hw''
  clear x00 x01 x02 x10 x11 x12 x20 x21 x22 x30 x31 x32 x40 x41 x42
  go_wp2_with fail
  go_ret
  exact ⟨rfl, below_step DZ.out (below_regrown wz dq osq)⟩

theorem funTruths_walk (p q : Bool) (m : Int) (hm : (Lit.int .i64 m).wf = true) (n : Int) (hn : (Lit.int .i64 n).wf = true) (w : World) :
    Calls Try.prog 7 #[.bool p, .bool q, .int .i64 m, .int .i64 n] w fun e w' => e = .returned (.bool true) ∧ Below w.heap.size w w' := by
  have im : In64 m := wf_bounds hm
  have im2 : In64 n := wf_bounds hn
  cases p <;> cases q
  · exact funTruths_00 m im n im2 w
  · exact funTruths_01 m im n im2 w
  · exact funTruths_10 m im n im2 w
  · exact funTruths_11 m im n im2 w

end Go.Proofs.Ytjcegpakacedoaa
