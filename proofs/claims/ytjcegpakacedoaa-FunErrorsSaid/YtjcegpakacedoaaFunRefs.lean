/- The reference's Call: the operations. -/
import Derived.Test.YtjcegpakacedoaaFunRef
namespace Go.Proofs.Ytjcegpakacedoaa
set_option linter.unusedVariables false
open Go.RowKit Go.Sort

theorem kept_below {f : FuncId} {args : Array Value} {w : World} {v : Ending} (h : Calls Try.prog f args w fun e w' => e = v ∧ w = w') : Calls Try.prog f args w fun e w' => e = v ∧ Below w.heap.size w w' := h.mono fun _ _ ⟨a, b⟩ => ⟨a, by rw [← b]; exact Below.refl _ _⟩

set_option maxHeartbeats 6400000 in
set_option maxRecDepth 100000 in
theorem refcall_6 {w : World} {B c : Nat} {A : Option Addr} {a b : Vl} (h : Vs w B A 2 c [a, b]) (hB : B ≤ w.heap.size) (ha : allR [a, b] = true) :
    Calls Try.prog 18 #[.int .i64 6, .slice A 2 c] w fun e w' => e = .returned (.tuple #[(callV 6 [a, b]).1.val, .int .i64 (callV 6 [a, b]).2]) ∧ Below w.heap.size w w' := by
  have hlen := h.1
  have hcap := h.2.2.1
  have hle := h.2.1
  unfold maxLen at hcap
  have HV := Lib.hid h
  have HBB := Lib.hid hB
  have HL := Lib.hid hlen
  have HA := Lib.hid (allR_iff.1 ha)
  have hq : callV 6 [a, b] = sameV a b := (call_ok ha (by decide) rfl).trans rfl
  have HQ := Lib.hid hq
  have OA := Lib.hid (h.2.2.2.2 a (by simp))
  have OB := Lib.hid (h.2.2.2.2 b (by simp))
  have RA := Lib.hid (allR_iff.1 ha a (by simp))
  have RB := Lib.hid (allR_iff.1 ha b (by simp))
  clear ha h hlen hB hq
  generalize callV 6 [a, b] = RR at *
  go_enter Try.func18, Try.ntmps18
  go_wp2_with fail
  go_loopw [17] (fun i wr => ∃ k : Nat, k ≤ 2 ∧ i = .int .i64 k ∧ RightTo [a, b] k ∧ Bx wr w.heap.size 0 0 ⟨#[]⟩ ∧ Below w.heap.size w wr) (fun i _ => 2 - (intOf i).toNat)
  case atStart => exact ⟨0, Nat.zero_le _, rfl, fun j x _ hj => by omega, Bx.made _ _ _ _, below1 _ _⟩
  case round =>
    obtain ⟨k, hk, rfl, ht, hbx, hb⟩ := hrel
    by_cases hlt : k < 2
    · obtain ⟨b, o, x, rfl, hbB, hx, hok, x0, x1, x2⟩ := (HV.out.below (hb.mono HBB.out)).at_ hlt
      have HT := Lib.hid ht
      have HX := Lib.hid hx
      have D1 := Lib.hid (hb.alloc hb.size (.cells #[.int .i64 x.k, .int .i64 x.n, .string x.s] 26))
      have R1 := Lib.hid (hbx.alloc (.cells #[.int .i64 x.k, .int .i64 x.n, .string x.s] 26))
      have hr := HA.out x (List.mem_of_getElem? hx)
      obtain ⟨kx, nx, sx⟩ := x
      have HR := Lib.hid hr
      have QR := Lib.hid (refright_is (decide_eq_true hr) hok.2.2)
      clear ht hb hx hok hbx hr
      go_wp2_with fail
      refine (QR.out _).mono ?_
      rintro e w2 ⟨rfl, hb2⟩
      have D2 := Lib.hid (below_step D1.out hb2)
      have R2 := Lib.hid (R1.out.then_ hb2)
      have c0 := R2.out.c3
      have f0 := R2.out.fz
      clear hb2
      go_wp2_with fail
      go_roundw
      case rel => exact ⟨k + 1, by omega, by go_num, HT.out.step HX.out HR.out, R2.out, D2.out⟩
      case measure => simp [intOf]; omega
    · obtain rfl : k = 2 := by omega
      obtain ⟨b0, o0, x, hA, hbB, hx, hok, x0, x1, x2⟩ := (HV.out.below (hb.mono HBB.out)).at_ (k := 0) (by omega)
      subst hA
      obtain ⟨b1, o1, y, hA', _, hy, _, y0, y1, y2⟩ := (HV.out.below (hb.mono HBB.out)).at_ (k := 1) (by omega)
      injection hA' with hA'
      injection hA' with e1 e2
      subst e1 e2
      obtain rfl : a = x := Option.some.inj hx
      obtain rfl : b = y := Option.some.inj hy
      simp only [Nat.zero_mul, Nat.one_mul, Nat.add_zero] at x0 x1 x2 y0 y1 y2
      have HX := Lib.hid (show _ ∧ _ ∧ _ from ⟨x0, x1, x2⟩)
      have HY := Lib.hid (show _ ∧ _ ∧ _ from ⟨y0, y1, y2⟩)
      clear hx hy hok
      have c0 := hbx.c3
      have f0 := hbx.fz
      have R1 := Lib.hid hbx
      have D1 := Lib.hid hb
      clear ht hb hbx
      obtain ⟨k, n, s⟩ := a
      obtain ⟨k', n', s'⟩ := b
      dsimp only at x0 x1 x2 y0 y1 y2
      by_cases hk : k = k'
      · subst hk
        have hve := val_eq k n k n' s s'
        have hs : sameV ⟨k, n, s⟩ ⟨k, n', s'⟩ = (truthV (veq ⟨k, n, s⟩ ⟨k, n', s'⟩), 0) := if_pos rfl
        generalize veq ⟨k, n, s⟩ ⟨k, n', s'⟩ = bb at *
        have HS := Lib.hid hs
        clear hs
        go_wp2_with fail
        have z0 := fun d os => cell_regrown HX.out.1 d os
        have z1 := fun d os => cell_regrown HX.out.2.1 d os
        have z2 := fun d os => cell_regrown HX.out.2.2 d os
        have z3 := fun d os => cell_regrown HY.out.1 d os
        have z4 := fun d os => cell_regrown HY.out.2.1 d os
        have z5 := fun d os => cell_regrown HY.out.2.2 d os
        clear x0 x1 x2 y0 y1 y2
        refine wp_region_quiet_below (by kernel_rfl) (by kernel_rfl) ?_
        repeat (go_big_quiet_step (fail))
        refine wpQuiet_nil ?_
        intro _ hw'
        obtain ⟨⟨dq, osq⟩, hw''⟩ := hw'
        subst hw''
        have hbel := below_regrown wr dq osq
        have R1q1 := Lib.hid (R1.out.then_ hbel)
        have D1q1 := Lib.hid (below_step D1.out hbel)
        clear hbel c0 f0 z0 z1 z2 z3 z4 z5
        have x0 := cell_regrown HX.out.1 dq osq
        have x1 := cell_regrown HX.out.2.1 dq osq
        have x2 := cell_regrown HX.out.2.2 dq osq
        have y0 := cell_regrown HY.out.1 dq osq
        have y1 := cell_regrown HY.out.2.1 dq osq
        have y2 := cell_regrown HY.out.2.2 dq osq
        have HXq1 := Lib.hid (show _ ∧ _ ∧ _ from ⟨x0, x1, x2⟩)
        have HYq1 := Lib.hid (show _ ∧ _ ∧ _ from ⟨y0, y1, y2⟩)
        generalize grow (redrawn wr dq) osq = W1 at *
        have c0 := R1q1.out.c3
        have f0 := R1q1.out.fz
        go_wp2_with fail
        have QC := Lib.hid (fun d os => Calls.regrown_of (w := W1) (d := d) (os := os) (rbool_any bb (grow (redrawn W1 d) os)))
        have z0 := fun d os => cell_regrown HXq1.out.1 d os
        have z1 := fun d os => cell_regrown HXq1.out.2.1 d os
        have z2 := fun d os => cell_regrown HXq1.out.2.2 d os
        have z3 := fun d os => cell_regrown HYq1.out.1 d os
        have z4 := fun d os => cell_regrown HYq1.out.2.1 d os
        have z5 := fun d os => cell_regrown HYq1.out.2.2 d os
        clear x0 x1 x2 y0 y1 y2
        refine wp_region_below_tail 8 (by kernel_rfl) (by kernel_rfl) ?_
        simp only [List.take_succ_cons, List.take_zero, List.drop_succ_cons, List.drop_zero]
        repeat (go_big_quiet_step ((go_at_call 28; exact QC.out _ _)))
        refine wpQuiet_nil ?_
        intro _ hw'
        obtain ⟨⟨dq, osq⟩, hw''⟩ := hw'
        subst hw''
        have hbel := below_regrown W1 dq osq
        have R1q2 := Lib.hid (R1q1.out.then_ hbel)
        have D1q2 := Lib.hid (below_step D1q1.out hbel)
        clear hbel c0 f0 z0 z1 z2 z3 z4 z5
        have x0 := cell_regrown HXq1.out.1 dq osq
        have x1 := cell_regrown HXq1.out.2.1 dq osq
        have x2 := cell_regrown HXq1.out.2.2 dq osq
        have y0 := cell_regrown HYq1.out.1 dq osq
        have y1 := cell_regrown HYq1.out.2.1 dq osq
        have y2 := cell_regrown HYq1.out.2.2 dq osq
        have HXq2 := Lib.hid (show _ ∧ _ ∧ _ from ⟨x0, x1, x2⟩)
        have HYq2 := Lib.hid (show _ ∧ _ ∧ _ from ⟨y0, y1, y2⟩)
        generalize grow (redrawn W1 dq) osq = W2 at *
        have c0 := R1q2.out.c3
        have f0 := R1q2.out.fz
        go_wp2_with fail
        try simp only [Exit.inBlock, Exit.then]
        refine bodyPost_ret (box_ret2 rfl rfl rfl (R1q2.out.put _ _ _)) rfl ?_
        exact ⟨ret_v (HQ.out.trans HS.out), below_put D1q2.out (Nat.le_refl _) _ _ _⟩
      · have hne : (k != k') = true := by rw [bne_iff_ne]; exact hk
        have HS := Lib.hid (show sameV ⟨k, n, s⟩ ⟨k', n', s'⟩ = (noneV, 2) from if_neg hk)
        clear hk
        go_wp2_with fail
        have z0 := fun d os => cell_regrown HX.out.1 d os
        have z1 := fun d os => cell_regrown HX.out.2.1 d os
        have z2 := fun d os => cell_regrown HX.out.2.2 d os
        have z3 := fun d os => cell_regrown HY.out.1 d os
        have z4 := fun d os => cell_regrown HY.out.2.1 d os
        have z5 := fun d os => cell_regrown HY.out.2.2 d os
        clear x0 x1 x2 y0 y1 y2
        refine wp_region_quiet_below (by kernel_rfl) (by kernel_rfl) ?_
        repeat (go_big_quiet_step (fail))
        refine wpQuiet_nil ?_
        intro _ hw'
        obtain ⟨⟨dq, osq⟩, hw''⟩ := hw'
        subst hw''
        have hbel := below_regrown wr dq osq
        have R1q1 := Lib.hid (R1.out.then_ hbel)
        have D1q1 := Lib.hid (below_step D1.out hbel)
        clear hbel c0 f0 z0 z1 z2 z3 z4 z5
        have x0 := cell_regrown HX.out.1 dq osq
        have x1 := cell_regrown HX.out.2.1 dq osq
        have x2 := cell_regrown HX.out.2.2 dq osq
        have y0 := cell_regrown HY.out.1 dq osq
        have y1 := cell_regrown HY.out.2.1 dq osq
        have y2 := cell_regrown HY.out.2.2 dq osq
        have HXq1 := Lib.hid (show _ ∧ _ ∧ _ from ⟨x0, x1, x2⟩)
        have HYq1 := Lib.hid (show _ ∧ _ ∧ _ from ⟨y0, y1, y2⟩)
        generalize grow (redrawn wr dq) osq = W1 at *
        have c0 := R1q1.out.c3
        have f0 := R1q1.out.fz
        go_wp2_with fail
        try simp only [Exit.inBlock, Exit.then]
        refine bodyPost_ret (box_ret2 rfl rfl rfl (R1q1.out.put _ _ _)) rfl ?_
        exact ⟨ret_v (HQ.out.trans HS.out), below_put D1q1.out (Nat.le_refl _) _ _ _⟩

set_option maxHeartbeats 6400000 in
set_option maxRecDepth 100000 in
theorem refcall_7 {w : World} {B c : Nat} {A : Option Addr} {a b : Vl} (h : Vs w B A 2 c [a, b]) (hB : B ≤ w.heap.size) (ha : allR [a, b] = true) :
    Calls Try.prog 18 #[.int .i64 7, .slice A 2 c] w fun e w' => e = .returned (.tuple #[(callV 7 [a, b]).1.val, .int .i64 (callV 7 [a, b]).2]) ∧ Below w.heap.size w w' := by
  have hlen := h.1
  have hcap := h.2.2.1
  have hle := h.2.1
  unfold maxLen at hcap
  have HV := Lib.hid h
  have HBB := Lib.hid hB
  have HL := Lib.hid hlen
  have HA := Lib.hid (allR_iff.1 ha)
  have hq : callV 7 [a, b] = lessV a b := (call_ok ha (by decide) rfl).trans rfl
  have HQ := Lib.hid hq
  have OA := Lib.hid (h.2.2.2.2 a (by simp))
  have OB := Lib.hid (h.2.2.2.2 b (by simp))
  have RA := Lib.hid (allR_iff.1 ha a (by simp))
  have RB := Lib.hid (allR_iff.1 ha b (by simp))
  clear ha h hlen hB hq
  generalize callV 7 [a, b] = RR at *
  go_enter Try.func18, Try.ntmps18
  go_wp2_with fail
  go_loopw [17] (fun i wr => ∃ k : Nat, k ≤ 2 ∧ i = .int .i64 k ∧ RightTo [a, b] k ∧ Bx wr w.heap.size 0 0 ⟨#[]⟩ ∧ Below w.heap.size w wr) (fun i _ => 2 - (intOf i).toNat)
  case atStart => exact ⟨0, Nat.zero_le _, rfl, fun j x _ hj => by omega, Bx.made _ _ _ _, below1 _ _⟩
  case round =>
    obtain ⟨k, hk, rfl, ht, hbx, hb⟩ := hrel
    by_cases hlt : k < 2
    · obtain ⟨b, o, x, rfl, hbB, hx, hok, x0, x1, x2⟩ := (HV.out.below (hb.mono HBB.out)).at_ hlt
      have HT := Lib.hid ht
      have HX := Lib.hid hx
      have D1 := Lib.hid (hb.alloc hb.size (.cells #[.int .i64 x.k, .int .i64 x.n, .string x.s] 26))
      have R1 := Lib.hid (hbx.alloc (.cells #[.int .i64 x.k, .int .i64 x.n, .string x.s] 26))
      have hr := HA.out x (List.mem_of_getElem? hx)
      obtain ⟨kx, nx, sx⟩ := x
      have HR := Lib.hid hr
      have QR := Lib.hid (refright_is (decide_eq_true hr) hok.2.2)
      clear ht hb hx hok hbx hr
      go_wp2_with fail
      refine (QR.out _).mono ?_
      rintro e w2 ⟨rfl, hb2⟩
      have D2 := Lib.hid (below_step D1.out hb2)
      have R2 := Lib.hid (R1.out.then_ hb2)
      have c0 := R2.out.c3
      have f0 := R2.out.fz
      clear hb2
      go_wp2_with fail
      go_roundw
      case rel => exact ⟨k + 1, by omega, by go_num, HT.out.step HX.out HR.out, R2.out, D2.out⟩
      case measure => simp [intOf]; omega
    · obtain rfl : k = 2 := by omega
      obtain ⟨b0, o0, x, hA, hbB, hx, hok, x0, x1, x2⟩ := (HV.out.below (hb.mono HBB.out)).at_ (k := 0) (by omega)
      subst hA
      obtain ⟨b1, o1, y, hA', _, hy, _, y0, y1, y2⟩ := (HV.out.below (hb.mono HBB.out)).at_ (k := 1) (by omega)
      injection hA' with hA'
      injection hA' with e1 e2
      subst e1 e2
      obtain rfl : a = x := Option.some.inj hx
      obtain rfl : b = y := Option.some.inj hy
      simp only [Nat.zero_mul, Nat.one_mul, Nat.add_zero] at x0 x1 x2 y0 y1 y2
      have HX := Lib.hid (show _ ∧ _ ∧ _ from ⟨x0, x1, x2⟩)
      have HY := Lib.hid (show _ ∧ _ ∧ _ from ⟨y0, y1, y2⟩)
      clear hx hy hok
      have c0 := hbx.c3
      have f0 := hbx.fz
      have R1 := Lib.hid hbx
      have D1 := Lib.hid hb
      clear ht hb hbx
      obtain ⟨k, n, s⟩ := a
      obtain ⟨k', n', s'⟩ := b
      dsimp only at x0 x1 x2 y0 y1 y2
      obtain ⟨x, e, hx⟩ : ∃ x e, lessOf ⟨k, n, s⟩ ⟨k', n', s'⟩ = (x, e) := ⟨_, _, rfl⟩
      have hl : lessV ⟨k, n, s⟩ ⟨k', n', s'⟩ = if e = 0 then (truthV x, 0) else (noneV, e) := by unfold lessV; rw [hx]
      have QC := Lib.hid (fun d os => Calls.regrown_of (w := wr) (d := d) (os := os) (refless_is ⟨k, n, s⟩ ⟨k', n', s'⟩ OA.out.2.2 OB.out.2.2 x e hx (grow (redrawn wr d) os)))
      clear hx
      by_cases he : e = 0
      · subst he
        rw [if_pos rfl] at hl
        have HS := Lib.hid hl
        clear hl
        go_wp2_with fail
        have z0 := fun d os => cell_regrown HX.out.1 d os
        have z1 := fun d os => cell_regrown HX.out.2.1 d os
        have z2 := fun d os => cell_regrown HX.out.2.2 d os
        have z3 := fun d os => cell_regrown HY.out.1 d os
        have z4 := fun d os => cell_regrown HY.out.2.1 d os
        have z5 := fun d os => cell_regrown HY.out.2.2 d os
        clear x0 x1 x2 y0 y1 y2
        refine wp_region_quiet_below (by kernel_rfl) (by kernel_rfl) ?_
        repeat (go_big_quiet_step ((go_at_call 29; exact QC.out _ _)))
        refine wpQuiet_nil ?_
        intro _ hw'
        obtain ⟨⟨dq, osq⟩, hw''⟩ := hw'
        subst hw''
        have hbel := below_regrown wr dq osq
        have R1q1 := Lib.hid (R1.out.then_ hbel)
        have D1q1 := Lib.hid (below_step D1.out hbel)
        clear hbel c0 f0 z0 z1 z2 z3 z4 z5
        have x0 := cell_regrown HX.out.1 dq osq
        have x1 := cell_regrown HX.out.2.1 dq osq
        have x2 := cell_regrown HX.out.2.2 dq osq
        have y0 := cell_regrown HY.out.1 dq osq
        have y1 := cell_regrown HY.out.2.1 dq osq
        have y2 := cell_regrown HY.out.2.2 dq osq
        have HXq1 := Lib.hid (show _ ∧ _ ∧ _ from ⟨x0, x1, x2⟩)
        have HYq1 := Lib.hid (show _ ∧ _ ∧ _ from ⟨y0, y1, y2⟩)
        generalize grow (redrawn wr dq) osq = W1 at *
        have c0 := R1q1.out.c3
        have f0 := R1q1.out.fz
        go_wp2_with fail
        refine (rbool_any _ _).mono ?_
        rintro e w9 ⟨rfl, hb9⟩
        have R9 := Lib.hid (R1q1.out.then_ hb9)
        have D9 := Lib.hid (below_step D1q1.out hb9)
        clear hb9 c0 f0
        have c0 := R9.out.c3
        have f0 := R9.out.fz
        go_wp2_with fail
        try simp only [Exit.inBlock, Exit.then]
        refine bodyPost_ret (box_ret2 rfl rfl rfl (R9.out.put _ _ _)) rfl ?_
        exact ⟨ret_v (HQ.out.trans HS.out), below_put D9.out (Nat.le_refl _) _ _ _⟩
      · have he' : (e != 0) = true := by rw [bne_iff_ne]; exact he
        rw [if_neg he] at hl
        have HS := Lib.hid hl
        clear hl he
        go_wp2_with fail
        have z0 := fun d os => cell_regrown HX.out.1 d os
        have z1 := fun d os => cell_regrown HX.out.2.1 d os
        have z2 := fun d os => cell_regrown HX.out.2.2 d os
        have z3 := fun d os => cell_regrown HY.out.1 d os
        have z4 := fun d os => cell_regrown HY.out.2.1 d os
        have z5 := fun d os => cell_regrown HY.out.2.2 d os
        clear x0 x1 x2 y0 y1 y2
        refine wp_region_quiet_below (by kernel_rfl) (by kernel_rfl) ?_
        repeat (go_big_quiet_step ((go_at_call 29; exact QC.out _ _)))
        refine wpQuiet_nil ?_
        intro _ hw'
        obtain ⟨⟨dq, osq⟩, hw''⟩ := hw'
        subst hw''
        have hbel := below_regrown wr dq osq
        have R1q1 := Lib.hid (R1.out.then_ hbel)
        have D1q1 := Lib.hid (below_step D1.out hbel)
        clear hbel c0 f0 z0 z1 z2 z3 z4 z5
        have x0 := cell_regrown HX.out.1 dq osq
        have x1 := cell_regrown HX.out.2.1 dq osq
        have x2 := cell_regrown HX.out.2.2 dq osq
        have y0 := cell_regrown HY.out.1 dq osq
        have y1 := cell_regrown HY.out.2.1 dq osq
        have y2 := cell_regrown HY.out.2.2 dq osq
        have HXq1 := Lib.hid (show _ ∧ _ ∧ _ from ⟨x0, x1, x2⟩)
        have HYq1 := Lib.hid (show _ ∧ _ ∧ _ from ⟨y0, y1, y2⟩)
        generalize grow (redrawn wr dq) osq = W1 at *
        have c0 := R1q1.out.c3
        have f0 := R1q1.out.fz
        go_wp2_with fail
        try simp only [Exit.inBlock, Exit.then]
        refine bodyPost_ret (box_ret2 rfl rfl rfl (R1q1.out.put _ _ _)) rfl ?_
        exact ⟨ret_v (HQ.out.trans HS.out), below_put D1q1.out (Nat.le_refl _) _ _ _⟩

set_option maxHeartbeats 6400000 in
set_option maxRecDepth 100000 in
theorem refcall_8 {w : World} {B c : Nat} {A : Option Addr} {a b : Vl} (h : Vs w B A 2 c [a, b]) (hB : B ≤ w.heap.size) (ha : allR [a, b] = true) :
    Calls Try.prog 18 #[.int .i64 8, .slice A 2 c] w fun e w' => e = .returned (.tuple #[(callV 8 [a, b]).1.val, .int .i64 (callV 8 [a, b]).2]) ∧ Below w.heap.size w w' := by
  have hlen := h.1
  have hcap := h.2.2.1
  have hle := h.2.1
  unfold maxLen at hcap
  have HV := Lib.hid h
  have HBB := Lib.hid hB
  have HL := Lib.hid hlen
  have HA := Lib.hid (allR_iff.1 ha)
  have hq : callV 8 [a, b] = reckV 8 a b := (call_ok ha (by decide) rfl).trans rfl
  have HQ := Lib.hid hq
  have OA := Lib.hid (h.2.2.2.2 a (by simp))
  have OB := Lib.hid (h.2.2.2.2 b (by simp))
  have RA := Lib.hid (allR_iff.1 ha a (by simp))
  have RB := Lib.hid (allR_iff.1 ha b (by simp))
  clear ha h hlen hB hq
  generalize callV 8 [a, b] = RR at *
  go_enter Try.func18, Try.ntmps18
  go_wp2_with fail
  go_loopw [17] (fun i wr => ∃ k : Nat, k ≤ 2 ∧ i = .int .i64 k ∧ RightTo [a, b] k ∧ Bx wr w.heap.size 0 0 ⟨#[]⟩ ∧ Below w.heap.size w wr) (fun i _ => 2 - (intOf i).toNat)
  case atStart => exact ⟨0, Nat.zero_le _, rfl, fun j x _ hj => by omega, Bx.made _ _ _ _, below1 _ _⟩
  case round =>
    obtain ⟨k, hk, rfl, ht, hbx, hb⟩ := hrel
    by_cases hlt : k < 2
    · obtain ⟨b, o, x, rfl, hbB, hx, hok, x0, x1, x2⟩ := (HV.out.below (hb.mono HBB.out)).at_ hlt
      have HT := Lib.hid ht
      have HX := Lib.hid hx
      have D1 := Lib.hid (hb.alloc hb.size (.cells #[.int .i64 x.k, .int .i64 x.n, .string x.s] 26))
      have R1 := Lib.hid (hbx.alloc (.cells #[.int .i64 x.k, .int .i64 x.n, .string x.s] 26))
      have hr := HA.out x (List.mem_of_getElem? hx)
      obtain ⟨kx, nx, sx⟩ := x
      have HR := Lib.hid hr
      have QR := Lib.hid (refright_is (decide_eq_true hr) hok.2.2)
      clear ht hb hx hok hbx hr
      go_wp2_with fail
      refine (QR.out _).mono ?_
      rintro e w2 ⟨rfl, hb2⟩
      have D2 := Lib.hid (below_step D1.out hb2)
      have R2 := Lib.hid (R1.out.then_ hb2)
      have c0 := R2.out.c3
      have f0 := R2.out.fz
      clear hb2
      go_wp2_with fail
      go_roundw
      case rel => exact ⟨k + 1, by omega, by go_num, HT.out.step HX.out HR.out, R2.out, D2.out⟩
      case measure => simp [intOf]; omega
    · obtain rfl : k = 2 := by omega
      obtain ⟨b0, o0, x, hA, hbB, hx, hok, x0, x1, x2⟩ := (HV.out.below (hb.mono HBB.out)).at_ (k := 0) (by omega)
      subst hA
      obtain ⟨b1, o1, y, hA', _, hy, _, y0, y1, y2⟩ := (HV.out.below (hb.mono HBB.out)).at_ (k := 1) (by omega)
      injection hA' with hA'
      injection hA' with e1 e2
      subst e1 e2
      obtain rfl : a = x := Option.some.inj hx
      obtain rfl : b = y := Option.some.inj hy
      simp only [Nat.zero_mul, Nat.one_mul, Nat.add_zero] at x0 x1 x2 y0 y1 y2
      have HX := Lib.hid (show _ ∧ _ ∧ _ from ⟨x0, x1, x2⟩)
      have HY := Lib.hid (show _ ∧ _ ∧ _ from ⟨y0, y1, y2⟩)
      clear hx hy hok
      have c0 := hbx.c3
      have f0 := hbx.fz
      have R1 := Lib.hid hbx
      have D1 := Lib.hid hb
      clear ht hb hbx
      obtain ⟨k, n, s⟩ := a
      obtain ⟨k', n', s'⟩ := b
      dsimp only at x0 x1 x2 y0 y1 y2
      obtain ⟨x, e, hx⟩ : ∃ x e, fits (n + n') = (x, e) := ⟨_, _, rfl⟩
      have QC := Lib.hid (fun d os => Calls.regrown_of (w := wr) (d := d) (os := os) (kept_below (num_is (f := 0) hx (refadd_any n n' OA.out.2.1 OB.out.2.1 (grow (redrawn wr d) os)))))
      by_cases h1 : k = 2
      · by_cases h2 : k' = 2
        · have hr : reckV 8 ⟨k, n, s⟩ ⟨k', n', s'⟩ = if e = 0 then (numV x, 0) else (noneV, e) := by
            unfold reckV; rw [if_pos ⟨h1, h2⟩]; show numF (fits (n + n')) = _; rw [hx]; rfl
          subst h1 h2
          by_cases he : e = 0
          · subst he
            rw [if_pos rfl] at hr
            have HS := Lib.hid hr
            clear hr hx
            go_wp2_with fail
            have z0 := fun d os => cell_regrown HX.out.1 d os
            have z1 := fun d os => cell_regrown HX.out.2.1 d os
            have z2 := fun d os => cell_regrown HX.out.2.2 d os
            have z3 := fun d os => cell_regrown HY.out.1 d os
            have z4 := fun d os => cell_regrown HY.out.2.1 d os
            have z5 := fun d os => cell_regrown HY.out.2.2 d os
            clear x0 x1 x2 y0 y1 y2
            refine wp_region_quiet_below (by kernel_rfl) (by kernel_rfl) ?_
            repeat (go_big_quiet_step ((go_at_call 15; exact QC.out _ _)))
            refine wpQuiet_nil ?_
            intro _ hw'
            obtain ⟨⟨dq, osq⟩, hw''⟩ := hw'
            subst hw''
            have hbel := below_regrown wr dq osq
            have R1q1 := Lib.hid (R1.out.then_ hbel)
            have D1q1 := Lib.hid (below_step D1.out hbel)
            clear hbel c0 f0 z0 z1 z2 z3 z4 z5
            have x0 := cell_regrown HX.out.1 dq osq
            have x1 := cell_regrown HX.out.2.1 dq osq
            have x2 := cell_regrown HX.out.2.2 dq osq
            have y0 := cell_regrown HY.out.1 dq osq
            have y1 := cell_regrown HY.out.2.1 dq osq
            have y2 := cell_regrown HY.out.2.2 dq osq
            have HXq1 := Lib.hid (show _ ∧ _ ∧ _ from ⟨x0, x1, x2⟩)
            have HYq1 := Lib.hid (show _ ∧ _ ∧ _ from ⟨y0, y1, y2⟩)
            generalize grow (redrawn wr dq) osq = W1 at *
            have c0 := R1q1.out.c3
            have f0 := R1q1.out.fz
            go_wp2_with fail
            try simp only [Exit.inBlock, Exit.then]
            refine bodyPost_ret (box_ret2 rfl rfl rfl (R1q1.out.put _ _ _)) rfl ?_
            exact ⟨ret_v (HQ.out.trans HS.out), below_put D1q1.out (Nat.le_refl _) _ _ _⟩
          · have he' : (e != 0) = true := by rw [bne_iff_ne]; exact he
            rw [if_neg he] at hr
            have HS := Lib.hid hr
            clear hr he hx
            go_wp2_with fail
            have z0 := fun d os => cell_regrown HX.out.1 d os
            have z1 := fun d os => cell_regrown HX.out.2.1 d os
            have z2 := fun d os => cell_regrown HX.out.2.2 d os
            have z3 := fun d os => cell_regrown HY.out.1 d os
            have z4 := fun d os => cell_regrown HY.out.2.1 d os
            have z5 := fun d os => cell_regrown HY.out.2.2 d os
            clear x0 x1 x2 y0 y1 y2
            refine wp_region_quiet_below (by kernel_rfl) (by kernel_rfl) ?_
            repeat (go_big_quiet_step ((go_at_call 15; exact QC.out _ _)))
            refine wpQuiet_nil ?_
            intro _ hw'
            obtain ⟨⟨dq, osq⟩, hw''⟩ := hw'
            subst hw''
            have hbel := below_regrown wr dq osq
            have R1q1 := Lib.hid (R1.out.then_ hbel)
            have D1q1 := Lib.hid (below_step D1.out hbel)
            clear hbel c0 f0 z0 z1 z2 z3 z4 z5
            have x0 := cell_regrown HX.out.1 dq osq
            have x1 := cell_regrown HX.out.2.1 dq osq
            have x2 := cell_regrown HX.out.2.2 dq osq
            have y0 := cell_regrown HY.out.1 dq osq
            have y1 := cell_regrown HY.out.2.1 dq osq
            have y2 := cell_regrown HY.out.2.2 dq osq
            have HXq1 := Lib.hid (show _ ∧ _ ∧ _ from ⟨x0, x1, x2⟩)
            have HYq1 := Lib.hid (show _ ∧ _ ∧ _ from ⟨y0, y1, y2⟩)
            generalize grow (redrawn wr dq) osq = W1 at *
            have c0 := R1q1.out.c3
            have f0 := R1q1.out.fz
            go_wp2_with fail
            try simp only [Exit.inBlock, Exit.then]
            refine bodyPost_ret (box_ret2 rfl rfl rfl (R1q1.out.put _ _ _)) rfl ?_
            exact ⟨ret_v (HQ.out.trans HS.out), below_put D1q1.out (Nat.le_refl _) _ _ _⟩
        · have hk2 : (k' != 2) = true := by rw [bne_iff_ne]; exact h2
          have HS := Lib.hid (show reckV 8 ⟨k, n, s⟩ ⟨k', n', s'⟩ = (noneV, 2) from if_neg fun h => h2 h.2)
          subst h1
          clear h2 hx
          go_wp2_with fail
          try simp only [Exit.inBlock, Exit.then]
          refine bodyPost_ret (box_ret2 rfl rfl rfl (R1.out.put _ _ _)) rfl ?_
          exact ⟨ret_v (HQ.out.trans HS.out), below_put D1.out (Nat.le_refl _) _ _ _⟩
      · have hk1 : (k != 2) = true := by rw [bne_iff_ne]; exact h1
        have HS := Lib.hid (show reckV 8 ⟨k, n, s⟩ ⟨k', n', s'⟩ = (noneV, 2) from if_neg fun h => h1 h.1)
        clear h1 hx
        go_wp2_with fail
        try simp only [Exit.inBlock, Exit.then]
        refine bodyPost_ret (box_ret2 rfl rfl rfl (R1.out.put _ _ _)) rfl ?_
        exact ⟨ret_v (HQ.out.trans HS.out), below_put D1.out (Nat.le_refl _) _ _ _⟩

set_option maxHeartbeats 6400000 in
set_option maxRecDepth 100000 in
theorem refcall_9 {w : World} {B c : Nat} {A : Option Addr} {a b : Vl} (h : Vs w B A 2 c [a, b]) (hB : B ≤ w.heap.size) (ha : allR [a, b] = true) :
    Calls Try.prog 18 #[.int .i64 9, .slice A 2 c] w fun e w' => e = .returned (.tuple #[(callV 9 [a, b]).1.val, .int .i64 (callV 9 [a, b]).2]) ∧ Below w.heap.size w w' := by
  have hlen := h.1
  have hcap := h.2.2.1
  have hle := h.2.1
  unfold maxLen at hcap
  have HV := Lib.hid h
  have HBB := Lib.hid hB
  have HL := Lib.hid hlen
  have HA := Lib.hid (allR_iff.1 ha)
  have hq : callV 9 [a, b] = reckV 9 a b := (call_ok ha (by decide) rfl).trans rfl
  have HQ := Lib.hid hq
  have OA := Lib.hid (h.2.2.2.2 a (by simp))
  have OB := Lib.hid (h.2.2.2.2 b (by simp))
  have RA := Lib.hid (allR_iff.1 ha a (by simp))
  have RB := Lib.hid (allR_iff.1 ha b (by simp))
  clear ha h hlen hB hq
  generalize callV 9 [a, b] = RR at *
  go_enter Try.func18, Try.ntmps18
  go_wp2_with fail
  go_loopw [17] (fun i wr => ∃ k : Nat, k ≤ 2 ∧ i = .int .i64 k ∧ RightTo [a, b] k ∧ Bx wr w.heap.size 0 0 ⟨#[]⟩ ∧ Below w.heap.size w wr) (fun i _ => 2 - (intOf i).toNat)
  case atStart => exact ⟨0, Nat.zero_le _, rfl, fun j x _ hj => by omega, Bx.made _ _ _ _, below1 _ _⟩
  case round =>
    obtain ⟨k, hk, rfl, ht, hbx, hb⟩ := hrel
    by_cases hlt : k < 2
    · obtain ⟨b, o, x, rfl, hbB, hx, hok, x0, x1, x2⟩ := (HV.out.below (hb.mono HBB.out)).at_ hlt
      have HT := Lib.hid ht
      have HX := Lib.hid hx
      have D1 := Lib.hid (hb.alloc hb.size (.cells #[.int .i64 x.k, .int .i64 x.n, .string x.s] 26))
      have R1 := Lib.hid (hbx.alloc (.cells #[.int .i64 x.k, .int .i64 x.n, .string x.s] 26))
      have hr := HA.out x (List.mem_of_getElem? hx)
      obtain ⟨kx, nx, sx⟩ := x
      have HR := Lib.hid hr
      have QR := Lib.hid (refright_is (decide_eq_true hr) hok.2.2)
      clear ht hb hx hok hbx hr
      go_wp2_with fail
      refine (QR.out _).mono ?_
      rintro e w2 ⟨rfl, hb2⟩
      have D2 := Lib.hid (below_step D1.out hb2)
      have R2 := Lib.hid (R1.out.then_ hb2)
      have c0 := R2.out.c3
      have f0 := R2.out.fz
      clear hb2
      go_wp2_with fail
      go_roundw
      case rel => exact ⟨k + 1, by omega, by go_num, HT.out.step HX.out HR.out, R2.out, D2.out⟩
      case measure => simp [intOf]; omega
    · obtain rfl : k = 2 := by omega
      obtain ⟨b0, o0, x, hA, hbB, hx, hok, x0, x1, x2⟩ := (HV.out.below (hb.mono HBB.out)).at_ (k := 0) (by omega)
      subst hA
      obtain ⟨b1, o1, y, hA', _, hy, _, y0, y1, y2⟩ := (HV.out.below (hb.mono HBB.out)).at_ (k := 1) (by omega)
      injection hA' with hA'
      injection hA' with e1 e2
      subst e1 e2
      obtain rfl : a = x := Option.some.inj hx
      obtain rfl : b = y := Option.some.inj hy
      simp only [Nat.zero_mul, Nat.one_mul, Nat.add_zero] at x0 x1 x2 y0 y1 y2
      have HX := Lib.hid (show _ ∧ _ ∧ _ from ⟨x0, x1, x2⟩)
      have HY := Lib.hid (show _ ∧ _ ∧ _ from ⟨y0, y1, y2⟩)
      clear hx hy hok
      have c0 := hbx.c3
      have f0 := hbx.fz
      have R1 := Lib.hid hbx
      have D1 := Lib.hid hb
      clear ht hb hbx
      obtain ⟨k, n, s⟩ := a
      obtain ⟨k', n', s'⟩ := b
      dsimp only at x0 x1 x2 y0 y1 y2
      obtain ⟨x, e, hx⟩ : ∃ x e, fits (n - n') = (x, e) := ⟨_, _, rfl⟩
      have QC := Lib.hid (fun d os => Calls.regrown_of (w := wr) (d := d) (os := os) (kept_below (num_is (f := 0) hx (refsub_any n n' OA.out.2.1 OB.out.2.1 (grow (redrawn wr d) os)))))
      by_cases h1 : k = 2
      · by_cases h2 : k' = 2
        · have hr : reckV 9 ⟨k, n, s⟩ ⟨k', n', s'⟩ = if e = 0 then (numV x, 0) else (noneV, e) := by
            unfold reckV; rw [if_pos ⟨h1, h2⟩]; show numF (fits (n - n')) = _; rw [hx]; rfl
          subst h1 h2
          by_cases he : e = 0
          · subst he
            rw [if_pos rfl] at hr
            have HS := Lib.hid hr
            clear hr hx
            go_wp2_with fail
            have z0 := fun d os => cell_regrown HX.out.1 d os
            have z1 := fun d os => cell_regrown HX.out.2.1 d os
            have z2 := fun d os => cell_regrown HX.out.2.2 d os
            have z3 := fun d os => cell_regrown HY.out.1 d os
            have z4 := fun d os => cell_regrown HY.out.2.1 d os
            have z5 := fun d os => cell_regrown HY.out.2.2 d os
            clear x0 x1 x2 y0 y1 y2
            refine wp_region_quiet_below (by kernel_rfl) (by kernel_rfl) ?_
            repeat (go_big_quiet_step ((go_at_call 16; exact QC.out _ _)))
            refine wpQuiet_nil ?_
            intro _ hw'
            obtain ⟨⟨dq, osq⟩, hw''⟩ := hw'
            subst hw''
            have hbel := below_regrown wr dq osq
            have R1q1 := Lib.hid (R1.out.then_ hbel)
            have D1q1 := Lib.hid (below_step D1.out hbel)
            clear hbel c0 f0 z0 z1 z2 z3 z4 z5
            have x0 := cell_regrown HX.out.1 dq osq
            have x1 := cell_regrown HX.out.2.1 dq osq
            have x2 := cell_regrown HX.out.2.2 dq osq
            have y0 := cell_regrown HY.out.1 dq osq
            have y1 := cell_regrown HY.out.2.1 dq osq
            have y2 := cell_regrown HY.out.2.2 dq osq
            have HXq1 := Lib.hid (show _ ∧ _ ∧ _ from ⟨x0, x1, x2⟩)
            have HYq1 := Lib.hid (show _ ∧ _ ∧ _ from ⟨y0, y1, y2⟩)
            generalize grow (redrawn wr dq) osq = W1 at *
            have c0 := R1q1.out.c3
            have f0 := R1q1.out.fz
            go_wp2_with fail
            try simp only [Exit.inBlock, Exit.then]
            refine bodyPost_ret (box_ret2 rfl rfl rfl (R1q1.out.put _ _ _)) rfl ?_
            exact ⟨ret_v (HQ.out.trans HS.out), below_put D1q1.out (Nat.le_refl _) _ _ _⟩
          · have he' : (e != 0) = true := by rw [bne_iff_ne]; exact he
            rw [if_neg he] at hr
            have HS := Lib.hid hr
            clear hr he hx
            go_wp2_with fail
            have z0 := fun d os => cell_regrown HX.out.1 d os
            have z1 := fun d os => cell_regrown HX.out.2.1 d os
            have z2 := fun d os => cell_regrown HX.out.2.2 d os
            have z3 := fun d os => cell_regrown HY.out.1 d os
            have z4 := fun d os => cell_regrown HY.out.2.1 d os
            have z5 := fun d os => cell_regrown HY.out.2.2 d os
            clear x0 x1 x2 y0 y1 y2
            refine wp_region_quiet_below (by kernel_rfl) (by kernel_rfl) ?_
            repeat (go_big_quiet_step ((go_at_call 16; exact QC.out _ _)))
            refine wpQuiet_nil ?_
            intro _ hw'
            obtain ⟨⟨dq, osq⟩, hw''⟩ := hw'
            subst hw''
            have hbel := below_regrown wr dq osq
            have R1q1 := Lib.hid (R1.out.then_ hbel)
            have D1q1 := Lib.hid (below_step D1.out hbel)
            clear hbel c0 f0 z0 z1 z2 z3 z4 z5
            have x0 := cell_regrown HX.out.1 dq osq
            have x1 := cell_regrown HX.out.2.1 dq osq
            have x2 := cell_regrown HX.out.2.2 dq osq
            have y0 := cell_regrown HY.out.1 dq osq
            have y1 := cell_regrown HY.out.2.1 dq osq
            have y2 := cell_regrown HY.out.2.2 dq osq
            have HXq1 := Lib.hid (show _ ∧ _ ∧ _ from ⟨x0, x1, x2⟩)
            have HYq1 := Lib.hid (show _ ∧ _ ∧ _ from ⟨y0, y1, y2⟩)
            generalize grow (redrawn wr dq) osq = W1 at *
            have c0 := R1q1.out.c3
            have f0 := R1q1.out.fz
            go_wp2_with fail
            try simp only [Exit.inBlock, Exit.then]
            refine bodyPost_ret (box_ret2 rfl rfl rfl (R1q1.out.put _ _ _)) rfl ?_
            exact ⟨ret_v (HQ.out.trans HS.out), below_put D1q1.out (Nat.le_refl _) _ _ _⟩
        · have hk2 : (k' != 2) = true := by rw [bne_iff_ne]; exact h2
          have HS := Lib.hid (show reckV 9 ⟨k, n, s⟩ ⟨k', n', s'⟩ = (noneV, 2) from if_neg fun h => h2 h.2)
          subst h1
          clear h2 hx
          go_wp2_with fail
          try simp only [Exit.inBlock, Exit.then]
          refine bodyPost_ret (box_ret2 rfl rfl rfl (R1.out.put _ _ _)) rfl ?_
          exact ⟨ret_v (HQ.out.trans HS.out), below_put D1.out (Nat.le_refl _) _ _ _⟩
      · have hk1 : (k != 2) = true := by rw [bne_iff_ne]; exact h1
        have HS := Lib.hid (show reckV 9 ⟨k, n, s⟩ ⟨k', n', s'⟩ = (noneV, 2) from if_neg fun h => h1 h.1)
        clear h1 hx
        go_wp2_with fail
        try simp only [Exit.inBlock, Exit.then]
        refine bodyPost_ret (box_ret2 rfl rfl rfl (R1.out.put _ _ _)) rfl ?_
        exact ⟨ret_v (HQ.out.trans HS.out), below_put D1.out (Nat.le_refl _) _ _ _⟩

set_option maxHeartbeats 6400000 in
set_option maxRecDepth 100000 in
theorem refcall_10 {w : World} {B c : Nat} {A : Option Addr} {a b : Vl} (h : Vs w B A 2 c [a, b]) (hB : B ≤ w.heap.size) (ha : allR [a, b] = true) :
    Calls Try.prog 18 #[.int .i64 10, .slice A 2 c] w fun e w' => e = .returned (.tuple #[(callV 10 [a, b]).1.val, .int .i64 (callV 10 [a, b]).2]) ∧ Below w.heap.size w w' := by
  have hlen := h.1
  have hcap := h.2.2.1
  have hle := h.2.1
  unfold maxLen at hcap
  have HV := Lib.hid h
  have HBB := Lib.hid hB
  have HL := Lib.hid hlen
  have HA := Lib.hid (allR_iff.1 ha)
  have hq : callV 10 [a, b] = reckV 10 a b := (call_ok ha (by decide) rfl).trans rfl
  have HQ := Lib.hid hq
  have OA := Lib.hid (h.2.2.2.2 a (by simp))
  have OB := Lib.hid (h.2.2.2.2 b (by simp))
  have RA := Lib.hid (allR_iff.1 ha a (by simp))
  have RB := Lib.hid (allR_iff.1 ha b (by simp))
  clear ha h hlen hB hq
  generalize callV 10 [a, b] = RR at *
  go_enter Try.func18, Try.ntmps18
  go_wp2_with fail
  go_loopw [17] (fun i wr => ∃ k : Nat, k ≤ 2 ∧ i = .int .i64 k ∧ RightTo [a, b] k ∧ Bx wr w.heap.size 0 0 ⟨#[]⟩ ∧ Below w.heap.size w wr) (fun i _ => 2 - (intOf i).toNat)
  case atStart => exact ⟨0, Nat.zero_le _, rfl, fun j x _ hj => by omega, Bx.made _ _ _ _, below1 _ _⟩
  case round =>
    obtain ⟨k, hk, rfl, ht, hbx, hb⟩ := hrel
    by_cases hlt : k < 2
    · obtain ⟨b, o, x, rfl, hbB, hx, hok, x0, x1, x2⟩ := (HV.out.below (hb.mono HBB.out)).at_ hlt
      have HT := Lib.hid ht
      have HX := Lib.hid hx
      have D1 := Lib.hid (hb.alloc hb.size (.cells #[.int .i64 x.k, .int .i64 x.n, .string x.s] 26))
      have R1 := Lib.hid (hbx.alloc (.cells #[.int .i64 x.k, .int .i64 x.n, .string x.s] 26))
      have hr := HA.out x (List.mem_of_getElem? hx)
      obtain ⟨kx, nx, sx⟩ := x
      have HR := Lib.hid hr
      have QR := Lib.hid (refright_is (decide_eq_true hr) hok.2.2)
      clear ht hb hx hok hbx hr
      go_wp2_with fail
      refine (QR.out _).mono ?_
      rintro e w2 ⟨rfl, hb2⟩
      have D2 := Lib.hid (below_step D1.out hb2)
      have R2 := Lib.hid (R1.out.then_ hb2)
      have c0 := R2.out.c3
      have f0 := R2.out.fz
      clear hb2
      go_wp2_with fail
      go_roundw
      case rel => exact ⟨k + 1, by omega, by go_num, HT.out.step HX.out HR.out, R2.out, D2.out⟩
      case measure => simp [intOf]; omega
    · obtain rfl : k = 2 := by omega
      obtain ⟨b0, o0, x, hA, hbB, hx, hok, x0, x1, x2⟩ := (HV.out.below (hb.mono HBB.out)).at_ (k := 0) (by omega)
      subst hA
      obtain ⟨b1, o1, y, hA', _, hy, _, y0, y1, y2⟩ := (HV.out.below (hb.mono HBB.out)).at_ (k := 1) (by omega)
      injection hA' with hA'
      injection hA' with e1 e2
      subst e1 e2
      obtain rfl : a = x := Option.some.inj hx
      obtain rfl : b = y := Option.some.inj hy
      simp only [Nat.zero_mul, Nat.one_mul, Nat.add_zero] at x0 x1 x2 y0 y1 y2
      have HX := Lib.hid (show _ ∧ _ ∧ _ from ⟨x0, x1, x2⟩)
      have HY := Lib.hid (show _ ∧ _ ∧ _ from ⟨y0, y1, y2⟩)
      clear hx hy hok
      have c0 := hbx.c3
      have f0 := hbx.fz
      have R1 := Lib.hid hbx
      have D1 := Lib.hid hb
      clear ht hb hbx
      obtain ⟨k, n, s⟩ := a
      obtain ⟨k', n', s'⟩ := b
      dsimp only at x0 x1 x2 y0 y1 y2
      obtain ⟨x, e, hx⟩ : ∃ x e, fits (n * n') = (x, e) := ⟨_, _, rfl⟩
      have QC := Lib.hid (fun d os => Calls.regrown_of (w := wr) (d := d) (os := os) (kept_below (num_is (f := 0) hx (refmul_any n n' OA.out.2.1 OB.out.2.1 (grow (redrawn wr d) os)))))
      by_cases h1 : k = 2
      · by_cases h2 : k' = 2
        · have hr : reckV 10 ⟨k, n, s⟩ ⟨k', n', s'⟩ = if e = 0 then (numV x, 0) else (noneV, e) := by
            unfold reckV; rw [if_pos ⟨h1, h2⟩]; show numF (fits (n * n')) = _; rw [hx]; rfl
          subst h1 h2
          by_cases he : e = 0
          · subst he
            rw [if_pos rfl] at hr
            have HS := Lib.hid hr
            clear hr hx
            go_wp2_with fail
            have z0 := fun d os => cell_regrown HX.out.1 d os
            have z1 := fun d os => cell_regrown HX.out.2.1 d os
            have z2 := fun d os => cell_regrown HX.out.2.2 d os
            have z3 := fun d os => cell_regrown HY.out.1 d os
            have z4 := fun d os => cell_regrown HY.out.2.1 d os
            have z5 := fun d os => cell_regrown HY.out.2.2 d os
            clear x0 x1 x2 y0 y1 y2
            refine wp_region_quiet_below (by kernel_rfl) (by kernel_rfl) ?_
            repeat (go_big_quiet_step ((go_at_call 17; exact QC.out _ _)))
            refine wpQuiet_nil ?_
            intro _ hw'
            obtain ⟨⟨dq, osq⟩, hw''⟩ := hw'
            subst hw''
            have hbel := below_regrown wr dq osq
            have R1q1 := Lib.hid (R1.out.then_ hbel)
            have D1q1 := Lib.hid (below_step D1.out hbel)
            clear hbel c0 f0 z0 z1 z2 z3 z4 z5
            have x0 := cell_regrown HX.out.1 dq osq
            have x1 := cell_regrown HX.out.2.1 dq osq
            have x2 := cell_regrown HX.out.2.2 dq osq
            have y0 := cell_regrown HY.out.1 dq osq
            have y1 := cell_regrown HY.out.2.1 dq osq
            have y2 := cell_regrown HY.out.2.2 dq osq
            have HXq1 := Lib.hid (show _ ∧ _ ∧ _ from ⟨x0, x1, x2⟩)
            have HYq1 := Lib.hid (show _ ∧ _ ∧ _ from ⟨y0, y1, y2⟩)
            generalize grow (redrawn wr dq) osq = W1 at *
            have c0 := R1q1.out.c3
            have f0 := R1q1.out.fz
            go_wp2_with fail
            try simp only [Exit.inBlock, Exit.then]
            refine bodyPost_ret (box_ret2 rfl rfl rfl (R1q1.out.put _ _ _)) rfl ?_
            exact ⟨ret_v (HQ.out.trans HS.out), below_put D1q1.out (Nat.le_refl _) _ _ _⟩
          · have he' : (e != 0) = true := by rw [bne_iff_ne]; exact he
            rw [if_neg he] at hr
            have HS := Lib.hid hr
            clear hr he hx
            go_wp2_with fail
            have z0 := fun d os => cell_regrown HX.out.1 d os
            have z1 := fun d os => cell_regrown HX.out.2.1 d os
            have z2 := fun d os => cell_regrown HX.out.2.2 d os
            have z3 := fun d os => cell_regrown HY.out.1 d os
            have z4 := fun d os => cell_regrown HY.out.2.1 d os
            have z5 := fun d os => cell_regrown HY.out.2.2 d os
            clear x0 x1 x2 y0 y1 y2
            refine wp_region_quiet_below (by kernel_rfl) (by kernel_rfl) ?_
            repeat (go_big_quiet_step ((go_at_call 17; exact QC.out _ _)))
            refine wpQuiet_nil ?_
            intro _ hw'
            obtain ⟨⟨dq, osq⟩, hw''⟩ := hw'
            subst hw''
            have hbel := below_regrown wr dq osq
            have R1q1 := Lib.hid (R1.out.then_ hbel)
            have D1q1 := Lib.hid (below_step D1.out hbel)
            clear hbel c0 f0 z0 z1 z2 z3 z4 z5
            have x0 := cell_regrown HX.out.1 dq osq
            have x1 := cell_regrown HX.out.2.1 dq osq
            have x2 := cell_regrown HX.out.2.2 dq osq
            have y0 := cell_regrown HY.out.1 dq osq
            have y1 := cell_regrown HY.out.2.1 dq osq
            have y2 := cell_regrown HY.out.2.2 dq osq
            have HXq1 := Lib.hid (show _ ∧ _ ∧ _ from ⟨x0, x1, x2⟩)
            have HYq1 := Lib.hid (show _ ∧ _ ∧ _ from ⟨y0, y1, y2⟩)
            generalize grow (redrawn wr dq) osq = W1 at *
            have c0 := R1q1.out.c3
            have f0 := R1q1.out.fz
            go_wp2_with fail
            try simp only [Exit.inBlock, Exit.then]
            refine bodyPost_ret (box_ret2 rfl rfl rfl (R1q1.out.put _ _ _)) rfl ?_
            exact ⟨ret_v (HQ.out.trans HS.out), below_put D1q1.out (Nat.le_refl _) _ _ _⟩
        · have hk2 : (k' != 2) = true := by rw [bne_iff_ne]; exact h2
          have HS := Lib.hid (show reckV 10 ⟨k, n, s⟩ ⟨k', n', s'⟩ = (noneV, 2) from if_neg fun h => h2 h.2)
          subst h1
          clear h2 hx
          go_wp2_with fail
          try simp only [Exit.inBlock, Exit.then]
          refine bodyPost_ret (box_ret2 rfl rfl rfl (R1.out.put _ _ _)) rfl ?_
          exact ⟨ret_v (HQ.out.trans HS.out), below_put D1.out (Nat.le_refl _) _ _ _⟩
      · have hk1 : (k != 2) = true := by rw [bne_iff_ne]; exact h1
        have HS := Lib.hid (show reckV 10 ⟨k, n, s⟩ ⟨k', n', s'⟩ = (noneV, 2) from if_neg fun h => h1 h.1)
        clear h1 hx
        go_wp2_with fail
        try simp only [Exit.inBlock, Exit.then]
        refine bodyPost_ret (box_ret2 rfl rfl rfl (R1.out.put _ _ _)) rfl ?_
        exact ⟨ret_v (HQ.out.trans HS.out), below_put D1.out (Nat.le_refl _) _ _ _⟩
end Go.Proofs.Ytjcegpakacedoaa
