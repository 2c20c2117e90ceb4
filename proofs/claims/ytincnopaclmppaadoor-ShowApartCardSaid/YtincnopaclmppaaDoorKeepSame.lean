/- bailiffkeep: two policies that are the same. -/
import Derived.Test.YtincnopaclmppaaDoorPolRight
import Derived.Laws.StructEq
import Derived.Laws.Tables
import Derived.Laws.Cover2
import Derived.Lib.QuietBelow
import Derived.Deep.CutRange
import Derived.Test.YtincnopaclmppaaDoorHTail
namespace Go.Proofs.YtincnopaclmppaaDoor
set_option linter.unusedVariables false
open Go.RowKit Go.Sort

section
variable {w : World} {R R' : Nat → Prop} {A A' : Option Addr} {n c n' c' : Nat}
theorem Rw.same_len {α : Type} {k k' : Nat} {P P' : List Value → α → Prop} {w : World} {R R' : Nat → Prop} {A A' : Option Addr} {n n' c c' : Nat} {l : List α} (h : Rw k P w R A n c l) (h' : Rw k' P' w R' A' n' c' l) : n = n' := by rw [← h.len, ← h'.len]
set_option maxHeartbeats 800000 in
theorem same_dut {l : List Dut} (h : Dus w R A n c l) (h' : Dus w R' A' n c' l) : Calls Tryd.prog 17 #[.slice A n c, .slice A' n c'] w fun e w' => e = .returned (.bool true) ∧ Below w.heap.size w w' := by
  have hcap := h.cap
  have hle := h.le
  have hle' := h'.le
  unfold maxLen at hcap
  have H := Lib.hid h
  have H' := Lib.hid h'
  clear h h'
  go_enter Tryd.func17, Tryd.ntmps17
  go_wp2
  go_loopw [5] (fun i wr => ∃ k : Nat, k ≤ n ∧ i = .int .i64 k ∧ ∃ q, wr = w.drewN q) (fun i _ => n - (intOf i).toNat)
  case atStart => exact ⟨0, Nat.zero_le _, rfl, 0, rfl⟩
  case round =>
    obtain ⟨k, hk, rfl, q, rfl⟩ := hrel
    by_cases hlt : k < n
    · obtain ⟨b, o, x, rfl, _, _, hx, _, ⟨x0, x1, x2⟩⟩ := H.out.at_ hlt
      obtain ⟨b', o', y, rfl, _, _, hy, _, ⟨y0, y1, y2⟩⟩ := H'.out.at_ hlt
      obtain rfl := Option.some.inj (hx.symm.trans hy)
      have hve := dut_eq x x
      simp only [decide_true] at hve
      clear hx hy
      go_wp2_with fail
      go_quiet (fail)
      go_wp2
      go_roundw
      case rel => exact ⟨k + 1, by omega, by go_num, _, rfl⟩
      case measure => simp [intOf]; omega
    · obtain rfl : k = n := by omega
      go_wp2
      go_ret
      exact ⟨rfl, below_drewN (Below.refl _ _) _⟩
set_option maxHeartbeats 800000 in
theorem same_nod {l : List Nod} (h : Nds w R A n c l) (h' : Nds w R' A' n c' l) : Calls Tryd.prog 18 #[.slice A n c, .slice A' n c'] w fun e w' => e = .returned (.bool true) ∧ Below w.heap.size w w' := by
  have hcap := h.cap
  have hle := h.le
  have hle' := h'.le
  unfold maxLen at hcap
  have H := Lib.hid h
  have H' := Lib.hid h'
  clear h h'
  go_enter Tryd.func18, Tryd.ntmps18
  go_wp2
  go_loopw [5] (fun i wr => ∃ k : Nat, k ≤ n ∧ i = .int .i64 k ∧ ∃ q, wr = w.drewN q) (fun i _ => n - (intOf i).toNat)
  case atStart => exact ⟨0, Nat.zero_le _, rfl, 0, rfl⟩
  case round =>
    obtain ⟨k, hk, rfl, q, rfl⟩ := hrel
    by_cases hlt : k < n
    · obtain ⟨b, o, x, rfl, _, _, hx, _, ⟨x0, x1, x2, x3, x4, x5, x6⟩⟩ := H.out.at_ hlt
      obtain ⟨b', o', y, rfl, _, _, hy, _, ⟨y0, y1, y2, y3, y4, y5, y6⟩⟩ := H'.out.at_ hlt
      obtain rfl := Option.some.inj (hx.symm.trans hy)
      have hve := nod_eq x x
      simp only [decide_true] at hve
      clear hx hy
      go_wp2_with fail
      go_quiet (fail)
      go_wp2
      go_roundw
      case rel => exact ⟨k + 1, by omega, by go_num, _, rfl⟩
      case measure => simp [intOf]; omega
    · obtain rfl : k = n := by omega
      go_wp2
      go_ret
      exact ⟨rfl, below_drewN (Below.refl _ _) _⟩
set_option maxHeartbeats 800000 in
theorem same_mat {l : List Mat} (h : Ms w R A n c l) (h' : Ms w R' A' n c' l) : Calls Tryd.prog 31 #[.slice A n c, .slice A' n c'] w fun e w' => e = .returned (.bool true) ∧ Below w.heap.size w w' := by
  have hcap := h.cap
  have hle := h.le
  have hle' := h'.le
  unfold maxLen at hcap
  have H := Lib.hid h
  have H' := Lib.hid h'
  clear h h'
  go_enter Tryd.func31, Tryd.ntmps31
  go_wp2
  go_loopw [5] (fun i wr => ∃ k : Nat, k ≤ n ∧ i = .int .i64 k ∧ ∃ q, wr = w.drewN q) (fun i _ => n - (intOf i).toNat)
  case atStart => exact ⟨0, Nat.zero_le _, rfl, 0, rfl⟩
  case round =>
    obtain ⟨k, hk, rfl, q, rfl⟩ := hrel
    by_cases hlt : k < n
    · obtain ⟨b, o, x, rfl, _, _, hx, _, ⟨x0, x1, x2, x3, x4, x5, x6⟩⟩ := H.out.at_ hlt
      obtain ⟨b', o', y, rfl, _, _, hy, _, ⟨y0, y1, y2, y3, y4, y5, y6⟩⟩ := H'.out.at_ hlt
      obtain rfl := Option.some.inj (hx.symm.trans hy)
      have hve := mat_eq x x
      simp only [decide_true] at hve
      clear hx hy
      go_wp2_with fail
      go_quiet (fail)
      go_wp2
      go_roundw
      case rel => exact ⟨k + 1, by omega, by go_num, _, rfl⟩
      case measure => simp [intOf]; omega
    · obtain rfl : k = n := by omega
      go_wp2
      go_ret
      exact ⟨rfl, below_drewN (Below.refl _ _) _⟩
theorem same_dut_q {l : List Dut} (h : Dus w R A n c l) (h' : Dus w R' A' n' c' l) (d : Nat) (os : Array Obj) : Calls Tryd.prog 17 #[.slice A n c, .slice A' n' c'] (grow (redrawn w d) os) fun e w'' => e = .returned (.bool true) ∧ ∃ p : Regrown, w'' = grow (redrawn w p.d) p.os := by
  obtain rfl := Rw.same_len h h'
  exact Calls.regrown_of (same_dut (R := R) (R' := R') (h.keep (Kept.all (below_regrown w d os) R) (fun _ h _ => h)) (h'.keep (Kept.all (below_regrown w d os) R') (fun _ h _ => h)))
theorem same_nod_q {l : List Nod} (h : Nds w R A n c l) (h' : Nds w R' A' n' c' l) (d : Nat) (os : Array Obj) : Calls Tryd.prog 18 #[.slice A n c, .slice A' n' c'] (grow (redrawn w d) os) fun e w'' => e = .returned (.bool true) ∧ ∃ p : Regrown, w'' = grow (redrawn w p.d) p.os := by
  obtain rfl := Rw.same_len h h'
  exact Calls.regrown_of (same_nod (R := R) (R' := R') (h.keep (Kept.all (below_regrown w d os) R) (fun _ h _ => h)) (h'.keep (Kept.all (below_regrown w d os) R') (fun _ h _ => h)))
theorem same_mat_q {l : List Mat} (h : Ms w R A n c l) (h' : Ms w R' A' n' c' l) (d : Nat) (os : Array Obj) : Calls Tryd.prog 31 #[.slice A n c, .slice A' n' c'] (grow (redrawn w d) os) fun e w'' => e = .returned (.bool true) ∧ ∃ p : Regrown, w'' = grow (redrawn w p.d) p.os := by
  obtain rfl := Rw.same_len h h'
  exact Calls.regrown_of (same_mat (R := R) (R' := R') (h.keep (Kept.all (below_regrown w d os) R) (fun _ h _ => h)) (h'.keep (Kept.all (below_regrown w d os) R') (fun _ h _ => h)))
set_option maxRecDepth 100000 in
set_option maxHeartbeats 1600000 in
theorem same_tgt {l : Tgt} (h : Tg w R A n c l) (h' : Tg w R' A' n c' l) : Calls Tryd.prog 16 #[.slice A n c, .slice A' n c'] w fun e w' => e = .returned (.bool true) ∧ Below w.heap.size w w' := by
  have hcap := h.cap
  have hle := h.le
  have hle' := h'.le
  unfold maxLen at hcap
  have H := Lib.hid h
  have H' := Lib.hid h'
  clear h h'
  go_enter Tryd.func16, Tryd.ntmps16
  go_wp2
  go_loopw [14] (fun i wr => ∃ k : Nat, k ≤ n ∧ i = .int .i64 k ∧ Below w.heap.size w wr) (fun i _ => n - (intOf i).toNat)
  case atStart => exact ⟨0, Nat.zero_le _, rfl, Below.refl _ _⟩
  case round =>
    obtain ⟨k, hk, rfl, hb⟩ := hrel
    have HB := Lib.hid hb
    have T1 := Lib.hid (H.out.keep (Kept.all hb R) (fun _ h _ => h))
    have T2 := Lib.hid (H'.out.keep (Kept.all hb R') (fun _ h _ => h))
    clear hb
    by_cases hlt : k < n
    · obtain ⟨b, o, x, A1, n1, c1, rfl, _, _, hx, x0, hA⟩ := T1.out.at_ hlt
      obtain ⟨b', o', y, A2, n2, c2, rfl, _, _, hy, y0, hA'⟩ := T2.out.at_ hlt
      obtain rfl := Option.some.inj (hx.symm.trans hy)
      obtain rfl := Rw.same_len hA hA'
      have hcap1 := Rw.cap hA
      have hle1 := Rw.le hA
      have hle2 := Rw.le hA'
      unfold maxLen at hcap1
      have G1 := Lib.hid hA
      have G2 := Lib.hid hA'
      clear hx hy hA hA'
      go_wp2_with fail
      have x0' := fun d os => cell_regrown x0 d os
      have y0' := fun d os => cell_regrown y0 d os
      refine wp_region_quiet_below (by kernel_rfl) (by kernel_rfl) ?_
      repeat (go_big_quiet_step (fail))
      refine wpQuiet_nil ?_
      intro _ hw'
      obtain ⟨⟨dq, osq⟩, hw''⟩ := hw'
      subst hw''
      have BQ := Lib.hid (below_regrown wr dq osq)
      have c1x := x0' dq osq
      clear x0' y0'
      generalize grow (redrawn wr dq) osq = w2 at *
      have HB2 := Lib.hid (HB.out.trans (BQ.out.mono HB.out.size))
      have S1 := Lib.hid (G1.out.keep (Kept.all BQ.out R) (fun _ h _ => h))
      have S2 := Lib.hid (G2.out.keep (Kept.all BQ.out R') (fun _ h _ => h))
      have xw := c1x
      have yw := (show w2.cell? _ = some _ from (BQ.out.cell (block_lt_of_cell y0)).trans y0)
      clear c1x
      go_wp2_with fail
      obtain ⟨wo, hwo⟩ : ∃ wo, wo = wr := ⟨wr, rfl⟩
      subst hwo
      go_loopw [33] (fun i wq => ∃ j : Nat, j ≤ n1 ∧ i = .int .i64 j ∧ Below w2.heap.size w2 wq) (fun i _ => n1 - (intOf i).toNat)
      case atStart => exact ⟨0, Nat.zero_le _, rfl, Below.refl _ _⟩
      case round =>
        obtain ⟨j, hj, rfl, hb⟩ := hrel
        have HB3 := Lib.hid (HB2.out.trans (hb.mono HB2.out.size))
        have HBJ := Lib.hid hb
        have T1j := Lib.hid (S1.out.keep (Kept.all hb R) (fun _ h _ => h))
        have T2j := Lib.hid (S2.out.keep (Kept.all hb R') (fun _ h _ => h))
        have X0 := Lib.hid ((hb.cell (block_lt_of_cell xw)).trans xw)
        have Y0 := Lib.hid ((hb.cell (block_lt_of_cell yw)).trans yw)
        clear hb
        by_cases hlt2 : j < n1
        · obtain ⟨b1, o1, u, A3, n3, c3, rfl, _, _, hu, u0, hM⟩ := T1j.out.at_ hlt2
          obtain ⟨b2, o2, v, A4, n4, c4, rfl, _, _, hv, v0, hM'⟩ := T2j.out.at_ hlt2
          obtain rfl := Option.some.inj (hu.symm.trans hv)
          have M1 := Lib.hid hM
          have M2 := Lib.hid hM'
          have KK := Lib.hid (below_regrown wr)
          have Q1 : Hid (∀ d os, Calls Tryd.prog 31 #[.slice A3 n3 c3, .slice A4 n4 c4] (grow (redrawn wr d) os) fun e w'' => e = .returned (.bool true) ∧ ∃ p : Regrown, w'' = grow (redrawn wr p.d) p.os) := fun d os => same_mat_q M1.out M2.out d os
          have x1 := fun d os => cell_regrown X0.out d os
          have y1 := fun d os => cell_regrown Y0.out d os
          have u1 := fun d os => cell_regrown u0 d os
          have v1 := fun d os => cell_regrown v0 d os
          clear hu hv hM hM' x0 y0 u0 v0 xw yw
          go_wp2_with fail
          refine wp_region_quiet_below (by kernel_rfl) (by kernel_rfl) ?_
          repeat (go_big_quiet_step ((go_at_call 31; exact Q1.out _ _)))
          refine wpQuiet_nil ?_
          intro _ hw'
          obtain ⟨⟨dq, osq⟩, hw''⟩ := hw'
          subst hw''
          have BQ2 := Lib.hid (below_regrown wr dq osq)
          clear x1 y1 u1 v1 Q1 KK
          generalize grow (redrawn wr dq) osq = w5 at *
          go_wp2_with fail
          go_roundw
          case rel => exact ⟨j + 1, by omega, by go_num, HBJ.out.trans (BQ2.out.mono HBJ.out.size)⟩
          case measure => simp [intOf]; omega
        · obtain rfl : j = n1 := by omega
          clear x0 y0 xw yw
          go_wp2_with fail
          go_roundw
          case rel => exact ⟨k + 1, by omega, by go_num, HB3.out⟩
          case measure => simp [intOf]; omega
    · obtain rfl : k = n := by omega
      go_wp2
      go_ret
      exact ⟨rfl, HB.out⟩
/-- Two policies in memory that are the same. -/
def PSame (d : Nat) : Prop := ∀ {w : World} {R R' : Nat → Prop} {m : Nat} {p : Pol} {A1 A2 A3 A4 B1 B2 B3 B4 : Option Addr} {n1 n2 n3 n4 ak1 ak2 ak3 ak4 bk1 bk2 bk3 bk4 : Nat},
  p.id.size ≤ maxLen → (Tg w R A1 n1 ak1 p.tg ∧ Rus w R A2 n2 ak2 p.rules ∧ Pls w R d A3 n3 ak3 p.kids ∧ Dus w R A4 n4 ak4 p.ob) → (Tg w R' B1 n1 bk1 p.tg ∧ Rus w R' B2 n2 bk2 p.rules ∧ Pls w R' m B3 n3 bk3 p.kids ∧ Dus w R' B4 n4 bk4 p.ob) →
  Calls Tryd.prog 10 #[.agg #[.string p.id, .bool p.set, .int .i64 p.alg, .slice A1 n1 ak1, .slice A2 n2 ak2, .slice A3 n3 ak3, .slice A4 n4 ak4], .agg #[.string p.id, .bool p.set, .int .i64 p.alg, .slice B1 n1 bk1, .slice B2 n2 bk2, .slice B3 n3 bk3, .slice B4 n4 bk4]] w fun e w' => e = .returned (.bool true) ∧ Below w.heap.size w w'
theorem same_q {d m : Nat} (ih : PSame d) {p : Pol} {A1 A2 A3 A4 B1 B2 B3 B4 : Option Addr} {n1 n2 n3 n4 ak1 ak2 ak3 ak4 bk1 bk2 bk3 bk4 : Nat}
    (hid : p.id.size ≤ maxLen) (hA : Tg w R A1 n1 ak1 p.tg ∧ Rus w R A2 n2 ak2 p.rules ∧ Pls w R d A3 n3 ak3 p.kids ∧ Dus w R A4 n4 ak4 p.ob) (hB : Tg w R' B1 n1 bk1 p.tg ∧ Rus w R' B2 n2 bk2 p.rules ∧ Pls w R' m B3 n3 bk3 p.kids ∧ Dus w R' B4 n4 bk4 p.ob) (dd : Nat) (os : Array Obj) :
    Calls Tryd.prog 10 #[.agg #[.string p.id, .bool p.set, .int .i64 p.alg, .slice A1 n1 ak1, .slice A2 n2 ak2, .slice A3 n3 ak3, .slice A4 n4 ak4], .agg #[.string p.id, .bool p.set, .int .i64 p.alg, .slice B1 n1 bk1, .slice B2 n2 bk2, .slice B3 n3 bk3, .slice B4 n4 bk4]] (grow (redrawn w dd) os) fun e w'' => e = .returned (.bool true) ∧ ∃ p : Regrown, w'' = grow (redrawn w p.d) p.os := by
  have k1 := Kept.all (below_regrown w dd os) R
  have k2 := Kept.all (below_regrown w dd os) R'
  exact Calls.regrown_of (ih (R := R) (R' := R') hid ⟨hA.1.keep k1 (fun _ h _ => h), hA.2.1.keep k1 (fun _ h _ => h), hA.2.2.1.keep k1 (fun _ h _ => h), hA.2.2.2.keep k1 (fun _ h _ => h)⟩ ⟨hB.1.keep k2 (fun _ h _ => h), hB.2.1.keep k2 (fun _ h _ => h), hB.2.2.1.keep k2 (fun _ h _ => h), hB.2.2.2.keep k2 (fun _ h _ => h)⟩)
set_option maxRecDepth 100000 in
set_option maxHeartbeats 3200000 in
theorem same_step (d : Nat) (ih : ∀ d', d = d' + 1 → PSame d') : PSame d := by
  intro w R R' m p A1 A2 A3 A4 B1 B2 B3 B4 n1 n2 n3 n4 ak1 ak2 ak3 ak4 bk1 bk2 bk3 bk4 hid hA hB
  have HA := Lib.hid hA
  have HB := Lib.hid hB
  have BA : Hid (Below w.heap.size w ((w.alloc (.cells #[.string p.id, .bool p.set, .int .i64 p.alg, .slice A1 n1 ak1, .slice A2 n2 ak2, .slice A3 n3 ak3, .slice A4 n4 ak4] 28)).alloc (.cells #[.string p.id, .bool p.set, .int .i64 p.alg, .slice B1 n1 bk1, .slice B2 n2 bk2, .slice B3 n3 bk3, .slice B4 n4 bk4] 28))) := (((Below.refl _ _).alloc (Nat.le_refl _) _).alloc (by rw [size_al]; omega) _)
  have PA : Hid (Ob ((w.alloc (.cells #[.string p.id, .bool p.set, .int .i64 p.alg, .slice A1 n1 ak1, .slice A2 n2 ak2, .slice A3 n3 ak3, .slice A4 n4 ak4] 28)).alloc (.cells #[.string p.id, .bool p.set, .int .i64 p.alg, .slice B1 n1 bk1, .slice B2 n2 bk2, .slice B3 n3 bk3, .slice B4 n4 bk4] 28)) w.heap.size 28 #[.string p.id, .bool p.set, .int .i64 p.alg, .slice A1 n1 ak1, .slice A2 n2 ak2, .slice A3 n3 ak3, .slice A4 n4 ak4]) := (Ob.made _ _ _).keep (Below.heap_alloc _ _ _ (by rw [size_al]; omega))
  have PB : Hid (Ob ((w.alloc (.cells #[.string p.id, .bool p.set, .int .i64 p.alg, .slice A1 n1 ak1, .slice A2 n2 ak2, .slice A3 n3 ak3, .slice A4 n4 ak4] 28)).alloc (.cells #[.string p.id, .bool p.set, .int .i64 p.alg, .slice B1 n1 bk1, .slice B2 n2 bk2, .slice B3 n3 bk3, .slice B4 n4 bk4] 28)) (w.heap.size + 1) 28 #[.string p.id, .bool p.set, .int .i64 p.alg, .slice B1 n1 bk1, .slice B2 n2 bk2, .slice B3 n3 bk3, .slice B4 n4 bk4]) := Lib.hid (by have := Ob.made (w.alloc (.cells #[.string p.id, .bool p.set, .int .i64 p.alg, .slice A1 n1 ak1, .slice A2 n2 ak2, .slice A3 n3 ak3, .slice A4 n4 ak4] 28)) 28 #[.string p.id, .bool p.set, .int .i64 p.alg, .slice B1 n1 bk1, .slice B2 n2 bk2, .slice B3 n3 bk3, .slice B4 n4 bk4]; simpa using this)
  have HID := Lib.hid hid
  clear hid hA hB
  have T1 := Lib.hid (HA.out.1.keep (Kept.all BA.out R) (fun _ h _ => h))
  have T2 := Lib.hid (HB.out.1.keep (Kept.all BA.out R') (fun _ h _ => h))
  have hlt1 : n1 ≤ 1000000000000000 := by have := T1.out.big; omega
  go_enter Tryd.func10, Tryd.ntmps10
  have pa0 := PA.out.cell 0
  have pb0 := PB.out.cell 0
  have pa1 := PA.out.cell 1
  have pb1 := PB.out.cell 1
  have pa2 := PA.out.cell 2
  have pb2 := PB.out.cell 2
  have pa3 := PA.out.cell 3
  have pb3 := PB.out.cell 3
  have pa4 := PA.out.cell 4
  have pb4 := PB.out.cell 4
  have pa5 := PA.out.cell 5
  have pb5 := PB.out.cell 5
  have pa6 := PA.out.cell 6
  have pb6 := PB.out.cell 6
  go_wp2_with fail
  go_at_call 16
  refine (same_tgt T1.out T2.out).mono ?_
  rintro e w1 ⟨rfl, hb⟩
  have BA1 := Lib.hid (below_step BA.out hb)
  have PA1 := Lib.hid (PA.out.below hb PA.out.lt)
  have PB1 := Lib.hid (PB.out.below hb PB.out.lt)
  clear hb
  have T3 := Lib.hid (HA.out.2.2.2.keep (Kept.all BA1.out R) (fun _ h _ => h))
  have T4 := Lib.hid (HB.out.2.2.2.keep (Kept.all BA1.out R') (fun _ h _ => h))
  have pa10 := PA1.out.cell 0
  have pb10 := PB1.out.cell 0
  have pa11 := PA1.out.cell 1
  have pb11 := PB1.out.cell 1
  have pa12 := PA1.out.cell 2
  have pb12 := PB1.out.cell 2
  have pa13 := PA1.out.cell 3
  have pb13 := PB1.out.cell 3
  have pa14 := PA1.out.cell 4
  have pb14 := PB1.out.cell 4
  have pa15 := PA1.out.cell 5
  have pb15 := PB1.out.cell 5
  have pa16 := PA1.out.cell 6
  have pb16 := PB1.out.cell 6
  go_wp2_with fail
  go_at_call 17
  refine (same_dut T3.out T4.out).mono ?_
  rintro e w2 ⟨rfl, hb⟩
  have BA2 := Lib.hid (below_step BA1.out hb)
  have PA2 := Lib.hid (PA1.out.below hb PA1.out.lt)
  have PB2 := Lib.hid (PB1.out.below hb PB1.out.lt)
  clear hb BA1 PA1 PB1 BA PA PB T1 T2 T3 T4
  have hcap2 := Rw.cap HA.out.2.1
  have hcap3 := Rw.cap HA.out.2.2.1
  have hle2 := Rw.le HA.out.2.1
  have hle2' := Rw.le HB.out.2.1
  have hle3 := Rw.le HA.out.2.2.1
  have hle3' := Rw.le HB.out.2.2.1
  unfold maxLen at hcap2 hcap3
  have pa20 := PA2.out.cell 0
  have pb20 := PB2.out.cell 0
  have pa21 := PA2.out.cell 1
  have pb21 := PB2.out.cell 1
  have pa22 := PA2.out.cell 2
  have pb22 := PB2.out.cell 2
  have pa23 := PA2.out.cell 3
  have pb23 := PB2.out.cell 3
  have pa24 := PA2.out.cell 4
  have pb24 := PB2.out.cell 4
  have pa25 := PA2.out.cell 5
  have pb25 := PB2.out.cell 5
  have pa26 := PA2.out.cell 6
  have pb26 := PB2.out.cell 6
  go_wp2_with fail
  go_loopw [65] (fun i wr => ∃ k : Nat, k ≤ n2 ∧ i = .int .i64 k ∧ Below w2.heap.size w2 wr) (fun i _ => n2 - (intOf i).toNat)
  case atStart => exact ⟨0, Nat.zero_le _, rfl, Below.refl _ _⟩
  case round =>
    obtain ⟨k, hk, rfl, hb⟩ := hrel
    have HBR := Lib.hid hb
    have PA3 := Lib.hid (PA2.out.below hb PA2.out.lt)
    have PB3 := Lib.hid (PB2.out.below hb PB2.out.lt)
    have BA3 := Lib.hid (below_step BA2.out hb)
    clear hb
    by_cases hlt : k < n2
    · obtain ⟨b, o, r, C1, m1, c1, C2, m2, c2, C3, m3, c3, rfl, _, _, hr, hid, ⟨x0, x1, x2, x3, x4⟩, ht, hn, hd⟩ := (Rus.keep HA.out.2.1 (Kept.all BA3.out R) (fun _ h _ => h)).at_ hlt
      obtain ⟨b', o', r', D1, q1, d1, D2, q2, d2, D3, q3, d3, rfl, _, _, hr', _, ⟨y0, y1, y2, y3, y4⟩, ht', hn', hd'⟩ := (Rus.keep HB.out.2.1 (Kept.all BA3.out R') (fun _ h _ => h)).at_ hlt
      obtain rfl := Option.some.inj (hr.symm.trans hr')
      obtain rfl := Rw.same_len ht ht'
      obtain rfl := Rw.same_len hn hn'
      obtain rfl := Rw.same_len hd hd'
      have L1 := Lib.hid ht
      have L2 := Lib.hid hn
      have L3 := Lib.hid hd
      have L1' := Lib.hid ht'
      have L2' := Lib.hid hn'
      have L3' := Lib.hid hd'
      have z4 := PA3.out.cell 4
      have z4' := PB3.out.cell 4
      have KF : Hid (∀ V : World, Below wr.heap.size wr V → V.cell? ⟨w.heap.size, 4, none⟩ = some (.slice (some ⟨b, o, none⟩) n2 ak2) ∧ V.cell? ⟨w.heap.size + 1, 4, none⟩ = some (.slice (some ⟨b', o', none⟩) n2 bk2) ∧
          V.cell? ⟨b, o + k * 5, none⟩ = some (.string r.id) ∧ V.cell? ⟨b, o + k * 5 + 1, none⟩ = some (.bool r.deny) ∧ V.cell? ⟨b, o + k * 5 + 2, none⟩ = some (.slice C1 m1 c1) ∧ V.cell? ⟨b, o + k * 5 + 3, none⟩ = some (.slice C2 m2 c2) ∧ V.cell? ⟨b, o + k * 5 + 4, none⟩ = some (.slice C3 m3 c3) ∧
          V.cell? ⟨b', o' + k * 5, none⟩ = some (.string r.id) ∧ V.cell? ⟨b', o' + k * 5 + 1, none⟩ = some (.bool r.deny) ∧ V.cell? ⟨b', o' + k * 5 + 2, none⟩ = some (.slice D1 m1 d1) ∧ V.cell? ⟨b', o' + k * 5 + 3, none⟩ = some (.slice D2 m2 d2) ∧ V.cell? ⟨b', o' + k * 5 + 4, none⟩ = some (.slice D3 m3 d3)) := fun V hV => by
        have e : ∀ {a : Addr} {v : Value}, wr.cell? a = some v → V.cell? a = some v := fun h => (hV.cell (block_lt_of_cell h)).trans h
        exact ⟨e z4, e z4', e x0, e x1, e x2, e x3, e x4, e y0, e y1, e y2, e y3, e y4⟩
      clear hr hr' hid ht hn hd ht' hn' hd' z4 z4' x0 x1 x2 x3 x4 y0 y1 y2 y3 y4
      go_wp2_with fail
      go_cut [6, 7] from 68 to 77 (fun u v wx => ∃ g1 g2, u = .pointer (some ⟨g1, 0, none⟩) ∧ v = .pointer (some ⟨g2, 0, none⟩) ∧ Ob wx g1 37 #[.string r.id, .bool r.deny, .slice C1 m1 c1, .slice C2 m2 c2, .slice C3 m3 c3] ∧ Ob wx g2 37 #[.string r.id, .bool r.deny, .slice D1 m1 d1, .slice D2 m2 d2, .slice D3 m3 d3] ∧ Below wr.heap.size wr wx)
      case first =>
        refine wp_region_held_tail (fun w' => Below wr.heap.size wr w') 13 (by kernel_rfl) (by kernel_rfl) ?_
        intro G
        change HeadW _ _ _ _ _ _ _ _ _ _ (wr.drewN 1)
        have S0 := Lib.hid (below_drewN (Below.refl wr.heap.size wr) 1)
        have LB0 : wr.heap.size ≤ (wr.drewN 1).heap.size := Nat.le_refl _
        generalize wr.drewN 1 = v0 at *
        refine HeadW_take (i := 0) (v := ?_) G rfl (by kernel_rfl) (by kernel_rfl) (by kernel_rfl) (fun _ _ _ h => h) (Or.inl ⟨by rfl, ?_⟩) S0.out ?_
        rotate_left
        · intro wz hS
          obtain ⟨z4, z4', x0, x1, x2, x3, x4, y0, y1, y2, y3, y4⟩ := KF.out _ hS
          go_simp
          try with_reducible rfl
        refine HeadW_take (i := 1) (v := ?_) G rfl (by kernel_rfl) (by kernel_rfl) (by kernel_rfl) (fun _ _ _ h => h) (Or.inl ⟨by rfl, ?_⟩) S0.out ?_
        rotate_left
        · intro wz hS
          obtain ⟨z4, z4', x0, x1, x2, x3, x4, y0, y1, y2, y3, y4⟩ := KF.out _ hS
          go_simp
          try with_reducible rfl
        refine HeadW_take (i := 2) (v := ?_) G rfl (by kernel_rfl) (by kernel_rfl) (by kernel_rfl) (fun _ _ _ h => h) (Or.inl ⟨by rfl, ?_⟩) S0.out ?_
        rotate_left
        · intro wz hS
          obtain ⟨z4, z4', x0, x1, x2, x3, x4, y0, y1, y2, y3, y4⟩ := KF.out _ hS
          go_simp
          try with_reducible rfl
        refine HeadW_take (i := 3) (v := ?_) G rfl (by kernel_rfl) (by kernel_rfl) (by kernel_rfl) (fun _ _ _ h => h) (Or.inl ⟨by rfl, ?_⟩) S0.out ?_
        rotate_left
        · intro wz hS
          obtain ⟨z4, z4', x0, x1, x2, x3, x4, y0, y1, y2, y3, y4⟩ := KF.out _ hS
          go_simp
          try with_reducible rfl
        refine HeadW_take (i := 4) (v := ?_) G rfl (by kernel_rfl) (by kernel_rfl) (by kernel_rfl) (fun _ _ _ h => h) (Or.inl ⟨by rfl, ?_⟩) S0.out ?_
        rotate_left
        · intro wz hS
          obtain ⟨z4, z4', x0, x1, x2, x3, x4, y0, y1, y2, y3, y4⟩ := KF.out _ hS
          go_simp
          try with_reducible rfl
        refine HeadW_take (i := 5) (v := ?_) G rfl (by kernel_rfl) (by kernel_rfl) (by kernel_rfl) (fun _ _ _ h => h) (Or.inl ⟨by rfl, ?_⟩) S0.out ?_
        rotate_left
        · intro wz hS
          obtain ⟨z4, z4', x0, x1, x2, x3, x4, y0, y1, y2, y3, y4⟩ := KF.out _ hS
          go_simp
          try with_reducible rfl
        refine HeadW_take (i := 6) (v := ?_) G rfl (by kernel_rfl) (by kernel_rfl) (by kernel_rfl) (fun _ _ _ h => h) (Or.inl ⟨by rfl, ?_⟩) S0.out ?_
        rotate_left
        · intro wz hS
          obtain ⟨z4, z4', x0, x1, x2, x3, x4, y0, y1, y2, y3, y4⟩ := KF.out _ hS
          go_simp
          try with_reducible rfl
        refine HeadW_take (i := 7) (v := ?_) G rfl (by kernel_rfl) (by kernel_rfl) (by kernel_rfl) (fun _ _ _ h => h) (Or.inl ⟨by rfl, ?_⟩) S0.out ?_
        rotate_left
        · intro wz hS
          obtain ⟨z4, z4', x0, x1, x2, x3, x4, y0, y1, y2, y3, y4⟩ := KF.out _ hS
          go_simp
          try with_reducible rfl
        refine HeadW_take (i := 8) (v := ?_) G rfl (by kernel_rfl) (by kernel_rfl) (by kernel_rfl) (fun _ _ _ h => h) (Or.inl ⟨by rfl, ?_⟩) S0.out ?_
        rotate_left
        · intro wz hS
          obtain ⟨z4, z4', x0, x1, x2, x3, x4, y0, y1, y2, y3, y4⟩ := KF.out _ hS
          go_simp
          try with_reducible rfl
        refine HeadW_take (i := 9) (v := ?_) G rfl (by kernel_rfl) (by kernel_rfl) (by kernel_rfl) (fun _ _ _ h => h) (Or.inl ⟨by rfl, ?_⟩) S0.out ?_
        rotate_left
        · intro wz hS
          obtain ⟨z4, z4', x0, x1, x2, x3, x4, y0, y1, y2, y3, y4⟩ := KF.out _ hS
          go_simp
          try with_reducible rfl
        refine HeadW_ready (rs := [10, 11]) (by kernel_rfl) rfl rfl ?_
        refine AllW.cons rfl (fun K hK => ?_) (AllW.cons rfl (fun K hK => ?_) AllW.nil)
        · go_simp
          have hb : Below v0.heap.size v0 (v0.alloc (.cells #[.string ⟨#[]⟩, .bool false, .slice none 0 0, .slice none 0 0, .slice none 0 0] 37)) := (Below.refl _ _).alloc (Nat.le_refl _) _
          have S1 := Lib.hid (S0.out.trans (hb.mono LB0))
          have Ea := Lib.hid (Ob.made v0 37 #[.string ⟨#[]⟩, .bool false, .slice none 0 0, .slice none 0 0, .slice none 0 0])
          have Xa : v0.heap.size < (v0.alloc (.cells #[.string ⟨#[]⟩, .bool false, .slice none 0 0, .slice none 0 0, .slice none 0 0] 37)).heap.size := by rw [size_al]; omega
          refine hK _ _ S1.out ?_
          clear hK K hb
          generalize v0.alloc (.cells #[.string ⟨#[]⟩, .bool false, .slice none 0 0, .slice none 0 0, .slice none 0 0] 37) = v1 at *
          have LB1 : wr.heap.size ≤ v1.heap.size := by omega
          refine HeadW_ready (rs := [11]) (by kernel_rfl) rfl rfl ?_
          refine AllW.cons rfl (fun K hK => ?_) AllW.nil
          go_simp
          have hb : Below v1.heap.size v1 (v1.alloc (.cells #[.string ⟨#[]⟩, .bool false, .slice none 0 0, .slice none 0 0, .slice none 0 0] 37)) := (Below.refl _ _).alloc (Nat.le_refl _) _
          have S2 := Lib.hid (S1.out.trans (hb.mono LB1))
          have E1 := Lib.hid (Ea.out.below hb Ea.out.lt)
          have E2 := Lib.hid (Ob.made v1 37 #[.string ⟨#[]⟩, .bool false, .slice none 0 0, .slice none 0 0, .slice none 0 0])
          refine hK _ _ S2.out ?_
          clear hK K hb
          generalize v1.alloc (.cells #[.string ⟨#[]⟩, .bool false, .slice none 0 0, .slice none 0 0, .slice none 0 0] 37) = v2 at *
          have sc1 := E1.out.cell 0
          have sf1 := E1.out.frozen 0
          have me1 : Hid (Ob (v2.setCell ⟨v0.heap.size, 0, none⟩ (.string r.id)) (v0.heap.size) 37 #[.string r.id, .bool false, .slice none 0 0, .slice none 0 0, .slice none 0 0]) := Lib.hid (by have := E1.out.put 0 (.string r.id); simpa using this)
          have ot1 := Lib.hid (E2.out.keep (Below.heap_setCell v2 ⟨v0.heap.size, 0, none⟩ (.string r.id) _ (by show v1.heap.size ≠ v0.heap.size; omega)))
          have bb1 := Lib.hid (S2.out.setCell (p := ⟨v0.heap.size, 0, none⟩) (by show wr.heap.size ≤ v0.heap.size; omega) (.string r.id))
          have sc2 := me1.out.cell 1
          have sf2 := me1.out.frozen 1
          have me2 : Hid (Ob ((v2.setCell ⟨v0.heap.size, 0, none⟩ (.string r.id)).setCell ⟨v0.heap.size, 1, none⟩ (.bool r.deny)) (v0.heap.size) 37 #[.string r.id, .bool r.deny, .slice none 0 0, .slice none 0 0, .slice none 0 0]) := Lib.hid (by have := me1.out.put 1 (.bool r.deny); simpa using this)
          have ot2 := Lib.hid (ot1.out.keep (Below.heap_setCell (v2.setCell ⟨v0.heap.size, 0, none⟩ (.string r.id)) ⟨v0.heap.size, 1, none⟩ (.bool r.deny) _ (by show v1.heap.size ≠ v0.heap.size; omega)))
          have bb2 := Lib.hid (bb1.out.setCell (p := ⟨v0.heap.size, 1, none⟩) (by show wr.heap.size ≤ v0.heap.size; omega) (.bool r.deny))
          have sc3 := me2.out.cell 2
          have sf3 := me2.out.frozen 2
          have me3 : Hid (Ob (((v2.setCell ⟨v0.heap.size, 0, none⟩ (.string r.id)).setCell ⟨v0.heap.size, 1, none⟩ (.bool r.deny)).setCell ⟨v0.heap.size, 2, none⟩ (.slice C1 m1 c1)) (v0.heap.size) 37 #[.string r.id, .bool r.deny, .slice C1 m1 c1, .slice none 0 0, .slice none 0 0]) := Lib.hid (by have := me2.out.put 2 (.slice C1 m1 c1); simpa using this)
          have ot3 := Lib.hid (ot2.out.keep (Below.heap_setCell ((v2.setCell ⟨v0.heap.size, 0, none⟩ (.string r.id)).setCell ⟨v0.heap.size, 1, none⟩ (.bool r.deny)) ⟨v0.heap.size, 2, none⟩ (.slice C1 m1 c1) _ (by show v1.heap.size ≠ v0.heap.size; omega)))
          have bb3 := Lib.hid (bb2.out.setCell (p := ⟨v0.heap.size, 2, none⟩) (by show wr.heap.size ≤ v0.heap.size; omega) (.slice C1 m1 c1))
          have sc4 := me3.out.cell 3
          have sf4 := me3.out.frozen 3
          have me4 : Hid (Ob ((((v2.setCell ⟨v0.heap.size, 0, none⟩ (.string r.id)).setCell ⟨v0.heap.size, 1, none⟩ (.bool r.deny)).setCell ⟨v0.heap.size, 2, none⟩ (.slice C1 m1 c1)).setCell ⟨v0.heap.size, 3, none⟩ (.slice C2 m2 c2)) (v0.heap.size) 37 #[.string r.id, .bool r.deny, .slice C1 m1 c1, .slice C2 m2 c2, .slice none 0 0]) := Lib.hid (by have := me3.out.put 3 (.slice C2 m2 c2); simpa using this)
          have ot4 := Lib.hid (ot3.out.keep (Below.heap_setCell (((v2.setCell ⟨v0.heap.size, 0, none⟩ (.string r.id)).setCell ⟨v0.heap.size, 1, none⟩ (.bool r.deny)).setCell ⟨v0.heap.size, 2, none⟩ (.slice C1 m1 c1)) ⟨v0.heap.size, 3, none⟩ (.slice C2 m2 c2) _ (by show v1.heap.size ≠ v0.heap.size; omega)))
          have bb4 := Lib.hid (bb3.out.setCell (p := ⟨v0.heap.size, 3, none⟩) (by show wr.heap.size ≤ v0.heap.size; omega) (.slice C2 m2 c2))
          have sc5 := me4.out.cell 4
          have sf5 := me4.out.frozen 4
          have me5 : Hid (Ob (((((v2.setCell ⟨v0.heap.size, 0, none⟩ (.string r.id)).setCell ⟨v0.heap.size, 1, none⟩ (.bool r.deny)).setCell ⟨v0.heap.size, 2, none⟩ (.slice C1 m1 c1)).setCell ⟨v0.heap.size, 3, none⟩ (.slice C2 m2 c2)).setCell ⟨v0.heap.size, 4, none⟩ (.slice C3 m3 c3)) (v0.heap.size) 37 #[.string r.id, .bool r.deny, .slice C1 m1 c1, .slice C2 m2 c2, .slice C3 m3 c3]) := Lib.hid (by have := me4.out.put 4 (.slice C3 m3 c3); simpa using this)
          have ot5 := Lib.hid (ot4.out.keep (Below.heap_setCell ((((v2.setCell ⟨v0.heap.size, 0, none⟩ (.string r.id)).setCell ⟨v0.heap.size, 1, none⟩ (.bool r.deny)).setCell ⟨v0.heap.size, 2, none⟩ (.slice C1 m1 c1)).setCell ⟨v0.heap.size, 3, none⟩ (.slice C2 m2 c2)) ⟨v0.heap.size, 4, none⟩ (.slice C3 m3 c3) _ (by show v1.heap.size ≠ v0.heap.size; omega)))
          have bb5 := Lib.hid (bb4.out.setCell (p := ⟨v0.heap.size, 4, none⟩) (by show wr.heap.size ≤ v0.heap.size; omega) (.slice C3 m3 c3))
          refine HeadW_ready (rs := [12]) (by kernel_rfl) rfl rfl ?_
          refine AllW.cons rfl (fun K hK => ?_) AllW.nil
          go_simp
          refine hK _ _ bb5.out ?_
          clear hK K
          intro _
          refine ⟨by kernel_rfl, ?_⟩
          simp only [List.drop_succ_cons, List.drop_zero]
          have sc6 := ot5.out.cell 0
          have sf6 := ot5.out.frozen 0
          have me6 : Hid (Ob ((((((v2.setCell ⟨v0.heap.size, 0, none⟩ (.string r.id)).setCell ⟨v0.heap.size, 1, none⟩ (.bool r.deny)).setCell ⟨v0.heap.size, 2, none⟩ (.slice C1 m1 c1)).setCell ⟨v0.heap.size, 3, none⟩ (.slice C2 m2 c2)).setCell ⟨v0.heap.size, 4, none⟩ (.slice C3 m3 c3)).setCell ⟨v1.heap.size, 0, none⟩ (.string r.id)) (v1.heap.size) 37 #[.string r.id, .bool false, .slice none 0 0, .slice none 0 0, .slice none 0 0]) := Lib.hid (by have := ot5.out.put 0 (.string r.id); simpa using this)
          have ot6 := Lib.hid (me5.out.keep (Below.heap_setCell (((((v2.setCell ⟨v0.heap.size, 0, none⟩ (.string r.id)).setCell ⟨v0.heap.size, 1, none⟩ (.bool r.deny)).setCell ⟨v0.heap.size, 2, none⟩ (.slice C1 m1 c1)).setCell ⟨v0.heap.size, 3, none⟩ (.slice C2 m2 c2)).setCell ⟨v0.heap.size, 4, none⟩ (.slice C3 m3 c3)) ⟨v1.heap.size, 0, none⟩ (.string r.id) _ (by show v0.heap.size ≠ v1.heap.size; omega)))
          have bb6 := Lib.hid (bb5.out.setCell (p := ⟨v1.heap.size, 0, none⟩) (by show wr.heap.size ≤ v1.heap.size; omega) (.string r.id))
          have sc7 := me6.out.cell 1
          have sf7 := me6.out.frozen 1
          have me7 : Hid (Ob (((((((v2.setCell ⟨v0.heap.size, 0, none⟩ (.string r.id)).setCell ⟨v0.heap.size, 1, none⟩ (.bool r.deny)).setCell ⟨v0.heap.size, 2, none⟩ (.slice C1 m1 c1)).setCell ⟨v0.heap.size, 3, none⟩ (.slice C2 m2 c2)).setCell ⟨v0.heap.size, 4, none⟩ (.slice C3 m3 c3)).setCell ⟨v1.heap.size, 0, none⟩ (.string r.id)).setCell ⟨v1.heap.size, 1, none⟩ (.bool r.deny)) (v1.heap.size) 37 #[.string r.id, .bool r.deny, .slice none 0 0, .slice none 0 0, .slice none 0 0]) := Lib.hid (by have := me6.out.put 1 (.bool r.deny); simpa using this)
          have ot7 := Lib.hid (ot6.out.keep (Below.heap_setCell ((((((v2.setCell ⟨v0.heap.size, 0, none⟩ (.string r.id)).setCell ⟨v0.heap.size, 1, none⟩ (.bool r.deny)).setCell ⟨v0.heap.size, 2, none⟩ (.slice C1 m1 c1)).setCell ⟨v0.heap.size, 3, none⟩ (.slice C2 m2 c2)).setCell ⟨v0.heap.size, 4, none⟩ (.slice C3 m3 c3)).setCell ⟨v1.heap.size, 0, none⟩ (.string r.id)) ⟨v1.heap.size, 1, none⟩ (.bool r.deny) _ (by show v0.heap.size ≠ v1.heap.size; omega)))
          have bb7 := Lib.hid (bb6.out.setCell (p := ⟨v1.heap.size, 1, none⟩) (by show wr.heap.size ≤ v1.heap.size; omega) (.bool r.deny))
          have sc8 := me7.out.cell 2
          have sf8 := me7.out.frozen 2
          have me8 : Hid (Ob ((((((((v2.setCell ⟨v0.heap.size, 0, none⟩ (.string r.id)).setCell ⟨v0.heap.size, 1, none⟩ (.bool r.deny)).setCell ⟨v0.heap.size, 2, none⟩ (.slice C1 m1 c1)).setCell ⟨v0.heap.size, 3, none⟩ (.slice C2 m2 c2)).setCell ⟨v0.heap.size, 4, none⟩ (.slice C3 m3 c3)).setCell ⟨v1.heap.size, 0, none⟩ (.string r.id)).setCell ⟨v1.heap.size, 1, none⟩ (.bool r.deny)).setCell ⟨v1.heap.size, 2, none⟩ (.slice D1 m1 d1)) (v1.heap.size) 37 #[.string r.id, .bool r.deny, .slice D1 m1 d1, .slice none 0 0, .slice none 0 0]) := Lib.hid (by have := me7.out.put 2 (.slice D1 m1 d1); simpa using this)
          have ot8 := Lib.hid (ot7.out.keep (Below.heap_setCell (((((((v2.setCell ⟨v0.heap.size, 0, none⟩ (.string r.id)).setCell ⟨v0.heap.size, 1, none⟩ (.bool r.deny)).setCell ⟨v0.heap.size, 2, none⟩ (.slice C1 m1 c1)).setCell ⟨v0.heap.size, 3, none⟩ (.slice C2 m2 c2)).setCell ⟨v0.heap.size, 4, none⟩ (.slice C3 m3 c3)).setCell ⟨v1.heap.size, 0, none⟩ (.string r.id)).setCell ⟨v1.heap.size, 1, none⟩ (.bool r.deny)) ⟨v1.heap.size, 2, none⟩ (.slice D1 m1 d1) _ (by show v0.heap.size ≠ v1.heap.size; omega)))
          have bb8 := Lib.hid (bb7.out.setCell (p := ⟨v1.heap.size, 2, none⟩) (by show wr.heap.size ≤ v1.heap.size; omega) (.slice D1 m1 d1))
          have sc9 := me8.out.cell 3
          have sf9 := me8.out.frozen 3
          have me9 : Hid (Ob (((((((((v2.setCell ⟨v0.heap.size, 0, none⟩ (.string r.id)).setCell ⟨v0.heap.size, 1, none⟩ (.bool r.deny)).setCell ⟨v0.heap.size, 2, none⟩ (.slice C1 m1 c1)).setCell ⟨v0.heap.size, 3, none⟩ (.slice C2 m2 c2)).setCell ⟨v0.heap.size, 4, none⟩ (.slice C3 m3 c3)).setCell ⟨v1.heap.size, 0, none⟩ (.string r.id)).setCell ⟨v1.heap.size, 1, none⟩ (.bool r.deny)).setCell ⟨v1.heap.size, 2, none⟩ (.slice D1 m1 d1)).setCell ⟨v1.heap.size, 3, none⟩ (.slice D2 m2 d2)) (v1.heap.size) 37 #[.string r.id, .bool r.deny, .slice D1 m1 d1, .slice D2 m2 d2, .slice none 0 0]) := Lib.hid (by have := me8.out.put 3 (.slice D2 m2 d2); simpa using this)
          have ot9 := Lib.hid (ot8.out.keep (Below.heap_setCell ((((((((v2.setCell ⟨v0.heap.size, 0, none⟩ (.string r.id)).setCell ⟨v0.heap.size, 1, none⟩ (.bool r.deny)).setCell ⟨v0.heap.size, 2, none⟩ (.slice C1 m1 c1)).setCell ⟨v0.heap.size, 3, none⟩ (.slice C2 m2 c2)).setCell ⟨v0.heap.size, 4, none⟩ (.slice C3 m3 c3)).setCell ⟨v1.heap.size, 0, none⟩ (.string r.id)).setCell ⟨v1.heap.size, 1, none⟩ (.bool r.deny)).setCell ⟨v1.heap.size, 2, none⟩ (.slice D1 m1 d1)) ⟨v1.heap.size, 3, none⟩ (.slice D2 m2 d2) _ (by show v0.heap.size ≠ v1.heap.size; omega)))
          have bb9 := Lib.hid (bb8.out.setCell (p := ⟨v1.heap.size, 3, none⟩) (by show wr.heap.size ≤ v1.heap.size; omega) (.slice D2 m2 d2))
          have sc10 := me9.out.cell 4
          have sf10 := me9.out.frozen 4
          have me10 : Hid (Ob ((((((((((v2.setCell ⟨v0.heap.size, 0, none⟩ (.string r.id)).setCell ⟨v0.heap.size, 1, none⟩ (.bool r.deny)).setCell ⟨v0.heap.size, 2, none⟩ (.slice C1 m1 c1)).setCell ⟨v0.heap.size, 3, none⟩ (.slice C2 m2 c2)).setCell ⟨v0.heap.size, 4, none⟩ (.slice C3 m3 c3)).setCell ⟨v1.heap.size, 0, none⟩ (.string r.id)).setCell ⟨v1.heap.size, 1, none⟩ (.bool r.deny)).setCell ⟨v1.heap.size, 2, none⟩ (.slice D1 m1 d1)).setCell ⟨v1.heap.size, 3, none⟩ (.slice D2 m2 d2)).setCell ⟨v1.heap.size, 4, none⟩ (.slice D3 m3 d3)) (v1.heap.size) 37 #[.string r.id, .bool r.deny, .slice D1 m1 d1, .slice D2 m2 d2, .slice D3 m3 d3]) := Lib.hid (by have := me9.out.put 4 (.slice D3 m3 d3); simpa using this)
          have ot10 := Lib.hid (ot9.out.keep (Below.heap_setCell (((((((((v2.setCell ⟨v0.heap.size, 0, none⟩ (.string r.id)).setCell ⟨v0.heap.size, 1, none⟩ (.bool r.deny)).setCell ⟨v0.heap.size, 2, none⟩ (.slice C1 m1 c1)).setCell ⟨v0.heap.size, 3, none⟩ (.slice C2 m2 c2)).setCell ⟨v0.heap.size, 4, none⟩ (.slice C3 m3 c3)).setCell ⟨v1.heap.size, 0, none⟩ (.string r.id)).setCell ⟨v1.heap.size, 1, none⟩ (.bool r.deny)).setCell ⟨v1.heap.size, 2, none⟩ (.slice D1 m1 d1)).setCell ⟨v1.heap.size, 3, none⟩ (.slice D2 m2 d2)) ⟨v1.heap.size, 4, none⟩ (.slice D3 m3 d3) _ (by show v0.heap.size ≠ v1.heap.size; omega)))
          have bb10 := Lib.hid (bb9.out.setCell (p := ⟨v1.heap.size, 4, none⟩) (by show wr.heap.size ≤ v1.heap.size; omega) (.slice D3 m3 d3))
          go_wp2_with fail
          go_meet
          case rel => exact ⟨_, _, rfl, rfl, ot10.out, me10.out, bb10.out⟩
        · go_simp
          have hb : Below v0.heap.size v0 (v0.alloc (.cells #[.string ⟨#[]⟩, .bool false, .slice none 0 0, .slice none 0 0, .slice none 0 0] 37)) := (Below.refl _ _).alloc (Nat.le_refl _) _
          have S1 := Lib.hid (S0.out.trans (hb.mono LB0))
          have Ea := Lib.hid (Ob.made v0 37 #[.string ⟨#[]⟩, .bool false, .slice none 0 0, .slice none 0 0, .slice none 0 0])
          have Xa : v0.heap.size < (v0.alloc (.cells #[.string ⟨#[]⟩, .bool false, .slice none 0 0, .slice none 0 0, .slice none 0 0] 37)).heap.size := by rw [size_al]; omega
          refine hK _ _ S1.out ?_
          clear hK K hb
          generalize v0.alloc (.cells #[.string ⟨#[]⟩, .bool false, .slice none 0 0, .slice none 0 0, .slice none 0 0] 37) = v1 at *
          have LB1 : wr.heap.size ≤ v1.heap.size := by omega
          refine HeadW_ready (rs := [10]) (by kernel_rfl) rfl rfl ?_
          refine AllW.cons rfl (fun K hK => ?_) AllW.nil
          go_simp
          have hb : Below v1.heap.size v1 (v1.alloc (.cells #[.string ⟨#[]⟩, .bool false, .slice none 0 0, .slice none 0 0, .slice none 0 0] 37)) := (Below.refl _ _).alloc (Nat.le_refl _) _
          have S2 := Lib.hid (S1.out.trans (hb.mono LB1))
          have E2 := Lib.hid (Ea.out.below hb Ea.out.lt)
          have E1 := Lib.hid (Ob.made v1 37 #[.string ⟨#[]⟩, .bool false, .slice none 0 0, .slice none 0 0, .slice none 0 0])
          refine hK _ _ S2.out ?_
          clear hK K hb
          generalize v1.alloc (.cells #[.string ⟨#[]⟩, .bool false, .slice none 0 0, .slice none 0 0, .slice none 0 0] 37) = v2 at *
          have sc1 := E1.out.cell 0
          have sf1 := E1.out.frozen 0
          have me1 : Hid (Ob (v2.setCell ⟨v1.heap.size, 0, none⟩ (.string r.id)) (v1.heap.size) 37 #[.string r.id, .bool false, .slice none 0 0, .slice none 0 0, .slice none 0 0]) := Lib.hid (by have := E1.out.put 0 (.string r.id); simpa using this)
          have ot1 := Lib.hid (E2.out.keep (Below.heap_setCell v2 ⟨v1.heap.size, 0, none⟩ (.string r.id) _ (by show v0.heap.size ≠ v1.heap.size; omega)))
          have bb1 := Lib.hid (S2.out.setCell (p := ⟨v1.heap.size, 0, none⟩) (by show wr.heap.size ≤ v1.heap.size; omega) (.string r.id))
          have sc2 := me1.out.cell 1
          have sf2 := me1.out.frozen 1
          have me2 : Hid (Ob ((v2.setCell ⟨v1.heap.size, 0, none⟩ (.string r.id)).setCell ⟨v1.heap.size, 1, none⟩ (.bool r.deny)) (v1.heap.size) 37 #[.string r.id, .bool r.deny, .slice none 0 0, .slice none 0 0, .slice none 0 0]) := Lib.hid (by have := me1.out.put 1 (.bool r.deny); simpa using this)
          have ot2 := Lib.hid (ot1.out.keep (Below.heap_setCell (v2.setCell ⟨v1.heap.size, 0, none⟩ (.string r.id)) ⟨v1.heap.size, 1, none⟩ (.bool r.deny) _ (by show v0.heap.size ≠ v1.heap.size; omega)))
          have bb2 := Lib.hid (bb1.out.setCell (p := ⟨v1.heap.size, 1, none⟩) (by show wr.heap.size ≤ v1.heap.size; omega) (.bool r.deny))
          have sc3 := me2.out.cell 2
          have sf3 := me2.out.frozen 2
          have me3 : Hid (Ob (((v2.setCell ⟨v1.heap.size, 0, none⟩ (.string r.id)).setCell ⟨v1.heap.size, 1, none⟩ (.bool r.deny)).setCell ⟨v1.heap.size, 2, none⟩ (.slice C1 m1 c1)) (v1.heap.size) 37 #[.string r.id, .bool r.deny, .slice C1 m1 c1, .slice none 0 0, .slice none 0 0]) := Lib.hid (by have := me2.out.put 2 (.slice C1 m1 c1); simpa using this)
          have ot3 := Lib.hid (ot2.out.keep (Below.heap_setCell ((v2.setCell ⟨v1.heap.size, 0, none⟩ (.string r.id)).setCell ⟨v1.heap.size, 1, none⟩ (.bool r.deny)) ⟨v1.heap.size, 2, none⟩ (.slice C1 m1 c1) _ (by show v0.heap.size ≠ v1.heap.size; omega)))
          have bb3 := Lib.hid (bb2.out.setCell (p := ⟨v1.heap.size, 2, none⟩) (by show wr.heap.size ≤ v1.heap.size; omega) (.slice C1 m1 c1))
          have sc4 := me3.out.cell 3
          have sf4 := me3.out.frozen 3
          have me4 : Hid (Ob ((((v2.setCell ⟨v1.heap.size, 0, none⟩ (.string r.id)).setCell ⟨v1.heap.size, 1, none⟩ (.bool r.deny)).setCell ⟨v1.heap.size, 2, none⟩ (.slice C1 m1 c1)).setCell ⟨v1.heap.size, 3, none⟩ (.slice C2 m2 c2)) (v1.heap.size) 37 #[.string r.id, .bool r.deny, .slice C1 m1 c1, .slice C2 m2 c2, .slice none 0 0]) := Lib.hid (by have := me3.out.put 3 (.slice C2 m2 c2); simpa using this)
          have ot4 := Lib.hid (ot3.out.keep (Below.heap_setCell (((v2.setCell ⟨v1.heap.size, 0, none⟩ (.string r.id)).setCell ⟨v1.heap.size, 1, none⟩ (.bool r.deny)).setCell ⟨v1.heap.size, 2, none⟩ (.slice C1 m1 c1)) ⟨v1.heap.size, 3, none⟩ (.slice C2 m2 c2) _ (by show v0.heap.size ≠ v1.heap.size; omega)))
          have bb4 := Lib.hid (bb3.out.setCell (p := ⟨v1.heap.size, 3, none⟩) (by show wr.heap.size ≤ v1.heap.size; omega) (.slice C2 m2 c2))
          have sc5 := me4.out.cell 4
          have sf5 := me4.out.frozen 4
          have me5 : Hid (Ob (((((v2.setCell ⟨v1.heap.size, 0, none⟩ (.string r.id)).setCell ⟨v1.heap.size, 1, none⟩ (.bool r.deny)).setCell ⟨v1.heap.size, 2, none⟩ (.slice C1 m1 c1)).setCell ⟨v1.heap.size, 3, none⟩ (.slice C2 m2 c2)).setCell ⟨v1.heap.size, 4, none⟩ (.slice C3 m3 c3)) (v1.heap.size) 37 #[.string r.id, .bool r.deny, .slice C1 m1 c1, .slice C2 m2 c2, .slice C3 m3 c3]) := Lib.hid (by have := me4.out.put 4 (.slice C3 m3 c3); simpa using this)
          have ot5 := Lib.hid (ot4.out.keep (Below.heap_setCell ((((v2.setCell ⟨v1.heap.size, 0, none⟩ (.string r.id)).setCell ⟨v1.heap.size, 1, none⟩ (.bool r.deny)).setCell ⟨v1.heap.size, 2, none⟩ (.slice C1 m1 c1)).setCell ⟨v1.heap.size, 3, none⟩ (.slice C2 m2 c2)) ⟨v1.heap.size, 4, none⟩ (.slice C3 m3 c3) _ (by show v0.heap.size ≠ v1.heap.size; omega)))
          have bb5 := Lib.hid (bb4.out.setCell (p := ⟨v1.heap.size, 4, none⟩) (by show wr.heap.size ≤ v1.heap.size; omega) (.slice C3 m3 c3))
          refine HeadW_ready (rs := [12]) (by kernel_rfl) rfl rfl ?_
          refine AllW.cons rfl (fun K hK => ?_) AllW.nil
          go_simp
          refine hK _ _ bb5.out ?_
          clear hK K
          intro _
          refine ⟨by kernel_rfl, ?_⟩
          simp only [List.drop_succ_cons, List.drop_zero]
          have sc6 := ot5.out.cell 0
          have sf6 := ot5.out.frozen 0
          have me6 : Hid (Ob ((((((v2.setCell ⟨v1.heap.size, 0, none⟩ (.string r.id)).setCell ⟨v1.heap.size, 1, none⟩ (.bool r.deny)).setCell ⟨v1.heap.size, 2, none⟩ (.slice C1 m1 c1)).setCell ⟨v1.heap.size, 3, none⟩ (.slice C2 m2 c2)).setCell ⟨v1.heap.size, 4, none⟩ (.slice C3 m3 c3)).setCell ⟨v0.heap.size, 0, none⟩ (.string r.id)) (v0.heap.size) 37 #[.string r.id, .bool false, .slice none 0 0, .slice none 0 0, .slice none 0 0]) := Lib.hid (by have := ot5.out.put 0 (.string r.id); simpa using this)
          have ot6 := Lib.hid (me5.out.keep (Below.heap_setCell (((((v2.setCell ⟨v1.heap.size, 0, none⟩ (.string r.id)).setCell ⟨v1.heap.size, 1, none⟩ (.bool r.deny)).setCell ⟨v1.heap.size, 2, none⟩ (.slice C1 m1 c1)).setCell ⟨v1.heap.size, 3, none⟩ (.slice C2 m2 c2)).setCell ⟨v1.heap.size, 4, none⟩ (.slice C3 m3 c3)) ⟨v0.heap.size, 0, none⟩ (.string r.id) _ (by show v1.heap.size ≠ v0.heap.size; omega)))
          have bb6 := Lib.hid (bb5.out.setCell (p := ⟨v0.heap.size, 0, none⟩) (by show wr.heap.size ≤ v0.heap.size; omega) (.string r.id))
          have sc7 := me6.out.cell 1
          have sf7 := me6.out.frozen 1
          have me7 : Hid (Ob (((((((v2.setCell ⟨v1.heap.size, 0, none⟩ (.string r.id)).setCell ⟨v1.heap.size, 1, none⟩ (.bool r.deny)).setCell ⟨v1.heap.size, 2, none⟩ (.slice C1 m1 c1)).setCell ⟨v1.heap.size, 3, none⟩ (.slice C2 m2 c2)).setCell ⟨v1.heap.size, 4, none⟩ (.slice C3 m3 c3)).setCell ⟨v0.heap.size, 0, none⟩ (.string r.id)).setCell ⟨v0.heap.size, 1, none⟩ (.bool r.deny)) (v0.heap.size) 37 #[.string r.id, .bool r.deny, .slice none 0 0, .slice none 0 0, .slice none 0 0]) := Lib.hid (by have := me6.out.put 1 (.bool r.deny); simpa using this)
          have ot7 := Lib.hid (ot6.out.keep (Below.heap_setCell ((((((v2.setCell ⟨v1.heap.size, 0, none⟩ (.string r.id)).setCell ⟨v1.heap.size, 1, none⟩ (.bool r.deny)).setCell ⟨v1.heap.size, 2, none⟩ (.slice C1 m1 c1)).setCell ⟨v1.heap.size, 3, none⟩ (.slice C2 m2 c2)).setCell ⟨v1.heap.size, 4, none⟩ (.slice C3 m3 c3)).setCell ⟨v0.heap.size, 0, none⟩ (.string r.id)) ⟨v0.heap.size, 1, none⟩ (.bool r.deny) _ (by show v1.heap.size ≠ v0.heap.size; omega)))
          have bb7 := Lib.hid (bb6.out.setCell (p := ⟨v0.heap.size, 1, none⟩) (by show wr.heap.size ≤ v0.heap.size; omega) (.bool r.deny))
          have sc8 := me7.out.cell 2
          have sf8 := me7.out.frozen 2
          have me8 : Hid (Ob ((((((((v2.setCell ⟨v1.heap.size, 0, none⟩ (.string r.id)).setCell ⟨v1.heap.size, 1, none⟩ (.bool r.deny)).setCell ⟨v1.heap.size, 2, none⟩ (.slice C1 m1 c1)).setCell ⟨v1.heap.size, 3, none⟩ (.slice C2 m2 c2)).setCell ⟨v1.heap.size, 4, none⟩ (.slice C3 m3 c3)).setCell ⟨v0.heap.size, 0, none⟩ (.string r.id)).setCell ⟨v0.heap.size, 1, none⟩ (.bool r.deny)).setCell ⟨v0.heap.size, 2, none⟩ (.slice D1 m1 d1)) (v0.heap.size) 37 #[.string r.id, .bool r.deny, .slice D1 m1 d1, .slice none 0 0, .slice none 0 0]) := Lib.hid (by have := me7.out.put 2 (.slice D1 m1 d1); simpa using this)
          have ot8 := Lib.hid (ot7.out.keep (Below.heap_setCell (((((((v2.setCell ⟨v1.heap.size, 0, none⟩ (.string r.id)).setCell ⟨v1.heap.size, 1, none⟩ (.bool r.deny)).setCell ⟨v1.heap.size, 2, none⟩ (.slice C1 m1 c1)).setCell ⟨v1.heap.size, 3, none⟩ (.slice C2 m2 c2)).setCell ⟨v1.heap.size, 4, none⟩ (.slice C3 m3 c3)).setCell ⟨v0.heap.size, 0, none⟩ (.string r.id)).setCell ⟨v0.heap.size, 1, none⟩ (.bool r.deny)) ⟨v0.heap.size, 2, none⟩ (.slice D1 m1 d1) _ (by show v1.heap.size ≠ v0.heap.size; omega)))
          have bb8 := Lib.hid (bb7.out.setCell (p := ⟨v0.heap.size, 2, none⟩) (by show wr.heap.size ≤ v0.heap.size; omega) (.slice D1 m1 d1))
          have sc9 := me8.out.cell 3
          have sf9 := me8.out.frozen 3
          have me9 : Hid (Ob (((((((((v2.setCell ⟨v1.heap.size, 0, none⟩ (.string r.id)).setCell ⟨v1.heap.size, 1, none⟩ (.bool r.deny)).setCell ⟨v1.heap.size, 2, none⟩ (.slice C1 m1 c1)).setCell ⟨v1.heap.size, 3, none⟩ (.slice C2 m2 c2)).setCell ⟨v1.heap.size, 4, none⟩ (.slice C3 m3 c3)).setCell ⟨v0.heap.size, 0, none⟩ (.string r.id)).setCell ⟨v0.heap.size, 1, none⟩ (.bool r.deny)).setCell ⟨v0.heap.size, 2, none⟩ (.slice D1 m1 d1)).setCell ⟨v0.heap.size, 3, none⟩ (.slice D2 m2 d2)) (v0.heap.size) 37 #[.string r.id, .bool r.deny, .slice D1 m1 d1, .slice D2 m2 d2, .slice none 0 0]) := Lib.hid (by have := me8.out.put 3 (.slice D2 m2 d2); simpa using this)
          have ot9 := Lib.hid (ot8.out.keep (Below.heap_setCell ((((((((v2.setCell ⟨v1.heap.size, 0, none⟩ (.string r.id)).setCell ⟨v1.heap.size, 1, none⟩ (.bool r.deny)).setCell ⟨v1.heap.size, 2, none⟩ (.slice C1 m1 c1)).setCell ⟨v1.heap.size, 3, none⟩ (.slice C2 m2 c2)).setCell ⟨v1.heap.size, 4, none⟩ (.slice C3 m3 c3)).setCell ⟨v0.heap.size, 0, none⟩ (.string r.id)).setCell ⟨v0.heap.size, 1, none⟩ (.bool r.deny)).setCell ⟨v0.heap.size, 2, none⟩ (.slice D1 m1 d1)) ⟨v0.heap.size, 3, none⟩ (.slice D2 m2 d2) _ (by show v1.heap.size ≠ v0.heap.size; omega)))
          have bb9 := Lib.hid (bb8.out.setCell (p := ⟨v0.heap.size, 3, none⟩) (by show wr.heap.size ≤ v0.heap.size; omega) (.slice D2 m2 d2))
          have sc10 := me9.out.cell 4
          have sf10 := me9.out.frozen 4
          have me10 : Hid (Ob ((((((((((v2.setCell ⟨v1.heap.size, 0, none⟩ (.string r.id)).setCell ⟨v1.heap.size, 1, none⟩ (.bool r.deny)).setCell ⟨v1.heap.size, 2, none⟩ (.slice C1 m1 c1)).setCell ⟨v1.heap.size, 3, none⟩ (.slice C2 m2 c2)).setCell ⟨v1.heap.size, 4, none⟩ (.slice C3 m3 c3)).setCell ⟨v0.heap.size, 0, none⟩ (.string r.id)).setCell ⟨v0.heap.size, 1, none⟩ (.bool r.deny)).setCell ⟨v0.heap.size, 2, none⟩ (.slice D1 m1 d1)).setCell ⟨v0.heap.size, 3, none⟩ (.slice D2 m2 d2)).setCell ⟨v0.heap.size, 4, none⟩ (.slice D3 m3 d3)) (v0.heap.size) 37 #[.string r.id, .bool r.deny, .slice D1 m1 d1, .slice D2 m2 d2, .slice D3 m3 d3]) := Lib.hid (by have := me9.out.put 4 (.slice D3 m3 d3); simpa using this)
          have ot10 := Lib.hid (ot9.out.keep (Below.heap_setCell (((((((((v2.setCell ⟨v1.heap.size, 0, none⟩ (.string r.id)).setCell ⟨v1.heap.size, 1, none⟩ (.bool r.deny)).setCell ⟨v1.heap.size, 2, none⟩ (.slice C1 m1 c1)).setCell ⟨v1.heap.size, 3, none⟩ (.slice C2 m2 c2)).setCell ⟨v1.heap.size, 4, none⟩ (.slice C3 m3 c3)).setCell ⟨v0.heap.size, 0, none⟩ (.string r.id)).setCell ⟨v0.heap.size, 1, none⟩ (.bool r.deny)).setCell ⟨v0.heap.size, 2, none⟩ (.slice D1 m1 d1)).setCell ⟨v0.heap.size, 3, none⟩ (.slice D2 m2 d2)) ⟨v0.heap.size, 4, none⟩ (.slice D3 m3 d3) _ (by show v1.heap.size ≠ v0.heap.size; omega)))
          have bb10 := Lib.hid (bb9.out.setCell (p := ⟨v0.heap.size, 4, none⟩) (by show wr.heap.size ≤ v0.heap.size; omega) (.slice D3 m3 d3))
          go_wp2_with fail
          go_meet
          case rel => exact ⟨_, _, rfl, rfl, ot10.out, me10.out, bb10.out⟩
      case rest =>
        obtain ⟨g1, g2, rfl, rfl, o1, o2, hb⟩ := hcut
        have BA4 := Lib.hid (below_step BA3.out hb)
        have HB4 := Lib.hid (below_step HBR.out hb)
        have M1 := Lib.hid (L1.out.keep (Kept.all hb R) (fun _ h _ => h))
        have M1' := Lib.hid (L1'.out.keep (Kept.all hb R') (fun _ h _ => h))
        have M2 := Lib.hid (L2.out.keep (Kept.all hb R) (fun _ h _ => h))
        have M2' := Lib.hid (L2'.out.keep (Kept.all hb R') (fun _ h _ => h))
        have M3 := Lib.hid (L3.out.keep (Kept.all hb R) (fun _ h _ => h))
        have M3' := Lib.hid (L3'.out.keep (Kept.all hb R') (fun _ h _ => h))
        have P1 := Lib.hid o1
        have P2 := Lib.hid o2
        clear hb o1 o2 L1 L2 L3 L1' L2' L3' KF BA3 HBR
        have ra00 := P1.out.cell 0
        have rb00 := P2.out.cell 0
        have ra01 := P1.out.cell 1
        have rb01 := P2.out.cell 1
        have ra02 := P1.out.cell 2
        have rb02 := P2.out.cell 2
        have ra03 := P1.out.cell 3
        have rb03 := P2.out.cell 3
        have ra04 := P1.out.cell 4
        have rb04 := P2.out.cell 4
        go_wp2_with fail
        go_at_call 16
        refine (same_tgt M1.out M1'.out).mono ?_
        rintro e u1 ⟨rfl, hb⟩
        have BA5 := Lib.hid (below_step BA4.out hb)
        have HB5 := Lib.hid (below_step HB4.out hb)
        have N2 := Lib.hid (M2.out.keep (Kept.all hb R) (fun _ h _ => h))
        have N2' := Lib.hid (M2'.out.keep (Kept.all hb R') (fun _ h _ => h))
        have N3 := Lib.hid (M3.out.keep (Kept.all hb R) (fun _ h _ => h))
        have N3' := Lib.hid (M3'.out.keep (Kept.all hb R') (fun _ h _ => h))
        have P3 := Lib.hid (P1.out.below hb P1.out.lt)
        have P4 := Lib.hid (P2.out.below hb P2.out.lt)
        clear hb M1 M1' M2 M2' M3 M3' P1 P2 BA4 HB4
        have ra10 := P3.out.cell 0
        have rb10 := P4.out.cell 0
        have ra11 := P3.out.cell 1
        have rb11 := P4.out.cell 1
        have ra12 := P3.out.cell 2
        have rb12 := P4.out.cell 2
        have ra13 := P3.out.cell 3
        have rb13 := P4.out.cell 3
        have ra14 := P3.out.cell 4
        have rb14 := P4.out.cell 4
        go_wp2_with fail
        go_at_call 18
        refine (same_nod N2.out N2'.out).mono ?_
        rintro e u2 ⟨rfl, hb⟩
        have BA6 := Lib.hid (below_step BA5.out hb)
        have HB6 := Lib.hid (below_step HB5.out hb)
        have K3 := Lib.hid (N3.out.keep (Kept.all hb R) (fun _ h _ => h))
        have K3' := Lib.hid (N3'.out.keep (Kept.all hb R') (fun _ h _ => h))
        have P5 := Lib.hid (P3.out.below hb P3.out.lt)
        have P6 := Lib.hid (P4.out.below hb P4.out.lt)
        clear hb N2 N2' N3 N3' P3 P4 BA5 HB5
        have ra20 := P5.out.cell 0
        have rb20 := P6.out.cell 0
        have ra21 := P5.out.cell 1
        have rb21 := P6.out.cell 1
        have ra22 := P5.out.cell 2
        have rb22 := P6.out.cell 2
        have ra23 := P5.out.cell 3
        have rb23 := P6.out.cell 3
        have ra24 := P5.out.cell 4
        have rb24 := P6.out.cell 4
        go_wp2_with fail
        go_at_call 17
        refine (same_dut K3.out K3'.out).mono ?_
        rintro e u3 ⟨rfl, hb⟩
        have HB7 := Lib.hid (below_step HB6.out hb)
        clear hb K3 K3' P5 P6 BA6 HB6
        go_wp2_with fail
        go_roundw
        case rel => exact ⟨k + 1, by omega, by go_num, HB7.out⟩
        case measure => simp [intOf]; omega
    · obtain rfl : k = n2 := by omega
      have z5 := PA3.out.cell 5
      have z5' := PB3.out.cell 5
      have HSW : Hid (w.heap.size + 1 < wr.heap.size) := PB3.out.lt
      go_wp2_with fail
      obtain ⟨wo, hwo⟩ : ∃ wo, wo = wr := ⟨wr, rfl⟩
      subst hwo
      go_loopw [118] (fun i wq => ∃ j : Nat, j ≤ n3 ∧ i = .int .i64 j ∧ Below wo.heap.size wo wq) (fun i _ => n3 - (intOf i).toNat)
      case atStart => exact ⟨0, Nat.zero_le _, rfl, Below.refl _ _⟩
      case round =>
        obtain ⟨j, hj, rfl, hb⟩ := hrel
        have BA4 := Lib.hid (below_step BA3.out hb)
        have HBJ := Lib.hid hb
        have PA4 := Lib.hid (PA3.out.below hb PA3.out.lt)
        have PB4 := Lib.hid (PB3.out.below hb PB3.out.lt)
        clear hb
        by_cases hlt : j < n3
        · obtain ⟨b, o, q, e, C1, m1, c1, C2, m2, c2, C3, m3, c3, C4, m4, c4, rfl, _, _, hq, hd, ⟨hid, halg⟩, ⟨x0, x1, x2, x3, x4, x5, x6⟩, ht, hn, hp, hdu⟩ := (Pls.keep HA.out.2.2.1 (Kept.all BA4.out R) (fun _ h _ => h)).at_ hlt
          obtain ⟨b', o', q', e', D1, q1, d1, D2, q2, d2, D3, q3, d3, D4, q4, d4, rfl, _, _, hq', hd', _, ⟨y0, y1, y2, y3, y4, y5, y6⟩, ht', hn', hp', hdu'⟩ := (Pls.keep HB.out.2.2.1 (Kept.all BA4.out R') (fun _ h _ => h)).at_ hlt
          obtain rfl := Option.some.inj (hq.symm.trans hq')
          obtain rfl := Rw.same_len ht ht'
          obtain rfl := Rw.same_len hn hn'
          obtain rfl := Rw.same_len hp hp'
          obtain rfl := Rw.same_len hdu hdu'
          have Q1 : Hid (∀ d os, Calls Tryd.prog 10 #[.agg #[.string q.id, .bool q.set, .int .i64 q.alg, .slice C1 m1 c1, .slice C2 m2 c2, .slice C3 m3 c3, .slice C4 m4 c4], .agg #[.string q.id, .bool q.set, .int .i64 q.alg, .slice D1 m1 d1, .slice D2 m2 d2, .slice D3 m3 d3, .slice D4 m4 d4]] (grow (redrawn wr d) os) fun e w'' => e = .returned (.bool true) ∧ ∃ p : Regrown, w'' = grow (redrawn wr p.d) p.os) := by
            have h1 := Lib.hid ht; have h2 := Lib.hid hn; have h3 := Lib.hid hp; have h4 := Lib.hid hdu
            have k1 := Lib.hid ht'; have k2 := Lib.hid hn'; have k3 := Lib.hid hp'; have k4 := Lib.hid hdu'
            exact same_q (@ih e hd) hid ⟨h1.out, h2.out, h3.out, h4.out⟩ ⟨k1.out, k2.out, k3.out, k4.out⟩
          have z6 := PA4.out.cell 5
          have z6' := PB4.out.cell 5
          have v6 := fun d os => cell_regrown z6 d os
          have v6' := fun d os => cell_regrown z6' d os
          have xx0 := fun d os => cell_regrown x0 d os
          have yy0 := fun d os => cell_regrown y0 d os
          have xx1 := fun d os => cell_regrown x1 d os
          have yy1 := fun d os => cell_regrown y1 d os
          have xx2 := fun d os => cell_regrown x2 d os
          have yy2 := fun d os => cell_regrown y2 d os
          have xx3 := fun d os => cell_regrown x3 d os
          have yy3 := fun d os => cell_regrown y3 d os
          have xx4 := fun d os => cell_regrown x4 d os
          have yy4 := fun d os => cell_regrown y4 d os
          have xx5 := fun d os => cell_regrown x5 d os
          have yy5 := fun d os => cell_regrown y5 d os
          have xx6 := fun d os => cell_regrown x6 d os
          have yy6 := fun d os => cell_regrown y6 d os
          clear hq hq' hd hd' hid halg ht hn hp hdu ht' hn' hp' hdu' z5 z5' z6 z6' x0 x1 x2 x3 x4 x5 x6 y0 y1 y2 y3 y4 y5 y6
          go_wp2_with fail
          refine wp_region_quiet_below (by kernel_rfl) (by kernel_rfl) ?_
          repeat (go_big_quiet_step ((go_at_call 10; exact Q1.out _ _)))
          refine wpQuiet_nil ?_
          intro _ hw'
          obtain ⟨⟨dq, osq⟩, hw''⟩ := hw'
          subst hw''
          have BQ2 := Lib.hid (below_regrown wr dq osq)
          clear v6 v6' Q1 xx0 yy0 xx1 yy1 xx2 yy2 xx3 yy3 xx4 yy4 xx5 yy5 xx6 yy6
          generalize grow (redrawn wr dq) osq = w5 at *
          go_wp2_with fail
          go_roundw
          case rel => exact ⟨j + 1, by omega, by go_num, HBJ.out.trans (BQ2.out.mono HBJ.out.size)⟩
          case measure => simp [intOf]; omega
        · obtain rfl : j = n3 := by omega
          clear z5 z5'
          go_wp2_with fail
          go_ret
          exact ⟨rfl, BA4.out⟩
theorem same_all : ∀ d, PSame d
  | 0 => same_step 0 (fun d' e => by omega)
  | d + 1 => same_step (d + 1) (fun d' e => by obtain rfl : d = d' := by omega
                                               exact same_all d)
end
end Go.Proofs.YtincnopaclmppaaDoor
