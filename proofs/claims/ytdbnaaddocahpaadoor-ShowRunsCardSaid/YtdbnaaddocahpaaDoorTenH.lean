/- Several texts in one: KeepSame, Laid10R, Door10R, Open, OpenPol. -/
import Derived.Test.YtdbnaaddocahpaaDoorTenD
import Derived.Laws.StructEq
import Derived.Laws.Tables
import Derived.Laws.Cover2
import Derived.Lib.QuietBelow
import Derived.Deep.CutRange
import Derived.Test.YtdbnaaddocahpaaDoorTenA
import Derived.ProofKit
import Derived.LaidMore
import Derived.OpenShut
import Derived.Stop.Joined
import Derived.ChangeSlices
import Derived.Deep.Slices
import Derived.Deep.Fields
import Derived.Lib.SmallJoins
import Derived.SizedLaws
import Derived.Test.YtdbnaaddocahpaaDoorTenG
/- bailiffkeep: two policies that are the same. -/
namespace Go.Proofs.YtdbnaaddocahpaaDoor
set_option linter.unusedVariables false
open Go.RowKit Go.Sort

section
variable {w : World} {R R' : Nat → Prop} {A A' : Option Addr} {n c n' c' : Nat}
theorem Rw.same_len {α : Type} {k k' : Nat} {P P' : List Value → α → Prop} {w : World} {R R' : Nat → Prop} {A A' : Option Addr} {n n' c c' : Nat} {l : List α} (h : Rw k P w R A n c l) (h' : Rw k' P' w R' A' n' c' l) : n = n' := by rw [← h.len, ← h'.len]
set_option maxHeartbeats 800000 in
theorem same_dut {l : List Dut} (h : Dus w R A n c l) (h' : Dus w R' A' n c' l) : Calls Tryd.prog 17 #[.slice A n c, .slice A' n c'] w fun e w' => e = .returned (.bool true) ∧ Below w.heap.size w w' := by
  have hcap := h.cap
  have hle := h.le
  have hle' := h'.le
  unfold maxLen at hcap
  have H := Lib.hid h
  have H' := Lib.hid h'
  clear h h'
  go_enter Tryd.func17, Tryd.ntmps17
  go_wp2
  go_loopw [5] (fun i wr => ∃ k : Nat, k ≤ n ∧ i = .int .i64 k ∧ ∃ q, wr = w.drewN q) (fun i _ => n - (intOf i).toNat)
  case atStart => exact ⟨0, Nat.zero_le _, rfl, 0, rfl⟩
  case round =>
    obtain ⟨k, hk, rfl, q, rfl⟩ := hrel
    by_cases hlt : k < n
    · obtain ⟨b, o, x, rfl, _, _, hx, _, ⟨x0, x1, x2⟩⟩ := H.out.at_ hlt
      obtain ⟨b', o', y, rfl, _, _, hy, _, ⟨y0, y1, y2⟩⟩ := H'.out.at_ hlt
      obtain rfl := Option.some.inj (hx.symm.trans hy)
      have hve := dut_eq x x
      simp only [decide_true] at hve
      clear hx hy
      go_wp2_with fail
      go_quiet (fail)
      go_wp2
      go_roundw
      case rel => exact ⟨k + 1, by omega, by go_num, _, rfl⟩
      case measure => simp [intOf]; omega
    · obtain rfl : k = n := by omega
      go_wp2
      go_ret
      exact ⟨rfl, below_drewN (Below.refl _ _) _⟩
set_option maxHeartbeats 800000 in
theorem same_nod {l : List Nod} (h : Nds w R A n c l) (h' : Nds w R' A' n c' l) : Calls Tryd.prog 18 #[.slice A n c, .slice A' n c'] w fun e w' => e = .returned (.bool true) ∧ Below w.heap.size w w' := by
  have hcap := h.cap
  have hle := h.le
  have hle' := h'.le
  unfold maxLen at hcap
  have H := Lib.hid h
  have H' := Lib.hid h'
  clear h h'
  go_enter Tryd.func18, Tryd.ntmps18
  go_wp2
  go_loopw [5] (fun i wr => ∃ k : Nat, k ≤ n ∧ i = .int .i64 k ∧ ∃ q, wr = w.drewN q) (fun i _ => n - (intOf i).toNat)
  case atStart => exact ⟨0, Nat.zero_le _, rfl, 0, rfl⟩
  case round =>
    obtain ⟨k, hk, rfl, q, rfl⟩ := hrel
    by_cases hlt : k < n
    · obtain ⟨b, o, x, rfl, _, _, hx, _, ⟨x0, x1, x2, x3, x4, x5, x6⟩⟩ := H.out.at_ hlt
      obtain ⟨b', o', y, rfl, _, _, hy, _, ⟨y0, y1, y2, y3, y4, y5, y6⟩⟩ := H'.out.at_ hlt
      obtain rfl := Option.some.inj (hx.symm.trans hy)
      have hve := nod_eq x x
      simp only [decide_true] at hve
      clear hx hy
      go_wp2_with fail
      go_quiet (fail)
      go_wp2
      go_roundw
      case rel => exact ⟨k + 1, by omega, by go_num, _, rfl⟩
      case measure => simp [intOf]; omega
    · obtain rfl : k = n := by omega
      go_wp2
      go_ret
      exact ⟨rfl, below_drewN (Below.refl _ _) _⟩
set_option maxHeartbeats 800000 in
theorem same_mat {l : List Mat} (h : Ms w R A n c l) (h' : Ms w R' A' n c' l) : Calls Tryd.prog 31 #[.slice A n c, .slice A' n c'] w fun e w' => e = .returned (.bool true) ∧ Below w.heap.size w w' := by
  have hcap := h.cap
  have hle := h.le
  have hle' := h'.le
  unfold maxLen at hcap
  have H := Lib.hid h
  have H' := Lib.hid h'
  clear h h'
  go_enter Tryd.func31, Tryd.ntmps31
  go_wp2
  go_loopw [5] (fun i wr => ∃ k : Nat, k ≤ n ∧ i = .int .i64 k ∧ ∃ q, wr = w.drewN q) (fun i _ => n - (intOf i).toNat)
  case atStart => exact ⟨0, Nat.zero_le _, rfl, 0, rfl⟩
  case round =>
    obtain ⟨k, hk, rfl, q, rfl⟩ := hrel
    by_cases hlt : k < n
    · obtain ⟨b, o, x, rfl, _, _, hx, _, ⟨x0, x1, x2, x3, x4, x5, x6⟩⟩ := H.out.at_ hlt
      obtain ⟨b', o', y, rfl, _, _, hy, _, ⟨y0, y1, y2, y3, y4, y5, y6⟩⟩ := H'.out.at_ hlt
      obtain rfl := Option.some.inj (hx.symm.trans hy)
      have hve := mat_eq x x
      simp only [decide_true] at hve
      clear hx hy
      go_wp2_with fail
      go_quiet (fail)
      go_wp2
      go_roundw
      case rel => exact ⟨k + 1, by omega, by go_num, _, rfl⟩
      case measure => simp [intOf]; omega
    · obtain rfl : k = n := by omega
      go_wp2
      go_ret
      exact ⟨rfl, below_drewN (Below.refl _ _) _⟩
theorem same_dut_q {l : List Dut} (h : Dus w R A n c l) (h' : Dus w R' A' n' c' l) (d : Nat) (os : Array Obj) : Calls Tryd.prog 17 #[.slice A n c, .slice A' n' c'] (grow (redrawn w d) os) fun e w'' => e = .returned (.bool true) ∧ ∃ p : Regrown, w'' = grow (redrawn w p.d) p.os := by
  obtain rfl := Rw.same_len h h'
  exact Calls.regrown_of (same_dut (R := R) (R' := R') (h.keep (Kept.all (below_regrown w d os) R) (fun _ h _ => h)) (h'.keep (Kept.all (below_regrown w d os) R') (fun _ h _ => h)))
theorem same_nod_q {l : List Nod} (h : Nds w R A n c l) (h' : Nds w R' A' n' c' l) (d : Nat) (os : Array Obj) : Calls Tryd.prog 18 #[.slice A n c, .slice A' n' c'] (grow (redrawn w d) os) fun e w'' => e = .returned (.bool true) ∧ ∃ p : Regrown, w'' = grow (redrawn w p.d) p.os := by
  obtain rfl := Rw.same_len h h'
  exact Calls.regrown_of (same_nod (R := R) (R' := R') (h.keep (Kept.all (below_regrown w d os) R) (fun _ h _ => h)) (h'.keep (Kept.all (below_regrown w d os) R') (fun _ h _ => h)))
theorem same_mat_q {l : List Mat} (h : Ms w R A n c l) (h' : Ms w R' A' n' c' l) (d : Nat) (os : Array Obj) : Calls Tryd.prog 31 #[.slice A n c, .slice A' n' c'] (grow (redrawn w d) os) fun e w'' => e = .returned (.bool true) ∧ ∃ p : Regrown, w'' = grow (redrawn w p.d) p.os := by
  obtain rfl := Rw.same_len h h'
  exact Calls.regrown_of (same_mat (R := R) (R' := R') (h.keep (Kept.all (below_regrown w d os) R) (fun _ h _ => h)) (h'.keep (Kept.all (below_regrown w d os) R') (fun _ h _ => h)))
set_option maxRecDepth 100000 in
set_option maxHeartbeats 1600000 in
theorem same_tgt {l : Tgt} (h : Tg w R A n c l) (h' : Tg w R' A' n c' l) : Calls Tryd.prog 16 #[.slice A n c, .slice A' n c'] w fun e w' => e = .returned (.bool true) ∧ Below w.heap.size w w' := by
  have hcap := h.cap
  have hle := h.le
  have hle' := h'.le
  unfold maxLen at hcap
  have H := Lib.hid h
  have H' := Lib.hid h'
  clear h h'
  go_enter Tryd.func16, Tryd.ntmps16
  go_wp2
  go_loopw [14] (fun i wr => ∃ k : Nat, k ≤ n ∧ i = .int .i64 k ∧ Below w.heap.size w wr) (fun i _ => n - (intOf i).toNat)
  case atStart => exact ⟨0, Nat.zero_le _, rfl, Below.refl _ _⟩
  case round =>
    obtain ⟨k, hk, rfl, hb⟩ := hrel
    have HB := Lib.hid hb
    have T1 := Lib.hid (H.out.keep (Kept.all hb R) (fun _ h _ => h))
    have T2 := Lib.hid (H'.out.keep (Kept.all hb R') (fun _ h _ => h))
    clear hb
    by_cases hlt : k < n
    · obtain ⟨b, o, x, A1, n1, c1, rfl, _, _, hx, x0, hA⟩ := T1.out.at_ hlt
      obtain ⟨b', o', y, A2, n2, c2, rfl, _, _, hy, y0, hA'⟩ := T2.out.at_ hlt
      obtain rfl := Option.some.inj (hx.symm.trans hy)
      obtain rfl := Rw.same_len hA hA'
      have hcap1 := Rw.cap hA
      have hle1 := Rw.le hA
      have hle2 := Rw.le hA'
      unfold maxLen at hcap1
      have G1 := Lib.hid hA
      have G2 := Lib.hid hA'
      clear hx hy hA hA'
      go_wp2_with fail
      have x0' := fun d os => cell_regrown x0 d os
      have y0' := fun d os => cell_regrown y0 d os
      refine wp_region_quiet_below (by kernel_rfl) (by kernel_rfl) ?_
      repeat (go_big_quiet_step (fail))
      refine wpQuiet_nil ?_
      intro _ hw'
      obtain ⟨⟨dq, osq⟩, hw''⟩ := hw'
      subst hw''
      have BQ := Lib.hid (below_regrown wr dq osq)
      have c1x := x0' dq osq
      clear x0' y0'
      generalize grow (redrawn wr dq) osq = w2 at *
      have HB2 := Lib.hid (HB.out.trans (BQ.out.mono HB.out.size))
      have S1 := Lib.hid (G1.out.keep (Kept.all BQ.out R) (fun _ h _ => h))
      have S2 := Lib.hid (G2.out.keep (Kept.all BQ.out R') (fun _ h _ => h))
      have xw := c1x
      have yw := (show w2.cell? _ = some _ from (BQ.out.cell (block_lt_of_cell y0)).trans y0)
      clear c1x
      go_wp2_with fail
      obtain ⟨wo, hwo⟩ : ∃ wo, wo = wr := ⟨wr, rfl⟩
      subst hwo
      go_loopw [33] (fun i wq => ∃ j : Nat, j ≤ n1 ∧ i = .int .i64 j ∧ Below w2.heap.size w2 wq) (fun i _ => n1 - (intOf i).toNat)
      case atStart => exact ⟨0, Nat.zero_le _, rfl, Below.refl _ _⟩
      case round =>
        obtain ⟨j, hj, rfl, hb⟩ := hrel
        have HB3 := Lib.hid (HB2.out.trans (hb.mono HB2.out.size))
        have HBJ := Lib.hid hb
        have T1j := Lib.hid (S1.out.keep (Kept.all hb R) (fun _ h _ => h))
        have T2j := Lib.hid (S2.out.keep (Kept.all hb R') (fun _ h _ => h))
        have X0 := Lib.hid ((hb.cell (block_lt_of_cell xw)).trans xw)
        have Y0 := Lib.hid ((hb.cell (block_lt_of_cell yw)).trans yw)
        clear hb
        by_cases hlt2 : j < n1
        · obtain ⟨b1, o1, u, A3, n3, c3, rfl, _, _, hu, u0, hM⟩ := T1j.out.at_ hlt2
          obtain ⟨b2, o2, v, A4, n4, c4, rfl, _, _, hv, v0, hM'⟩ := T2j.out.at_ hlt2
          obtain rfl := Option.some.inj (hu.symm.trans hv)
          have M1 := Lib.hid hM
          have M2 := Lib.hid hM'
          have KK := Lib.hid (below_regrown wr)
          have Q1 : Hid (∀ d os, Calls Tryd.prog 31 #[.slice A3 n3 c3, .slice A4 n4 c4] (grow (redrawn wr d) os) fun e w'' => e = .returned (.bool true) ∧ ∃ p : Regrown, w'' = grow (redrawn wr p.d) p.os) := fun d os => same_mat_q M1.out M2.out d os
          have x1 := fun d os => cell_regrown X0.out d os
          have y1 := fun d os => cell_regrown Y0.out d os
          have u1 := fun d os => cell_regrown u0 d os
          have v1 := fun d os => cell_regrown v0 d os
          clear hu hv hM hM' x0 y0 u0 v0 xw yw
          go_wp2_with fail
          refine wp_region_quiet_below (by kernel_rfl) (by kernel_rfl) ?_
          repeat (go_big_quiet_step ((go_at_call 31; exact Q1.out _ _)))
          refine wpQuiet_nil ?_
          intro _ hw'
          obtain ⟨⟨dq, osq⟩, hw''⟩ := hw'
          subst hw''
          have BQ2 := Lib.hid (below_regrown wr dq osq)
          clear x1 y1 u1 v1 Q1 KK
          generalize grow (redrawn wr dq) osq = w5 at *
          go_wp2_with fail
          go_roundw
          case rel => exact ⟨j + 1, by omega, by go_num, HBJ.out.trans (BQ2.out.mono HBJ.out.size)⟩
          case measure => simp [intOf]; omega
        · obtain rfl : j = n1 := by omega
          clear x0 y0 xw yw
          go_wp2_with fail
          go_roundw
          case rel => exact ⟨k + 1, by omega, by go_num, HB3.out⟩
          case measure => simp [intOf]; omega
    · obtain rfl : k = n := by omega
      go_wp2
      go_ret
      exact ⟨rfl, HB.out⟩
/-- Two policies in memory that are the same. -/
def PSame (d : Nat) : Prop := ∀ {w : World} {R R' : Nat → Prop} {m : Nat} {p : Pol} {A1 A2 A3 A4 B1 B2 B3 B4 : Option Addr} {n1 n2 n3 n4 ak1 ak2 ak3 ak4 bk1 bk2 bk3 bk4 : Nat},
  p.id.size ≤ maxLen → (Tg w R A1 n1 ak1 p.tg ∧ Rus w R A2 n2 ak2 p.rules ∧ Pls w R d A3 n3 ak3 p.kids ∧ Dus w R A4 n4 ak4 p.ob) → (Tg w R' B1 n1 bk1 p.tg ∧ Rus w R' B2 n2 bk2 p.rules ∧ Pls w R' m B3 n3 bk3 p.kids ∧ Dus w R' B4 n4 bk4 p.ob) →
  Calls Tryd.prog 10 #[.agg #[.string p.id, .bool p.set, .int .i64 p.alg, .slice A1 n1 ak1, .slice A2 n2 ak2, .slice A3 n3 ak3, .slice A4 n4 ak4], .agg #[.string p.id, .bool p.set, .int .i64 p.alg, .slice B1 n1 bk1, .slice B2 n2 bk2, .slice B3 n3 bk3, .slice B4 n4 bk4]] w fun e w' => e = .returned (.bool true) ∧ Below w.heap.size w w'
theorem same_q {d m : Nat} (ih : PSame d) {p : Pol} {A1 A2 A3 A4 B1 B2 B3 B4 : Option Addr} {n1 n2 n3 n4 ak1 ak2 ak3 ak4 bk1 bk2 bk3 bk4 : Nat}
    (hid : p.id.size ≤ maxLen) (hA : Tg w R A1 n1 ak1 p.tg ∧ Rus w R A2 n2 ak2 p.rules ∧ Pls w R d A3 n3 ak3 p.kids ∧ Dus w R A4 n4 ak4 p.ob) (hB : Tg w R' B1 n1 bk1 p.tg ∧ Rus w R' B2 n2 bk2 p.rules ∧ Pls w R' m B3 n3 bk3 p.kids ∧ Dus w R' B4 n4 bk4 p.ob) (dd : Nat) (os : Array Obj) :
    Calls Tryd.prog 10 #[.agg #[.string p.id, .bool p.set, .int .i64 p.alg, .slice A1 n1 ak1, .slice A2 n2 ak2, .slice A3 n3 ak3, .slice A4 n4 ak4], .agg #[.string p.id, .bool p.set, .int .i64 p.alg, .slice B1 n1 bk1, .slice B2 n2 bk2, .slice B3 n3 bk3, .slice B4 n4 bk4]] (grow (redrawn w dd) os) fun e w'' => e = .returned (.bool true) ∧ ∃ p : Regrown, w'' = grow (redrawn w p.d) p.os := by
  have k1 := Kept.all (below_regrown w dd os) R
  have k2 := Kept.all (below_regrown w dd os) R'
  exact Calls.regrown_of (ih (R := R) (R' := R') hid ⟨hA.1.keep k1 (fun _ h _ => h), hA.2.1.keep k1 (fun _ h _ => h), hA.2.2.1.keep k1 (fun _ h _ => h), hA.2.2.2.keep k1 (fun _ h _ => h)⟩ ⟨hB.1.keep k2 (fun _ h _ => h), hB.2.1.keep k2 (fun _ h _ => h), hB.2.2.1.keep k2 (fun _ h _ => h), hB.2.2.2.keep k2 (fun _ h _ => h)⟩)
set_option maxRecDepth 100000 in
set_option maxHeartbeats 3200000 in
theorem same_step (d : Nat) (ih : ∀ d', d = d' + 1 → PSame d') : PSame d := by
  intro w R R' m p A1 A2 A3 A4 B1 B2 B3 B4 n1 n2 n3 n4 ak1 ak2 ak3 ak4 bk1 bk2 bk3 bk4 hid hA hB
  have HA := Lib.hid hA
  have HB := Lib.hid hB
  have BA : Hid (Below w.heap.size w ((w.alloc (.cells #[.string p.id, .bool p.set, .int .i64 p.alg, .slice A1 n1 ak1, .slice A2 n2 ak2, .slice A3 n3 ak3, .slice A4 n4 ak4] 43)).alloc (.cells #[.string p.id, .bool p.set, .int .i64 p.alg, .slice B1 n1 bk1, .slice B2 n2 bk2, .slice B3 n3 bk3, .slice B4 n4 bk4] 43))) := (((Below.refl _ _).alloc (Nat.le_refl _) _).alloc (by rw [size_al]; omega) _)
  have PA : Hid (Ob ((w.alloc (.cells #[.string p.id, .bool p.set, .int .i64 p.alg, .slice A1 n1 ak1, .slice A2 n2 ak2, .slice A3 n3 ak3, .slice A4 n4 ak4] 43)).alloc (.cells #[.string p.id, .bool p.set, .int .i64 p.alg, .slice B1 n1 bk1, .slice B2 n2 bk2, .slice B3 n3 bk3, .slice B4 n4 bk4] 43)) w.heap.size 43 #[.string p.id, .bool p.set, .int .i64 p.alg, .slice A1 n1 ak1, .slice A2 n2 ak2, .slice A3 n3 ak3, .slice A4 n4 ak4]) := (Ob.made _ _ _).keep (Below.heap_alloc _ _ _ (by rw [size_al]; omega))
  have PB : Hid (Ob ((w.alloc (.cells #[.string p.id, .bool p.set, .int .i64 p.alg, .slice A1 n1 ak1, .slice A2 n2 ak2, .slice A3 n3 ak3, .slice A4 n4 ak4] 43)).alloc (.cells #[.string p.id, .bool p.set, .int .i64 p.alg, .slice B1 n1 bk1, .slice B2 n2 bk2, .slice B3 n3 bk3, .slice B4 n4 bk4] 43)) (w.heap.size + 1) 43 #[.string p.id, .bool p.set, .int .i64 p.alg, .slice B1 n1 bk1, .slice B2 n2 bk2, .slice B3 n3 bk3, .slice B4 n4 bk4]) := Lib.hid (by have := Ob.made (w.alloc (.cells #[.string p.id, .bool p.set, .int .i64 p.alg, .slice A1 n1 ak1, .slice A2 n2 ak2, .slice A3 n3 ak3, .slice A4 n4 ak4] 43)) 43 #[.string p.id, .bool p.set, .int .i64 p.alg, .slice B1 n1 bk1, .slice B2 n2 bk2, .slice B3 n3 bk3, .slice B4 n4 bk4]; simpa using this)
  have HID := Lib.hid hid
  clear hid hA hB
  have T1 := Lib.hid (HA.out.1.keep (Kept.all BA.out R) (fun _ h _ => h))
  have T2 := Lib.hid (HB.out.1.keep (Kept.all BA.out R') (fun _ h _ => h))
  have hlt1 : n1 ≤ 1000000000000000 := by have := T1.out.big; omega
  go_enter Tryd.func10, Tryd.ntmps10
  have pa0 := PA.out.cell 0
  have pb0 := PB.out.cell 0
  have pa1 := PA.out.cell 1
  have pb1 := PB.out.cell 1
  have pa2 := PA.out.cell 2
  have pb2 := PB.out.cell 2
  have pa3 := PA.out.cell 3
  have pb3 := PB.out.cell 3
  have pa4 := PA.out.cell 4
  have pb4 := PB.out.cell 4
  have pa5 := PA.out.cell 5
  have pb5 := PB.out.cell 5
  have pa6 := PA.out.cell 6
  have pb6 := PB.out.cell 6
  go_wp2_with fail
  go_at_call 16
  refine (same_tgt T1.out T2.out).mono ?_
  rintro e w1 ⟨rfl, hb⟩
  have BA1 := Lib.hid (below_step BA.out hb)
  have PA1 := Lib.hid (PA.out.below hb PA.out.lt)
  have PB1 := Lib.hid (PB.out.below hb PB.out.lt)
  clear hb
  have T3 := Lib.hid (HA.out.2.2.2.keep (Kept.all BA1.out R) (fun _ h _ => h))
  have T4 := Lib.hid (HB.out.2.2.2.keep (Kept.all BA1.out R') (fun _ h _ => h))
  have pa10 := PA1.out.cell 0
  have pb10 := PB1.out.cell 0
  have pa11 := PA1.out.cell 1
  have pb11 := PB1.out.cell 1
  have pa12 := PA1.out.cell 2
  have pb12 := PB1.out.cell 2
  have pa13 := PA1.out.cell 3
  have pb13 := PB1.out.cell 3
  have pa14 := PA1.out.cell 4
  have pb14 := PB1.out.cell 4
  have pa15 := PA1.out.cell 5
  have pb15 := PB1.out.cell 5
  have pa16 := PA1.out.cell 6
  have pb16 := PB1.out.cell 6
  go_wp2_with fail
  go_at_call 17
  refine (same_dut T3.out T4.out).mono ?_
  rintro e w2 ⟨rfl, hb⟩
  have BA2 := Lib.hid (below_step BA1.out hb)
  have PA2 := Lib.hid (PA1.out.below hb PA1.out.lt)
  have PB2 := Lib.hid (PB1.out.below hb PB1.out.lt)
  clear hb BA1 PA1 PB1 BA PA PB T1 T2 T3 T4
  have hcap2 := Rw.cap HA.out.2.1
  have hcap3 := Rw.cap HA.out.2.2.1
  have hle2 := Rw.le HA.out.2.1
  have hle2' := Rw.le HB.out.2.1
  have hle3 := Rw.le HA.out.2.2.1
  have hle3' := Rw.le HB.out.2.2.1
  unfold maxLen at hcap2 hcap3
  have pa20 := PA2.out.cell 0
  have pb20 := PB2.out.cell 0
  have pa21 := PA2.out.cell 1
  have pb21 := PB2.out.cell 1
  have pa22 := PA2.out.cell 2
  have pb22 := PB2.out.cell 2
  have pa23 := PA2.out.cell 3
  have pb23 := PB2.out.cell 3
  have pa24 := PA2.out.cell 4
  have pb24 := PB2.out.cell 4
  have pa25 := PA2.out.cell 5
  have pb25 := PB2.out.cell 5
  have pa26 := PA2.out.cell 6
  have pb26 := PB2.out.cell 6
  go_wp2_with fail
  go_loopw [65] (fun i wr => ∃ k : Nat, k ≤ n2 ∧ i = .int .i64 k ∧ Below w2.heap.size w2 wr) (fun i _ => n2 - (intOf i).toNat)
  case atStart => exact ⟨0, Nat.zero_le _, rfl, Below.refl _ _⟩
  case round =>
    obtain ⟨k, hk, rfl, hb⟩ := hrel
    have HBR := Lib.hid hb
    have PA3 := Lib.hid (PA2.out.below hb PA2.out.lt)
    have PB3 := Lib.hid (PB2.out.below hb PB2.out.lt)
    have BA3 := Lib.hid (below_step BA2.out hb)
    clear hb
    by_cases hlt : k < n2
    · obtain ⟨b, o, r, C1, m1, c1, C2, m2, c2, C3, m3, c3, rfl, _, _, hr, hid, ⟨x0, x1, x2, x3, x4⟩, ht, hn, hd⟩ := (Rus.keep HA.out.2.1 (Kept.all BA3.out R) (fun _ h _ => h)).at_ hlt
      obtain ⟨b', o', r', D1, q1, d1, D2, q2, d2, D3, q3, d3, rfl, _, _, hr', _, ⟨y0, y1, y2, y3, y4⟩, ht', hn', hd'⟩ := (Rus.keep HB.out.2.1 (Kept.all BA3.out R') (fun _ h _ => h)).at_ hlt
      obtain rfl := Option.some.inj (hr.symm.trans hr')
      obtain rfl := Rw.same_len ht ht'
      obtain rfl := Rw.same_len hn hn'
      obtain rfl := Rw.same_len hd hd'
      have L1 := Lib.hid ht
      have L2 := Lib.hid hn
      have L3 := Lib.hid hd
      have L1' := Lib.hid ht'
      have L2' := Lib.hid hn'
      have L3' := Lib.hid hd'
      have z4 := PA3.out.cell 4
      have z4' := PB3.out.cell 4
      have KF : Hid (∀ V : World, Below wr.heap.size wr V → V.cell? ⟨w.heap.size, 4, none⟩ = some (.slice (some ⟨b, o, none⟩) n2 ak2) ∧ V.cell? ⟨w.heap.size + 1, 4, none⟩ = some (.slice (some ⟨b', o', none⟩) n2 bk2) ∧
          V.cell? ⟨b, o + k * 5, none⟩ = some (.string r.id) ∧ V.cell? ⟨b, o + k * 5 + 1, none⟩ = some (.bool r.deny) ∧ V.cell? ⟨b, o + k * 5 + 2, none⟩ = some (.slice C1 m1 c1) ∧ V.cell? ⟨b, o + k * 5 + 3, none⟩ = some (.slice C2 m2 c2) ∧ V.cell? ⟨b, o + k * 5 + 4, none⟩ = some (.slice C3 m3 c3) ∧
          V.cell? ⟨b', o' + k * 5, none⟩ = some (.string r.id) ∧ V.cell? ⟨b', o' + k * 5 + 1, none⟩ = some (.bool r.deny) ∧ V.cell? ⟨b', o' + k * 5 + 2, none⟩ = some (.slice D1 m1 d1) ∧ V.cell? ⟨b', o' + k * 5 + 3, none⟩ = some (.slice D2 m2 d2) ∧ V.cell? ⟨b', o' + k * 5 + 4, none⟩ = some (.slice D3 m3 d3)) := fun V hV => by
        have e : ∀ {a : Addr} {v : Value}, wr.cell? a = some v → V.cell? a = some v := fun h => (hV.cell (block_lt_of_cell h)).trans h
        exact ⟨e z4, e z4', e x0, e x1, e x2, e x3, e x4, e y0, e y1, e y2, e y3, e y4⟩
      clear hr hr' hid ht hn hd ht' hn' hd' z4 z4' x0 x1 x2 x3 x4 y0 y1 y2 y3 y4
      go_wp2_with fail
      go_cut [6, 7] from 68 to 77 (fun u v wx => ∃ g1 g2, u = .pointer (some ⟨g1, 0, none⟩) ∧ v = .pointer (some ⟨g2, 0, none⟩) ∧ Ob wx g1 37 #[.string r.id, .bool r.deny, .slice C1 m1 c1, .slice C2 m2 c2, .slice C3 m3 c3] ∧ Ob wx g2 37 #[.string r.id, .bool r.deny, .slice D1 m1 d1, .slice D2 m2 d2, .slice D3 m3 d3] ∧ Below wr.heap.size wr wx)
      case first =>
        refine wp_region_held_tail (fun w' => Below wr.heap.size wr w') 13 (by kernel_rfl) (by kernel_rfl) ?_
        intro G
        change HeadW _ _ _ _ _ _ _ _ _ _ (wr.drewN 1)
        have S0 := Lib.hid (below_drewN (Below.refl wr.heap.size wr) 1)
        have LB0 : wr.heap.size ≤ (wr.drewN 1).heap.size := Nat.le_refl _
        generalize wr.drewN 1 = v0 at *
        refine HeadW_take (i := 0) (v := ?_) G rfl (by kernel_rfl) (by kernel_rfl) (by kernel_rfl) (fun _ _ _ h => h) (Or.inl ⟨by rfl, ?_⟩) S0.out ?_
        rotate_left
        · intro wz hS
          obtain ⟨z4, z4', x0, x1, x2, x3, x4, y0, y1, y2, y3, y4⟩ := KF.out _ hS
          go_simp
          try with_reducible rfl
        refine HeadW_take (i := 1) (v := ?_) G rfl (by kernel_rfl) (by kernel_rfl) (by kernel_rfl) (fun _ _ _ h => h) (Or.inl ⟨by rfl, ?_⟩) S0.out ?_
        rotate_left
        · intro wz hS
          obtain ⟨z4, z4', x0, x1, x2, x3, x4, y0, y1, y2, y3, y4⟩ := KF.out _ hS
          go_simp
          try with_reducible rfl
        refine HeadW_take (i := 2) (v := ?_) G rfl (by kernel_rfl) (by kernel_rfl) (by kernel_rfl) (fun _ _ _ h => h) (Or.inl ⟨by rfl, ?_⟩) S0.out ?_
        rotate_left
        · intro wz hS
          obtain ⟨z4, z4', x0, x1, x2, x3, x4, y0, y1, y2, y3, y4⟩ := KF.out _ hS
          go_simp
          try with_reducible rfl
        refine HeadW_take (i := 3) (v := ?_) G rfl (by kernel_rfl) (by kernel_rfl) (by kernel_rfl) (fun _ _ _ h => h) (Or.inl ⟨by rfl, ?_⟩) S0.out ?_
        rotate_left
        · intro wz hS
          obtain ⟨z4, z4', x0, x1, x2, x3, x4, y0, y1, y2, y3, y4⟩ := KF.out _ hS
          go_simp
          try with_reducible rfl
        refine HeadW_take (i := 4) (v := ?_) G rfl (by kernel_rfl) (by kernel_rfl) (by kernel_rfl) (fun _ _ _ h => h) (Or.inl ⟨by rfl, ?_⟩) S0.out ?_
        rotate_left
        · intro wz hS
          obtain ⟨z4, z4', x0, x1, x2, x3, x4, y0, y1, y2, y3, y4⟩ := KF.out _ hS
          go_simp
          try with_reducible rfl
        refine HeadW_take (i := 5) (v := ?_) G rfl (by kernel_rfl) (by kernel_rfl) (by kernel_rfl) (fun _ _ _ h => h) (Or.inl ⟨by rfl, ?_⟩) S0.out ?_
        rotate_left
        · intro wz hS
          obtain ⟨z4, z4', x0, x1, x2, x3, x4, y0, y1, y2, y3, y4⟩ := KF.out _ hS
          go_simp
          try with_reducible rfl
        refine HeadW_take (i := 6) (v := ?_) G rfl (by kernel_rfl) (by kernel_rfl) (by kernel_rfl) (fun _ _ _ h => h) (Or.inl ⟨by rfl, ?_⟩) S0.out ?_
        rotate_left
        · intro wz hS
          obtain ⟨z4, z4', x0, x1, x2, x3, x4, y0, y1, y2, y3, y4⟩ := KF.out _ hS
          go_simp
          try with_reducible rfl
        refine HeadW_take (i := 7) (v := ?_) G rfl (by kernel_rfl) (by kernel_rfl) (by kernel_rfl) (fun _ _ _ h => h) (Or.inl ⟨by rfl, ?_⟩) S0.out ?_
        rotate_left
        · intro wz hS
          obtain ⟨z4, z4', x0, x1, x2, x3, x4, y0, y1, y2, y3, y4⟩ := KF.out _ hS
          go_simp
          try with_reducible rfl
        refine HeadW_take (i := 8) (v := ?_) G rfl (by kernel_rfl) (by kernel_rfl) (by kernel_rfl) (fun _ _ _ h => h) (Or.inl ⟨by rfl, ?_⟩) S0.out ?_
        rotate_left
        · intro wz hS
          obtain ⟨z4, z4', x0, x1, x2, x3, x4, y0, y1, y2, y3, y4⟩ := KF.out _ hS
          go_simp
          try with_reducible rfl
        refine HeadW_take (i := 9) (v := ?_) G rfl (by kernel_rfl) (by kernel_rfl) (by kernel_rfl) (fun _ _ _ h => h) (Or.inl ⟨by rfl, ?_⟩) S0.out ?_
        rotate_left
        · intro wz hS
          obtain ⟨z4, z4', x0, x1, x2, x3, x4, y0, y1, y2, y3, y4⟩ := KF.out _ hS
          go_simp
          try with_reducible rfl
        refine HeadW_ready (rs := [10, 11]) (by kernel_rfl) rfl rfl ?_
        refine AllW.cons rfl (fun K hK => ?_) (AllW.cons rfl (fun K hK => ?_) AllW.nil)
        · go_simp
          have hb : Below v0.heap.size v0 (v0.alloc (.cells #[.string ⟨#[]⟩, .bool false, .slice none 0 0, .slice none 0 0, .slice none 0 0] 37)) := (Below.refl _ _).alloc (Nat.le_refl _) _
          have S1 := Lib.hid (S0.out.trans (hb.mono LB0))
          have Ea := Lib.hid (Ob.made v0 37 #[.string ⟨#[]⟩, .bool false, .slice none 0 0, .slice none 0 0, .slice none 0 0])
          have Xa : v0.heap.size < (v0.alloc (.cells #[.string ⟨#[]⟩, .bool false, .slice none 0 0, .slice none 0 0, .slice none 0 0] 37)).heap.size := by rw [size_al]; omega
          refine hK _ _ S1.out ?_
          clear hK K hb
          generalize v0.alloc (.cells #[.string ⟨#[]⟩, .bool false, .slice none 0 0, .slice none 0 0, .slice none 0 0] 37) = v1 at *
          have LB1 : wr.heap.size ≤ v1.heap.size := by omega
          refine HeadW_ready (rs := [11]) (by kernel_rfl) rfl rfl ?_
          refine AllW.cons rfl (fun K hK => ?_) AllW.nil
          go_simp
          have hb : Below v1.heap.size v1 (v1.alloc (.cells #[.string ⟨#[]⟩, .bool false, .slice none 0 0, .slice none 0 0, .slice none 0 0] 37)) := (Below.refl _ _).alloc (Nat.le_refl _) _
          have S2 := Lib.hid (S1.out.trans (hb.mono LB1))
          have E1 := Lib.hid (Ea.out.below hb Ea.out.lt)
          have E2 := Lib.hid (Ob.made v1 37 #[.string ⟨#[]⟩, .bool false, .slice none 0 0, .slice none 0 0, .slice none 0 0])
          refine hK _ _ S2.out ?_
          clear hK K hb
          generalize v1.alloc (.cells #[.string ⟨#[]⟩, .bool false, .slice none 0 0, .slice none 0 0, .slice none 0 0] 37) = v2 at *
          have sc1 := E1.out.cell 0
          have sf1 := E1.out.frozen 0
          have me1 : Hid (Ob (v2.setCell ⟨v0.heap.size, 0, none⟩ (.string r.id)) (v0.heap.size) 37 #[.string r.id, .bool false, .slice none 0 0, .slice none 0 0, .slice none 0 0]) := Lib.hid (by have := E1.out.put 0 (.string r.id); simpa using this)
          have ot1 := Lib.hid (E2.out.keep (Below.heap_setCell v2 ⟨v0.heap.size, 0, none⟩ (.string r.id) _ (by show v1.heap.size ≠ v0.heap.size; omega)))
          have bb1 := Lib.hid (S2.out.setCell (p := ⟨v0.heap.size, 0, none⟩) (by show wr.heap.size ≤ v0.heap.size; omega) (.string r.id))
          have sc2 := me1.out.cell 1
          have sf2 := me1.out.frozen 1
          have me2 : Hid (Ob ((v2.setCell ⟨v0.heap.size, 0, none⟩ (.string r.id)).setCell ⟨v0.heap.size, 1, none⟩ (.bool r.deny)) (v0.heap.size) 37 #[.string r.id, .bool r.deny, .slice none 0 0, .slice none 0 0, .slice none 0 0]) := Lib.hid (by have := me1.out.put 1 (.bool r.deny); simpa using this)
          have ot2 := Lib.hid (ot1.out.keep (Below.heap_setCell (v2.setCell ⟨v0.heap.size, 0, none⟩ (.string r.id)) ⟨v0.heap.size, 1, none⟩ (.bool r.deny) _ (by show v1.heap.size ≠ v0.heap.size; omega)))
          have bb2 := Lib.hid (bb1.out.setCell (p := ⟨v0.heap.size, 1, none⟩) (by show wr.heap.size ≤ v0.heap.size; omega) (.bool r.deny))
          have sc3 := me2.out.cell 2
          have sf3 := me2.out.frozen 2
          have me3 : Hid (Ob (((v2.setCell ⟨v0.heap.size, 0, none⟩ (.string r.id)).setCell ⟨v0.heap.size, 1, none⟩ (.bool r.deny)).setCell ⟨v0.heap.size, 2, none⟩ (.slice C1 m1 c1)) (v0.heap.size) 37 #[.string r.id, .bool r.deny, .slice C1 m1 c1, .slice none 0 0, .slice none 0 0]) := Lib.hid (by have := me2.out.put 2 (.slice C1 m1 c1); simpa using this)
          have ot3 := Lib.hid (ot2.out.keep (Below.heap_setCell ((v2.setCell ⟨v0.heap.size, 0, none⟩ (.string r.id)).setCell ⟨v0.heap.size, 1, none⟩ (.bool r.deny)) ⟨v0.heap.size, 2, none⟩ (.slice C1 m1 c1) _ (by show v1.heap.size ≠ v0.heap.size; omega)))
          have bb3 := Lib.hid (bb2.out.setCell (p := ⟨v0.heap.size, 2, none⟩) (by show wr.heap.size ≤ v0.heap.size; omega) (.slice C1 m1 c1))
          have sc4 := me3.out.cell 3
          have sf4 := me3.out.frozen 3
          have me4 : Hid (Ob ((((v2.setCell ⟨v0.heap.size, 0, none⟩ (.string r.id)).setCell ⟨v0.heap.size, 1, none⟩ (.bool r.deny)).setCell ⟨v0.heap.size, 2, none⟩ (.slice C1 m1 c1)).setCell ⟨v0.heap.size, 3, none⟩ (.slice C2 m2 c2)) (v0.heap.size) 37 #[.string r.id, .bool r.deny, .slice C1 m1 c1, .slice C2 m2 c2, .slice none 0 0]) := Lib.hid (by have := me3.out.put 3 (.slice C2 m2 c2); simpa using this)
          have ot4 := Lib.hid (ot3.out.keep (Below.heap_setCell (((v2.setCell ⟨v0.heap.size, 0, none⟩ (.string r.id)).setCell ⟨v0.heap.size, 1, none⟩ (.bool r.deny)).setCell ⟨v0.heap.size, 2, none⟩ (.slice C1 m1 c1)) ⟨v0.heap.size, 3, none⟩ (.slice C2 m2 c2) _ (by show v1.heap.size ≠ v0.heap.size; omega)))
          have bb4 := Lib.hid (bb3.out.setCell (p := ⟨v0.heap.size, 3, none⟩) (by show wr.heap.size ≤ v0.heap.size; omega) (.slice C2 m2 c2))
          have sc5 := me4.out.cell 4
          have sf5 := me4.out.frozen 4
          have me5 : Hid (Ob (((((v2.setCell ⟨v0.heap.size, 0, none⟩ (.string r.id)).setCell ⟨v0.heap.size, 1, none⟩ (.bool r.deny)).setCell ⟨v0.heap.size, 2, none⟩ (.slice C1 m1 c1)).setCell ⟨v0.heap.size, 3, none⟩ (.slice C2 m2 c2)).setCell ⟨v0.heap.size, 4, none⟩ (.slice C3 m3 c3)) (v0.heap.size) 37 #[.string r.id, .bool r.deny, .slice C1 m1 c1, .slice C2 m2 c2, .slice C3 m3 c3]) := Lib.hid (by have := me4.out.put 4 (.slice C3 m3 c3); simpa using this)
          have ot5 := Lib.hid (ot4.out.keep (Below.heap_setCell ((((v2.setCell ⟨v0.heap.size, 0, none⟩ (.string r.id)).setCell ⟨v0.heap.size, 1, none⟩ (.bool r.deny)).setCell ⟨v0.heap.size, 2, none⟩ (.slice C1 m1 c1)).setCell ⟨v0.heap.size, 3, none⟩ (.slice C2 m2 c2)) ⟨v0.heap.size, 4, none⟩ (.slice C3 m3 c3) _ (by show v1.heap.size ≠ v0.heap.size; omega)))
          have bb5 := Lib.hid (bb4.out.setCell (p := ⟨v0.heap.size, 4, none⟩) (by show wr.heap.size ≤ v0.heap.size; omega) (.slice C3 m3 c3))
          refine HeadW_ready (rs := [12]) (by kernel_rfl) rfl rfl ?_
          refine AllW.cons rfl (fun K hK => ?_) AllW.nil
          go_simp
          refine hK _ _ bb5.out ?_
          clear hK K
          intro _
          refine ⟨by kernel_rfl, ?_⟩
          simp only [List.drop_succ_cons, List.drop_zero]
          have sc6 := ot5.out.cell 0
          have sf6 := ot5.out.frozen 0
          have me6 : Hid (Ob ((((((v2.setCell ⟨v0.heap.size, 0, none⟩ (.string r.id)).setCell ⟨v0.heap.size, 1, none⟩ (.bool r.deny)).setCell ⟨v0.heap.size, 2, none⟩ (.slice C1 m1 c1)).setCell ⟨v0.heap.size, 3, none⟩ (.slice C2 m2 c2)).setCell ⟨v0.heap.size, 4, none⟩ (.slice C3 m3 c3)).setCell ⟨v1.heap.size, 0, none⟩ (.string r.id)) (v1.heap.size) 37 #[.string r.id, .bool false, .slice none 0 0, .slice none 0 0, .slice none 0 0]) := Lib.hid (by have := ot5.out.put 0 (.string r.id); simpa using this)
          have ot6 := Lib.hid (me5.out.keep (Below.heap_setCell (((((v2.setCell ⟨v0.heap.size, 0, none⟩ (.string r.id)).setCell ⟨v0.heap.size, 1, none⟩ (.bool r.deny)).setCell ⟨v0.heap.size, 2, none⟩ (.slice C1 m1 c1)).setCell ⟨v0.heap.size, 3, none⟩ (.slice C2 m2 c2)).setCell ⟨v0.heap.size, 4, none⟩ (.slice C3 m3 c3)) ⟨v1.heap.size, 0, none⟩ (.string r.id) _ (by show v0.heap.size ≠ v1.heap.size; omega)))
          have bb6 := Lib.hid (bb5.out.setCell (p := ⟨v1.heap.size, 0, none⟩) (by show wr.heap.size ≤ v1.heap.size; omega) (.string r.id))
          have sc7 := me6.out.cell 1
          have sf7 := me6.out.frozen 1
          have me7 : Hid (Ob (((((((v2.setCell ⟨v0.heap.size, 0, none⟩ (.string r.id)).setCell ⟨v0.heap.size, 1, none⟩ (.bool r.deny)).setCell ⟨v0.heap.size, 2, none⟩ (.slice C1 m1 c1)).setCell ⟨v0.heap.size, 3, none⟩ (.slice C2 m2 c2)).setCell ⟨v0.heap.size, 4, none⟩ (.slice C3 m3 c3)).setCell ⟨v1.heap.size, 0, none⟩ (.string r.id)).setCell ⟨v1.heap.size, 1, none⟩ (.bool r.deny)) (v1.heap.size) 37 #[.string r.id, .bool r.deny, .slice none 0 0, .slice none 0 0, .slice none 0 0]) := Lib.hid (by have := me6.out.put 1 (.bool r.deny); simpa using this)
          have ot7 := Lib.hid (ot6.out.keep (Below.heap_setCell ((((((v2.setCell ⟨v0.heap.size, 0, none⟩ (.string r.id)).setCell ⟨v0.heap.size, 1, none⟩ (.bool r.deny)).setCell ⟨v0.heap.size, 2, none⟩ (.slice C1 m1 c1)).setCell ⟨v0.heap.size, 3, none⟩ (.slice C2 m2 c2)).setCell ⟨v0.heap.size, 4, none⟩ (.slice C3 m3 c3)).setCell ⟨v1.heap.size, 0, none⟩ (.string r.id)) ⟨v1.heap.size, 1, none⟩ (.bool r.deny) _ (by show v0.heap.size ≠ v1.heap.size; omega)))
          have bb7 := Lib.hid (bb6.out.setCell (p := ⟨v1.heap.size, 1, none⟩) (by show wr.heap.size ≤ v1.heap.size; omega) (.bool r.deny))
          have sc8 := me7.out.cell 2
          have sf8 := me7.out.frozen 2
          have me8 : Hid (Ob ((((((((v2.setCell ⟨v0.heap.size, 0, none⟩ (.string r.id)).setCell ⟨v0.heap.size, 1, none⟩ (.bool r.deny)).setCell ⟨v0.heap.size, 2, none⟩ (.slice C1 m1 c1)).setCell ⟨v0.heap.size, 3, none⟩ (.slice C2 m2 c2)).setCell ⟨v0.heap.size, 4, none⟩ (.slice C3 m3 c3)).setCell ⟨v1.heap.size, 0, none⟩ (.string r.id)).setCell ⟨v1.heap.size, 1, none⟩ (.bool r.deny)).setCell ⟨v1.heap.size, 2, none⟩ (.slice D1 m1 d1)) (v1.heap.size) 37 #[.string r.id, .bool r.deny, .slice D1 m1 d1, .slice none 0 0, .slice none 0 0]) := Lib.hid (by have := me7.out.put 2 (.slice D1 m1 d1); simpa using this)
          have ot8 := Lib.hid (ot7.out.keep (Below.heap_setCell (((((((v2.setCell ⟨v0.heap.size, 0, none⟩ (.string r.id)).setCell ⟨v0.heap.size, 1, none⟩ (.bool r.deny)).setCell ⟨v0.heap.size, 2, none⟩ (.slice C1 m1 c1)).setCell ⟨v0.heap.size, 3, none⟩ (.slice C2 m2 c2)).setCell ⟨v0.heap.size, 4, none⟩ (.slice C3 m3 c3)).setCell ⟨v1.heap.size, 0, none⟩ (.string r.id)).setCell ⟨v1.heap.size, 1, none⟩ (.bool r.deny)) ⟨v1.heap.size, 2, none⟩ (.slice D1 m1 d1) _ (by show v0.heap.size ≠ v1.heap.size; omega)))
          have bb8 := Lib.hid (bb7.out.setCell (p := ⟨v1.heap.size, 2, none⟩) (by show wr.heap.size ≤ v1.heap.size; omega) (.slice D1 m1 d1))
          have sc9 := me8.out.cell 3
          have sf9 := me8.out.frozen 3
          have me9 : Hid (Ob (((((((((v2.setCell ⟨v0.heap.size, 0, none⟩ (.string r.id)).setCell ⟨v0.heap.size, 1, none⟩ (.bool r.deny)).setCell ⟨v0.heap.size, 2, none⟩ (.slice C1 m1 c1)).setCell ⟨v0.heap.size, 3, none⟩ (.slice C2 m2 c2)).setCell ⟨v0.heap.size, 4, none⟩ (.slice C3 m3 c3)).setCell ⟨v1.heap.size, 0, none⟩ (.string r.id)).setCell ⟨v1.heap.size, 1, none⟩ (.bool r.deny)).setCell ⟨v1.heap.size, 2, none⟩ (.slice D1 m1 d1)).setCell ⟨v1.heap.size, 3, none⟩ (.slice D2 m2 d2)) (v1.heap.size) 37 #[.string r.id, .bool r.deny, .slice D1 m1 d1, .slice D2 m2 d2, .slice none 0 0]) := Lib.hid (by have := me8.out.put 3 (.slice D2 m2 d2); simpa using this)
          have ot9 := Lib.hid (ot8.out.keep (Below.heap_setCell ((((((((v2.setCell ⟨v0.heap.size, 0, none⟩ (.string r.id)).setCell ⟨v0.heap.size, 1, none⟩ (.bool r.deny)).setCell ⟨v0.heap.size, 2, none⟩ (.slice C1 m1 c1)).setCell ⟨v0.heap.size, 3, none⟩ (.slice C2 m2 c2)).setCell ⟨v0.heap.size, 4, none⟩ (.slice C3 m3 c3)).setCell ⟨v1.heap.size, 0, none⟩ (.string r.id)).setCell ⟨v1.heap.size, 1, none⟩ (.bool r.deny)).setCell ⟨v1.heap.size, 2, none⟩ (.slice D1 m1 d1)) ⟨v1.heap.size, 3, none⟩ (.slice D2 m2 d2) _ (by show v0.heap.size ≠ v1.heap.size; omega)))
          have bb9 := Lib.hid (bb8.out.setCell (p := ⟨v1.heap.size, 3, none⟩) (by show wr.heap.size ≤ v1.heap.size; omega) (.slice D2 m2 d2))
          have sc10 := me9.out.cell 4
          have sf10 := me9.out.frozen 4
          have me10 : Hid (Ob ((((((((((v2.setCell ⟨v0.heap.size, 0, none⟩ (.string r.id)).setCell ⟨v0.heap.size, 1, none⟩ (.bool r.deny)).setCell ⟨v0.heap.size, 2, none⟩ (.slice C1 m1 c1)).setCell ⟨v0.heap.size, 3, none⟩ (.slice C2 m2 c2)).setCell ⟨v0.heap.size, 4, none⟩ (.slice C3 m3 c3)).setCell ⟨v1.heap.size, 0, none⟩ (.string r.id)).setCell ⟨v1.heap.size, 1, none⟩ (.bool r.deny)).setCell ⟨v1.heap.size, 2, none⟩ (.slice D1 m1 d1)).setCell ⟨v1.heap.size, 3, none⟩ (.slice D2 m2 d2)).setCell ⟨v1.heap.size, 4, none⟩ (.slice D3 m3 d3)) (v1.heap.size) 37 #[.string r.id, .bool r.deny, .slice D1 m1 d1, .slice D2 m2 d2, .slice D3 m3 d3]) := Lib.hid (by have := me9.out.put 4 (.slice D3 m3 d3); simpa using this)
          have ot10 := Lib.hid (ot9.out.keep (Below.heap_setCell (((((((((v2.setCell ⟨v0.heap.size, 0, none⟩ (.string r.id)).setCell ⟨v0.heap.size, 1, none⟩ (.bool r.deny)).setCell ⟨v0.heap.size, 2, none⟩ (.slice C1 m1 c1)).setCell ⟨v0.heap.size, 3, none⟩ (.slice C2 m2 c2)).setCell ⟨v0.heap.size, 4, none⟩ (.slice C3 m3 c3)).setCell ⟨v1.heap.size, 0, none⟩ (.string r.id)).setCell ⟨v1.heap.size, 1, none⟩ (.bool r.deny)).setCell ⟨v1.heap.size, 2, none⟩ (.slice D1 m1 d1)).setCell ⟨v1.heap.size, 3, none⟩ (.slice D2 m2 d2)) ⟨v1.heap.size, 4, none⟩ (.slice D3 m3 d3) _ (by show v0.heap.size ≠ v1.heap.size; omega)))
          have bb10 := Lib.hid (bb9.out.setCell (p := ⟨v1.heap.size, 4, none⟩) (by show wr.heap.size ≤ v1.heap.size; omega) (.slice D3 m3 d3))
          go_wp2_with fail
          go_meet
          case rel => exact ⟨_, _, rfl, rfl, ot10.out, me10.out, bb10.out⟩
        · go_simp
          have hb : Below v0.heap.size v0 (v0.alloc (.cells #[.string ⟨#[]⟩, .bool false, .slice none 0 0, .slice none 0 0, .slice none 0 0] 37)) := (Below.refl _ _).alloc (Nat.le_refl _) _
          have S1 := Lib.hid (S0.out.trans (hb.mono LB0))
          have Ea := Lib.hid (Ob.made v0 37 #[.string ⟨#[]⟩, .bool false, .slice none 0 0, .slice none 0 0, .slice none 0 0])
          have Xa : v0.heap.size < (v0.alloc (.cells #[.string ⟨#[]⟩, .bool false, .slice none 0 0, .slice none 0 0, .slice none 0 0] 37)).heap.size := by rw [size_al]; omega
          refine hK _ _ S1.out ?_
          clear hK K hb
          generalize v0.alloc (.cells #[.string ⟨#[]⟩, .bool false, .slice none 0 0, .slice none 0 0, .slice none 0 0] 37) = v1 at *
          have LB1 : wr.heap.size ≤ v1.heap.size := by omega
          refine HeadW_ready (rs := [10]) (by kernel_rfl) rfl rfl ?_
          refine AllW.cons rfl (fun K hK => ?_) AllW.nil
          go_simp
          have hb : Below v1.heap.size v1 (v1.alloc (.cells #[.string ⟨#[]⟩, .bool false, .slice none 0 0, .slice none 0 0, .slice none 0 0] 37)) := (Below.refl _ _).alloc (Nat.le_refl _) _
          have S2 := Lib.hid (S1.out.trans (hb.mono LB1))
          have E2 := Lib.hid (Ea.out.below hb Ea.out.lt)
          have E1 := Lib.hid (Ob.made v1 37 #[.string ⟨#[]⟩, .bool false, .slice none 0 0, .slice none 0 0, .slice none 0 0])
          refine hK _ _ S2.out ?_
          clear hK K hb
          generalize v1.alloc (.cells #[.string ⟨#[]⟩, .bool false, .slice none 0 0, .slice none 0 0, .slice none 0 0] 37) = v2 at *
          have sc1 := E1.out.cell 0
          have sf1 := E1.out.frozen 0
          have me1 : Hid (Ob (v2.setCell ⟨v1.heap.size, 0, none⟩ (.string r.id)) (v1.heap.size) 37 #[.string r.id, .bool false, .slice none 0 0, .slice none 0 0, .slice none 0 0]) := Lib.hid (by have := E1.out.put 0 (.string r.id); simpa using this)
          have ot1 := Lib.hid (E2.out.keep (Below.heap_setCell v2 ⟨v1.heap.size, 0, none⟩ (.string r.id) _ (by show v0.heap.size ≠ v1.heap.size; omega)))
          have bb1 := Lib.hid (S2.out.setCell (p := ⟨v1.heap.size, 0, none⟩) (by show wr.heap.size ≤ v1.heap.size; omega) (.string r.id))
          have sc2 := me1.out.cell 1
          have sf2 := me1.out.frozen 1
          have me2 : Hid (Ob ((v2.setCell ⟨v1.heap.size, 0, none⟩ (.string r.id)).setCell ⟨v1.heap.size, 1, none⟩ (.bool r.deny)) (v1.heap.size) 37 #[.string r.id, .bool r.deny, .slice none 0 0, .slice none 0 0, .slice none 0 0]) := Lib.hid (by have := me1.out.put 1 (.bool r.deny); simpa using this)
          have ot2 := Lib.hid (ot1.out.keep (Below.heap_setCell (v2.setCell ⟨v1.heap.size, 0, none⟩ (.string r.id)) ⟨v1.heap.size, 1, none⟩ (.bool r.deny) _ (by show v0.heap.size ≠ v1.heap.size; omega)))
          have bb2 := Lib.hid (bb1.out.setCell (p := ⟨v1.heap.size, 1, none⟩) (by show wr.heap.size ≤ v1.heap.size; omega) (.bool r.deny))
          have sc3 := me2.out.cell 2
          have sf3 := me2.out.frozen 2
          have me3 : Hid (Ob (((v2.setCell ⟨v1.heap.size, 0, none⟩ (.string r.id)).setCell ⟨v1.heap.size, 1, none⟩ (.bool r.deny)).setCell ⟨v1.heap.size, 2, none⟩ (.slice C1 m1 c1)) (v1.heap.size) 37 #[.string r.id, .bool r.deny, .slice C1 m1 c1, .slice none 0 0, .slice none 0 0]) := Lib.hid (by have := me2.out.put 2 (.slice C1 m1 c1); simpa using this)
          have ot3 := Lib.hid (ot2.out.keep (Below.heap_setCell ((v2.setCell ⟨v1.heap.size, 0, none⟩ (.string r.id)).setCell ⟨v1.heap.size, 1, none⟩ (.bool r.deny)) ⟨v1.heap.size, 2, none⟩ (.slice C1 m1 c1) _ (by show v0.heap.size ≠ v1.heap.size; omega)))
          have bb3 := Lib.hid (bb2.out.setCell (p := ⟨v1.heap.size, 2, none⟩) (by show wr.heap.size ≤ v1.heap.size; omega) (.slice C1 m1 c1))
          have sc4 := me3.out.cell 3
          have sf4 := me3.out.frozen 3
          have me4 : Hid (Ob ((((v2.setCell ⟨v1.heap.size, 0, none⟩ (.string r.id)).setCell ⟨v1.heap.size, 1, none⟩ (.bool r.deny)).setCell ⟨v1.heap.size, 2, none⟩ (.slice C1 m1 c1)).setCell ⟨v1.heap.size, 3, none⟩ (.slice C2 m2 c2)) (v1.heap.size) 37 #[.string r.id, .bool r.deny, .slice C1 m1 c1, .slice C2 m2 c2, .slice none 0 0]) := Lib.hid (by have := me3.out.put 3 (.slice C2 m2 c2); simpa using this)
          have ot4 := Lib.hid (ot3.out.keep (Below.heap_setCell (((v2.setCell ⟨v1.heap.size, 0, none⟩ (.string r.id)).setCell ⟨v1.heap.size, 1, none⟩ (.bool r.deny)).setCell ⟨v1.heap.size, 2, none⟩ (.slice C1 m1 c1)) ⟨v1.heap.size, 3, none⟩ (.slice C2 m2 c2) _ (by show v0.heap.size ≠ v1.heap.size; omega)))
          have bb4 := Lib.hid (bb3.out.setCell (p := ⟨v1.heap.size, 3, none⟩) (by show wr.heap.size ≤ v1.heap.size; omega) (.slice C2 m2 c2))
          have sc5 := me4.out.cell 4
          have sf5 := me4.out.frozen 4
          have me5 : Hid (Ob (((((v2.setCell ⟨v1.heap.size, 0, none⟩ (.string r.id)).setCell ⟨v1.heap.size, 1, none⟩ (.bool r.deny)).setCell ⟨v1.heap.size, 2, none⟩ (.slice C1 m1 c1)).setCell ⟨v1.heap.size, 3, none⟩ (.slice C2 m2 c2)).setCell ⟨v1.heap.size, 4, none⟩ (.slice C3 m3 c3)) (v1.heap.size) 37 #[.string r.id, .bool r.deny, .slice C1 m1 c1, .slice C2 m2 c2, .slice C3 m3 c3]) := Lib.hid (by have := me4.out.put 4 (.slice C3 m3 c3); simpa using this)
          have ot5 := Lib.hid (ot4.out.keep (Below.heap_setCell ((((v2.setCell ⟨v1.heap.size, 0, none⟩ (.string r.id)).setCell ⟨v1.heap.size, 1, none⟩ (.bool r.deny)).setCell ⟨v1.heap.size, 2, none⟩ (.slice C1 m1 c1)).setCell ⟨v1.heap.size, 3, none⟩ (.slice C2 m2 c2)) ⟨v1.heap.size, 4, none⟩ (.slice C3 m3 c3) _ (by show v0.heap.size ≠ v1.heap.size; omega)))
          have bb5 := Lib.hid (bb4.out.setCell (p := ⟨v1.heap.size, 4, none⟩) (by show wr.heap.size ≤ v1.heap.size; omega) (.slice C3 m3 c3))
          refine HeadW_ready (rs := [12]) (by kernel_rfl) rfl rfl ?_
          refine AllW.cons rfl (fun K hK => ?_) AllW.nil
          go_simp
          refine hK _ _ bb5.out ?_
          clear hK K
          intro _
          refine ⟨by kernel_rfl, ?_⟩
          simp only [List.drop_succ_cons, List.drop_zero]
          have sc6 := ot5.out.cell 0
          have sf6 := ot5.out.frozen 0
          have me6 : Hid (Ob ((((((v2.setCell ⟨v1.heap.size, 0, none⟩ (.string r.id)).setCell ⟨v1.heap.size, 1, none⟩ (.bool r.deny)).setCell ⟨v1.heap.size, 2, none⟩ (.slice C1 m1 c1)).setCell ⟨v1.heap.size, 3, none⟩ (.slice C2 m2 c2)).setCell ⟨v1.heap.size, 4, none⟩ (.slice C3 m3 c3)).setCell ⟨v0.heap.size, 0, none⟩ (.string r.id)) (v0.heap.size) 37 #[.string r.id, .bool false, .slice none 0 0, .slice none 0 0, .slice none 0 0]) := Lib.hid (by have := ot5.out.put 0 (.string r.id); simpa using this)
          have ot6 := Lib.hid (me5.out.keep (Below.heap_setCell (((((v2.setCell ⟨v1.heap.size, 0, none⟩ (.string r.id)).setCell ⟨v1.heap.size, 1, none⟩ (.bool r.deny)).setCell ⟨v1.heap.size, 2, none⟩ (.slice C1 m1 c1)).setCell ⟨v1.heap.size, 3, none⟩ (.slice C2 m2 c2)).setCell ⟨v1.heap.size, 4, none⟩ (.slice C3 m3 c3)) ⟨v0.heap.size, 0, none⟩ (.string r.id) _ (by show v1.heap.size ≠ v0.heap.size; omega)))
          have bb6 := Lib.hid (bb5.out.setCell (p := ⟨v0.heap.size, 0, none⟩) (by show wr.heap.size ≤ v0.heap.size; omega) (.string r.id))
          have sc7 := me6.out.cell 1
          have sf7 := me6.out.frozen 1
          have me7 : Hid (Ob (((((((v2.setCell ⟨v1.heap.size, 0, none⟩ (.string r.id)).setCell ⟨v1.heap.size, 1, none⟩ (.bool r.deny)).setCell ⟨v1.heap.size, 2, none⟩ (.slice C1 m1 c1)).setCell ⟨v1.heap.size, 3, none⟩ (.slice C2 m2 c2)).setCell ⟨v1.heap.size, 4, none⟩ (.slice C3 m3 c3)).setCell ⟨v0.heap.size, 0, none⟩ (.string r.id)).setCell ⟨v0.heap.size, 1, none⟩ (.bool r.deny)) (v0.heap.size) 37 #[.string r.id, .bool r.deny, .slice none 0 0, .slice none 0 0, .slice none 0 0]) := Lib.hid (by have := me6.out.put 1 (.bool r.deny); simpa using this)
          have ot7 := Lib.hid (ot6.out.keep (Below.heap_setCell ((((((v2.setCell ⟨v1.heap.size, 0, none⟩ (.string r.id)).setCell ⟨v1.heap.size, 1, none⟩ (.bool r.deny)).setCell ⟨v1.heap.size, 2, none⟩ (.slice C1 m1 c1)).setCell ⟨v1.heap.size, 3, none⟩ (.slice C2 m2 c2)).setCell ⟨v1.heap.size, 4, none⟩ (.slice C3 m3 c3)).setCell ⟨v0.heap.size, 0, none⟩ (.string r.id)) ⟨v0.heap.size, 1, none⟩ (.bool r.deny) _ (by show v1.heap.size ≠ v0.heap.size; omega)))
          have bb7 := Lib.hid (bb6.out.setCell (p := ⟨v0.heap.size, 1, none⟩) (by show wr.heap.size ≤ v0.heap.size; omega) (.bool r.deny))
          have sc8 := me7.out.cell 2
          have sf8 := me7.out.frozen 2
          have me8 : Hid (Ob ((((((((v2.setCell ⟨v1.heap.size, 0, none⟩ (.string r.id)).setCell ⟨v1.heap.size, 1, none⟩ (.bool r.deny)).setCell ⟨v1.heap.size, 2, none⟩ (.slice C1 m1 c1)).setCell ⟨v1.heap.size, 3, none⟩ (.slice C2 m2 c2)).setCell ⟨v1.heap.size, 4, none⟩ (.slice C3 m3 c3)).setCell ⟨v0.heap.size, 0, none⟩ (.string r.id)).setCell ⟨v0.heap.size, 1, none⟩ (.bool r.deny)).setCell ⟨v0.heap.size, 2, none⟩ (.slice D1 m1 d1)) (v0.heap.size) 37 #[.string r.id, .bool r.deny, .slice D1 m1 d1, .slice none 0 0, .slice none 0 0]) := Lib.hid (by have := me7.out.put 2 (.slice D1 m1 d1); simpa using this)
          have ot8 := Lib.hid (ot7.out.keep (Below.heap_setCell (((((((v2.setCell ⟨v1.heap.size, 0, none⟩ (.string r.id)).setCell ⟨v1.heap.size, 1, none⟩ (.bool r.deny)).setCell ⟨v1.heap.size, 2, none⟩ (.slice C1 m1 c1)).setCell ⟨v1.heap.size, 3, none⟩ (.slice C2 m2 c2)).setCell ⟨v1.heap.size, 4, none⟩ (.slice C3 m3 c3)).setCell ⟨v0.heap.size, 0, none⟩ (.string r.id)).setCell ⟨v0.heap.size, 1, none⟩ (.bool r.deny)) ⟨v0.heap.size, 2, none⟩ (.slice D1 m1 d1) _ (by show v1.heap.size ≠ v0.heap.size; omega)))
          have bb8 := Lib.hid (bb7.out.setCell (p := ⟨v0.heap.size, 2, none⟩) (by show wr.heap.size ≤ v0.heap.size; omega) (.slice D1 m1 d1))
          have sc9 := me8.out.cell 3
          have sf9 := me8.out.frozen 3
          have me9 : Hid (Ob (((((((((v2.setCell ⟨v1.heap.size, 0, none⟩ (.string r.id)).setCell ⟨v1.heap.size, 1, none⟩ (.bool r.deny)).setCell ⟨v1.heap.size, 2, none⟩ (.slice C1 m1 c1)).setCell ⟨v1.heap.size, 3, none⟩ (.slice C2 m2 c2)).setCell ⟨v1.heap.size, 4, none⟩ (.slice C3 m3 c3)).setCell ⟨v0.heap.size, 0, none⟩ (.string r.id)).setCell ⟨v0.heap.size, 1, none⟩ (.bool r.deny)).setCell ⟨v0.heap.size, 2, none⟩ (.slice D1 m1 d1)).setCell ⟨v0.heap.size, 3, none⟩ (.slice D2 m2 d2)) (v0.heap.size) 37 #[.string r.id, .bool r.deny, .slice D1 m1 d1, .slice D2 m2 d2, .slice none 0 0]) := Lib.hid (by have := me8.out.put 3 (.slice D2 m2 d2); simpa using this)
          have ot9 := Lib.hid (ot8.out.keep (Below.heap_setCell ((((((((v2.setCell ⟨v1.heap.size, 0, none⟩ (.string r.id)).setCell ⟨v1.heap.size, 1, none⟩ (.bool r.deny)).setCell ⟨v1.heap.size, 2, none⟩ (.slice C1 m1 c1)).setCell ⟨v1.heap.size, 3, none⟩ (.slice C2 m2 c2)).setCell ⟨v1.heap.size, 4, none⟩ (.slice C3 m3 c3)).setCell ⟨v0.heap.size, 0, none⟩ (.string r.id)).setCell ⟨v0.heap.size, 1, none⟩ (.bool r.deny)).setCell ⟨v0.heap.size, 2, none⟩ (.slice D1 m1 d1)) ⟨v0.heap.size, 3, none⟩ (.slice D2 m2 d2) _ (by show v1.heap.size ≠ v0.heap.size; omega)))
          have bb9 := Lib.hid (bb8.out.setCell (p := ⟨v0.heap.size, 3, none⟩) (by show wr.heap.size ≤ v0.heap.size; omega) (.slice D2 m2 d2))
          have sc10 := me9.out.cell 4
          have sf10 := me9.out.frozen 4
          have me10 : Hid (Ob ((((((((((v2.setCell ⟨v1.heap.size, 0, none⟩ (.string r.id)).setCell ⟨v1.heap.size, 1, none⟩ (.bool r.deny)).setCell ⟨v1.heap.size, 2, none⟩ (.slice C1 m1 c1)).setCell ⟨v1.heap.size, 3, none⟩ (.slice C2 m2 c2)).setCell ⟨v1.heap.size, 4, none⟩ (.slice C3 m3 c3)).setCell ⟨v0.heap.size, 0, none⟩ (.string r.id)).setCell ⟨v0.heap.size, 1, none⟩ (.bool r.deny)).setCell ⟨v0.heap.size, 2, none⟩ (.slice D1 m1 d1)).setCell ⟨v0.heap.size, 3, none⟩ (.slice D2 m2 d2)).setCell ⟨v0.heap.size, 4, none⟩ (.slice D3 m3 d3)) (v0.heap.size) 37 #[.string r.id, .bool r.deny, .slice D1 m1 d1, .slice D2 m2 d2, .slice D3 m3 d3]) := Lib.hid (by have := me9.out.put 4 (.slice D3 m3 d3); simpa using this)
          have ot10 := Lib.hid (ot9.out.keep (Below.heap_setCell (((((((((v2.setCell ⟨v1.heap.size, 0, none⟩ (.string r.id)).setCell ⟨v1.heap.size, 1, none⟩ (.bool r.deny)).setCell ⟨v1.heap.size, 2, none⟩ (.slice C1 m1 c1)).setCell ⟨v1.heap.size, 3, none⟩ (.slice C2 m2 c2)).setCell ⟨v1.heap.size, 4, none⟩ (.slice C3 m3 c3)).setCell ⟨v0.heap.size, 0, none⟩ (.string r.id)).setCell ⟨v0.heap.size, 1, none⟩ (.bool r.deny)).setCell ⟨v0.heap.size, 2, none⟩ (.slice D1 m1 d1)).setCell ⟨v0.heap.size, 3, none⟩ (.slice D2 m2 d2)) ⟨v0.heap.size, 4, none⟩ (.slice D3 m3 d3) _ (by show v1.heap.size ≠ v0.heap.size; omega)))
          have bb10 := Lib.hid (bb9.out.setCell (p := ⟨v0.heap.size, 4, none⟩) (by show wr.heap.size ≤ v0.heap.size; omega) (.slice D3 m3 d3))
          go_wp2_with fail
          go_meet
          case rel => exact ⟨_, _, rfl, rfl, ot10.out, me10.out, bb10.out⟩
      case rest =>
        obtain ⟨g1, g2, rfl, rfl, o1, o2, hb⟩ := hcut
        have BA4 := Lib.hid (below_step BA3.out hb)
        have HB4 := Lib.hid (below_step HBR.out hb)
        have M1 := Lib.hid (L1.out.keep (Kept.all hb R) (fun _ h _ => h))
        have M1' := Lib.hid (L1'.out.keep (Kept.all hb R') (fun _ h _ => h))
        have M2 := Lib.hid (L2.out.keep (Kept.all hb R) (fun _ h _ => h))
        have M2' := Lib.hid (L2'.out.keep (Kept.all hb R') (fun _ h _ => h))
        have M3 := Lib.hid (L3.out.keep (Kept.all hb R) (fun _ h _ => h))
        have M3' := Lib.hid (L3'.out.keep (Kept.all hb R') (fun _ h _ => h))
        have P1 := Lib.hid o1
        have P2 := Lib.hid o2
        clear hb o1 o2 L1 L2 L3 L1' L2' L3' KF BA3 HBR
        have ra00 := P1.out.cell 0
        have rb00 := P2.out.cell 0
        have ra01 := P1.out.cell 1
        have rb01 := P2.out.cell 1
        have ra02 := P1.out.cell 2
        have rb02 := P2.out.cell 2
        have ra03 := P1.out.cell 3
        have rb03 := P2.out.cell 3
        have ra04 := P1.out.cell 4
        have rb04 := P2.out.cell 4
        go_wp2_with fail
        go_at_call 16
        refine (same_tgt M1.out M1'.out).mono ?_
        rintro e u1 ⟨rfl, hb⟩
        have BA5 := Lib.hid (below_step BA4.out hb)
        have HB5 := Lib.hid (below_step HB4.out hb)
        have N2 := Lib.hid (M2.out.keep (Kept.all hb R) (fun _ h _ => h))
        have N2' := Lib.hid (M2'.out.keep (Kept.all hb R') (fun _ h _ => h))
        have N3 := Lib.hid (M3.out.keep (Kept.all hb R) (fun _ h _ => h))
        have N3' := Lib.hid (M3'.out.keep (Kept.all hb R') (fun _ h _ => h))
        have P3 := Lib.hid (P1.out.below hb P1.out.lt)
        have P4 := Lib.hid (P2.out.below hb P2.out.lt)
        clear hb M1 M1' M2 M2' M3 M3' P1 P2 BA4 HB4
        have ra10 := P3.out.cell 0
        have rb10 := P4.out.cell 0
        have ra11 := P3.out.cell 1
        have rb11 := P4.out.cell 1
        have ra12 := P3.out.cell 2
        have rb12 := P4.out.cell 2
        have ra13 := P3.out.cell 3
        have rb13 := P4.out.cell 3
        have ra14 := P3.out.cell 4
        have rb14 := P4.out.cell 4
        go_wp2_with fail
        go_at_call 18
        refine (same_nod N2.out N2'.out).mono ?_
        rintro e u2 ⟨rfl, hb⟩
        have BA6 := Lib.hid (below_step BA5.out hb)
        have HB6 := Lib.hid (below_step HB5.out hb)
        have K3 := Lib.hid (N3.out.keep (Kept.all hb R) (fun _ h _ => h))
        have K3' := Lib.hid (N3'.out.keep (Kept.all hb R') (fun _ h _ => h))
        have P5 := Lib.hid (P3.out.below hb P3.out.lt)
        have P6 := Lib.hid (P4.out.below hb P4.out.lt)
        clear hb N2 N2' N3 N3' P3 P4 BA5 HB5
        have ra20 := P5.out.cell 0
        have rb20 := P6.out.cell 0
        have ra21 := P5.out.cell 1
        have rb21 := P6.out.cell 1
        have ra22 := P5.out.cell 2
        have rb22 := P6.out.cell 2
        have ra23 := P5.out.cell 3
        have rb23 := P6.out.cell 3
        have ra24 := P5.out.cell 4
        have rb24 := P6.out.cell 4
        go_wp2_with fail
        go_at_call 17
        refine (same_dut K3.out K3'.out).mono ?_
        rintro e u3 ⟨rfl, hb⟩
        have HB7 := Lib.hid (below_step HB6.out hb)
        clear hb K3 K3' P5 P6 BA6 HB6
        go_wp2_with fail
        go_roundw
        case rel => exact ⟨k + 1, by omega, by go_num, HB7.out⟩
        case measure => simp [intOf]; omega
    · obtain rfl : k = n2 := by omega
      have z5 := PA3.out.cell 5
      have z5' := PB3.out.cell 5
      have HSW : Hid (w.heap.size + 1 < wr.heap.size) := PB3.out.lt
      go_wp2_with fail
      obtain ⟨wo, hwo⟩ : ∃ wo, wo = wr := ⟨wr, rfl⟩
      subst hwo
      go_loopw [118] (fun i wq => ∃ j : Nat, j ≤ n3 ∧ i = .int .i64 j ∧ Below wo.heap.size wo wq) (fun i _ => n3 - (intOf i).toNat)
      case atStart => exact ⟨0, Nat.zero_le _, rfl, Below.refl _ _⟩
      case round =>
        obtain ⟨j, hj, rfl, hb⟩ := hrel
        have BA4 := Lib.hid (below_step BA3.out hb)
        have HBJ := Lib.hid hb
        have PA4 := Lib.hid (PA3.out.below hb PA3.out.lt)
        have PB4 := Lib.hid (PB3.out.below hb PB3.out.lt)
        clear hb
        by_cases hlt : j < n3
        · obtain ⟨b, o, q, e, C1, m1, c1, C2, m2, c2, C3, m3, c3, C4, m4, c4, rfl, _, _, hq, hd, ⟨hid, halg⟩, ⟨x0, x1, x2, x3, x4, x5, x6⟩, ht, hn, hp, hdu⟩ := (Pls.keep HA.out.2.2.1 (Kept.all BA4.out R) (fun _ h _ => h)).at_ hlt
          obtain ⟨b', o', q', e', D1, q1, d1, D2, q2, d2, D3, q3, d3, D4, q4, d4, rfl, _, _, hq', hd', _, ⟨y0, y1, y2, y3, y4, y5, y6⟩, ht', hn', hp', hdu'⟩ := (Pls.keep HB.out.2.2.1 (Kept.all BA4.out R') (fun _ h _ => h)).at_ hlt
          obtain rfl := Option.some.inj (hq.symm.trans hq')
          obtain rfl := Rw.same_len ht ht'
          obtain rfl := Rw.same_len hn hn'
          obtain rfl := Rw.same_len hp hp'
          obtain rfl := Rw.same_len hdu hdu'
          have Q1 : Hid (∀ d os, Calls Tryd.prog 10 #[.agg #[.string q.id, .bool q.set, .int .i64 q.alg, .slice C1 m1 c1, .slice C2 m2 c2, .slice C3 m3 c3, .slice C4 m4 c4], .agg #[.string q.id, .bool q.set, .int .i64 q.alg, .slice D1 m1 d1, .slice D2 m2 d2, .slice D3 m3 d3, .slice D4 m4 d4]] (grow (redrawn wr d) os) fun e w'' => e = .returned (.bool true) ∧ ∃ p : Regrown, w'' = grow (redrawn wr p.d) p.os) := by
            have h1 := Lib.hid ht; have h2 := Lib.hid hn; have h3 := Lib.hid hp; have h4 := Lib.hid hdu
            have k1 := Lib.hid ht'; have k2 := Lib.hid hn'; have k3 := Lib.hid hp'; have k4 := Lib.hid hdu'
            exact same_q (@ih e hd) hid ⟨h1.out, h2.out, h3.out, h4.out⟩ ⟨k1.out, k2.out, k3.out, k4.out⟩
          have z6 := PA4.out.cell 5
          have z6' := PB4.out.cell 5
          have v6 := fun d os => cell_regrown z6 d os
          have v6' := fun d os => cell_regrown z6' d os
          have xx0 := fun d os => cell_regrown x0 d os
          have yy0 := fun d os => cell_regrown y0 d os
          have xx1 := fun d os => cell_regrown x1 d os
          have yy1 := fun d os => cell_regrown y1 d os
          have xx2 := fun d os => cell_regrown x2 d os
          have yy2 := fun d os => cell_regrown y2 d os
          have xx3 := fun d os => cell_regrown x3 d os
          have yy3 := fun d os => cell_regrown y3 d os
          have xx4 := fun d os => cell_regrown x4 d os
          have yy4 := fun d os => cell_regrown y4 d os
          have xx5 := fun d os => cell_regrown x5 d os
          have yy5 := fun d os => cell_regrown y5 d os
          have xx6 := fun d os => cell_regrown x6 d os
          have yy6 := fun d os => cell_regrown y6 d os
          clear hq hq' hd hd' hid halg ht hn hp hdu ht' hn' hp' hdu' z5 z5' z6 z6' x0 x1 x2 x3 x4 x5 x6 y0 y1 y2 y3 y4 y5 y6
          go_wp2_with fail
          refine wp_region_quiet_below (by kernel_rfl) (by kernel_rfl) ?_
          repeat (go_big_quiet_step ((go_at_call 10; exact Q1.out _ _)))
          refine wpQuiet_nil ?_
          intro _ hw'
          obtain ⟨⟨dq, osq⟩, hw''⟩ := hw'
          subst hw''
          have BQ2 := Lib.hid (below_regrown wr dq osq)
          clear v6 v6' Q1 xx0 yy0 xx1 yy1 xx2 yy2 xx3 yy3 xx4 yy4 xx5 yy5 xx6 yy6
          generalize grow (redrawn wr dq) osq = w5 at *
          go_wp2_with fail
          go_roundw
          case rel => exact ⟨j + 1, by omega, by go_num, HBJ.out.trans (BQ2.out.mono HBJ.out.size)⟩
          case measure => simp [intOf]; omega
        · obtain rfl : j = n3 := by omega
          clear z5 z5'
          go_wp2_with fail
          go_ret
          exact ⟨rfl, BA4.out⟩
theorem same_all : ∀ d, PSame d
  | 0 => same_step 0 (fun d' e => by omega)
  | d + 1 => same_step (d + 1) (fun d' e => by obtain rfl : d = d' := by omega
                                               exact same_all d)
end
end Go.Proofs.YtdbnaaddocahpaaDoor
/- What the rows of stage 10 lay: strconv's table and the words of package show. -/
namespace Go.Proofs.YtdbnaaddocahpaaDoor
set_option linter.unusedVariables false
open Go.RowKit

theorem cells_of_words {H : Type} {enc : TypeId × Value → H} {P : Program} {w : World} {base : Nat} {sp : Nat → Bool} {held : Bool} {fuel : Nat} {t e : TypeId} {n : Nat} {cs : List Value} {zs : List (List UInt8)} {p : List MemPlace}
    (ht : P.underlying t = some (.array n e)) (he : P.underlying e = some .string) (hce : P.cellsOf e = 1) (hct : P.cellsOf t = n)
    (h : DataW.trod enc P w base sp held fuel t cs = some (.agg (zs.map fun z => (DataW.lit (.string z) : DataW H)), p)) : cs = zs.map fun l => Value.string ⟨l.toArray⟩ := by
  cases fuel with
  | zero => simp [DataW.trod] at h
  | succ fuel =>
    simp only [DataW.trod, ht, hce, hct, Nat.mul_one] at h
    split at h
    · rename_i hl
      obtain ⟨xs, hm, hx⟩ := Option.map_eq_some_iff.1 h
      have hxs : xs.map (·.1) = zs.map fun z => (DataW.lit (.string z) : DataW H) := by
        have := congrArg Prod.fst hx
        simpa using this
      have hxl : xs.length = n := by simpa using Lib.mapM_length hm
      have hzl : zs.length = n := by
        have := congrArg List.length hxs
        simp at this
        omega
      apply List.ext_getElem?
      intro i
      by_cases hi : i < n
      · obtain ⟨b, hb, hf⟩ := Lib.mapM_at hm i i (by simp [hi])
        obtain ⟨s, hc, hx2, _⟩ := DataW.trod_string he hf
        have h1 : cs[i]? = some (.string s) := by
          have := congrArg (·[0]?) hc
          simpa [List.getElem?_take, List.getElem?_drop] using this
        have h2 : (xs.map (·.1))[i]? = some (DataW.lit (.string s.data.toList) : DataW H) := by
          rw [List.getElem?_map, hb, hx2]
          rfl
        rw [hxs] at h2
        simp only [List.getElem?_map, Option.map_eq_some_iff] at h2
        obtain ⟨z', hz', hzz⟩ := h2
        injection hzz with hzz
        injection hzz with hzz
        rw [h1, List.getElem?_map, hz', hzz]
        show some (Value.string s) = some (Value.string ⟨(bl s).toArray⟩)
        obtain ⟨⟨l⟩⟩ := s
        rfl
      · rw [List.getElem?_eq_none (by omega), List.getElem?_eq_none (by simp; omega)]
    · cases h
theorem tbl_of_laid {W : World} (h : laidMetH Tryd.prog Rows.showRunsRow.laid W) : Tbl W := by
  rw [MakeChecks.laidMetH_plain _ _ _ (by kernel_rfl)] at h
  obtain ⟨ps, ⟨g0, t0, cs0, f0, p0, q0, hg0, ht0, hv0, hd0, ⟨g1, t1, cs1, f1, p1, q1, hg1, ht1, hv1, hd1, ⟨g2, t2, cs2, f2, p2, q2, hg2, ht2, hv2, hd2, ⟨g3, t3, cs3, f3, p3, q3, hg3, ht3, hv3, hd3, ⟨g4, t4, cs4, f4, p4, q4, hg4, ht4, hv4, hd4, ⟨g5, t5, cs5, f5, p5, q5, hg5, ht5, hv5, hd5, ⟨g6, t6, cs6, f6, p6, q6, hg6, ht6, hv6, hd6, ⟨g7, t7, cs7, f7, p7, q7, hg7, ht7, hv7, hd7, _, _⟩, _⟩, _⟩, _⟩, _⟩, _⟩, _⟩, _⟩, _, _⟩ := h
  obtain rfl := Option.some.inj ((show Tryd.prog.globalNamed "internal/strconv.uint64pow10" = some 6 by kernel_rfl).symm.trans hg2)
  obtain rfl := Option.some.inj ((show (Tryd.prog.globals[6]?).map (·.type) = some 145 by kernel_rfl).symm.trans ht2)
  have hc := Lib.cells_of_tab (k := .u64) (zs := Lib.pow10Tab) (n := 20) (e := 139) Tryd.underlying145 Tryd.underlying139 (by kernel_rfl) (by kernel_rfl) hd2
  obtain rfl := Option.some.inj ((show Tryd.prog.globalNamed "bailiff/show.algorithms" = some 0 by kernel_rfl).symm.trans hg3)
  obtain rfl := Option.some.inj ((show (Tryd.prog.globals[0]?).map (·.type) = some 78 by kernel_rfl).symm.trans ht3)
  have hc3 := cells_of_words (zs := algL) (n := 7) (e := 9) Tryd.underlying78 Tryd.underlying9 (by kernel_rfl) (by kernel_rfl) hd3
  obtain rfl := Option.some.inj ((show Tryd.prog.globalNamed "bailiff/show.categories" = some 5 by kernel_rfl).symm.trans hg4)
  obtain rfl := Option.some.inj ((show (Tryd.prog.globals[5]?).map (·.type) = some 94 by kernel_rfl).symm.trans ht4)
  have hc4 := cells_of_words (zs := catL) (n := 5) (e := 9) Tryd.underlying94 Tryd.underlying9 (by kernel_rfl) (by kernel_rfl) hd4
  obtain rfl := Option.some.inj ((show Tryd.prog.globalNamed "bailiff/show.functions" = some 3 by kernel_rfl).symm.trans hg5)
  obtain rfl := Option.some.inj ((show (Tryd.prog.globals[3]?).map (·.type) = some 124 by kernel_rfl).symm.trans ht5)
  have hc5 := cells_of_words (zs := fnL) (n := 14) (e := 9) Tryd.underlying124 Tryd.underlying9 (by kernel_rfl) (by kernel_rfl) hd5
  obtain rfl := Option.some.inj ((show Tryd.prog.globalNamed "bailiff/show.comparisons" = some 4 by kernel_rfl).symm.trans hg6)
  obtain rfl := Option.some.inj ((show (Tryd.prog.globals[4]?).map (·.type) = some 128 by kernel_rfl).symm.trans ht6)
  have hc6 := cells_of_words (zs := cmpL) (n := 4) (e := 9) Tryd.underlying128 Tryd.underlying9 (by kernel_rfl) (by kernel_rfl) hd6
  obtain rfl := Option.some.inj ((show Tryd.prog.globalNamed "bailiff/show.doings" = some 1 by kernel_rfl).symm.trans hg7)
  obtain rfl := Option.some.inj ((show (Tryd.prog.globals[1]?).map (·.type) = some 94 by kernel_rfl).symm.trans ht7)
  have hc7 := cells_of_words (zs := doL) (n := 5) (e := 9) Tryd.underlying94 Tryd.underlying9 (by kernel_rfl) (by kernel_rfl) hd7
  refine ⟨?_, ?_, ?_, ?_, ?_, ?_⟩
  · unfold Tab Lib.TabIs
    rw [hv2, ← hc]
  · unfold WordsIs
    rw [hv3, ← hc3]
  · unfold WordsIs
    rw [hv4, ← hc4]
  · unfold WordsIs
    rw [hv5, ← hc5]
  · unfold WordsIs
    rw [hv6, ← hc6]
  · unfold WordsIs
    rw [hv7, ← hc7]
end Go.Proofs.YtdbnaaddocahpaaDoor
/- The rows' condition, met at the program's own start. -/
namespace Go.Proofs.YtdbnaaddocahpaaDoor
open Go.ChangeShapes Go.WideShapes Go.ChangeAt Go.WideMaps Go.WideElems Go.RowKit

theorem own : ownKnob Tryd.prog.godebug = none := by kernel_rfl
theorem laidOut : laidOutB Tryd.prog = true := by kernel_rfl

/-- The door's own heap meets the condition. -/
theorem door_met (os : Os) (args : Array Value) : laidMetH Tryd.prog Rows.showRunsRow.laid ((World.doorLaid Tryd.prog 300 os).forCall (fun _ _ => 0) ⟨#[], args, []⟩).memory :=
  laidMetH_of_parts3 (fuel := 8) (laidMet_of_run' 8 (by kernel_rfl) (by kernel_rfl)) (by kernel_rfl) (by kernel_rfl)
end Go.Proofs.YtdbnaaddocahpaaDoor
/- Arguments that come in: a slice of bytes as Sl. -/
namespace Go.Proofs.YtdbnaaddocahpaaDoor
set_option linter.unusedVariables false
open Go.RowKit Go.ChangeShapes Go.WideShapes

theorem cell_lt {w : World} {p : Addr} {v : Value} (h : w.cell? p = some v) : p.block < w.heap.size := by
  rcases Nat.lt_or_ge p.block w.heap.size with hlt | hge
  · exact hlt
  · simp [World.cell?, Array.getElem?_eq_none hge] at h

theorem open_bytes {H : Type} {enc : TypeId × Value → H} {P : Program} {w : World} {base n c : Nat} {spare : Nat → Bool} {held : Bool} {t e : TypeId} {A : Option Addr} {d : DataW H} {p : List MemPlace}
    (ht : P.underlying t = some (.slice e)) (he : P.underlying e = some (.int .u8)) (hc : P.cellsOf e = 1) (h : DataW.Trod enc P w base spare held t (.slice A n c) d p) : ∃ l, Sl w w.heap.size A n c (bv l) := by
  obtain ⟨fuel, hf⟩ := h
  rcases open_ints ht he hc hf with ⟨hcs, _⟩ | ⟨a, len, cap, zs, hcs, _, hl, hm, hz, _, hcell, hwz⟩
  · simp [Value.cells] at hcs
    obtain ⟨rfl, rfl, rfl⟩ := hcs
    exact ⟨[], Sl.nil_ w _⟩
  · simp [Value.cells] at hcs
    obtain ⟨rfl, rfl, rfl⟩ := hcs
    have hzl : n ≤ zs.length := by rw [hz]; split <;> omega
    have hb : ∀ z ∈ zs, ((UInt8.ofNat z.toNat).toNat : Int) = z := by
      intro z hz'
      have := hwz z hz'
      simp only [Lit.wf, Bool.and_eq_true, decide_eq_true_eq] at this
      have h1 : (0 : Int) ≤ z := this.1
      have h2 : z ≤ 255 := this.2
      simp
      omega
    refine ⟨(zs.take n).map fun z => UInt8.ofNat z.toNat, by simp [bv]; omega, hl, hm, ?_⟩
    by_cases h0 : n = 0
    · exact .inl h0
    · right
      obtain ⟨b, o, spot⟩ := a
      have h00 := hcell 0 (by omega)
      have hspot : spot = none := by simpa [Addr.add] using World.cell?_spot h00
      subst hspot
      refine ⟨b, o, rfl, by have := cell_lt h00; simpa [Addr.add] using this, fun j u hj => ?_⟩
      have hjn : j < n := by
        rcases Nat.lt_or_ge j n with hlt | hge
        · exact hlt
        · rw [List.getElem?_eq_none (by simp [bv]; omega)] at hj; cases hj
      have hcj := hcell j (by omega)
      have ha : (⟨b, o, none⟩ : Addr).add j = ⟨b, o + j, none⟩ := by
        by_cases hj0 : j = 0 <;> simp [Addr.add, hj0]
      rw [ha] at hcj
      rw [hcj, ← hj]
      simp only [bv, List.map_map, List.getElem?_map, List.getElem?_take, hjn, if_true]
      rw [List.getElem?_eq_getElem (by omega : j < zs.length)]
      simp only [Option.map_some, Function.comp, List.getD, List.getElem?_eq_getElem (by omega : j < zs.length), Option.getD_some]
      rw [hb _ (List.getElem_mem _)]

theorem own_empty (w : World) (base e : Nat) (hb : base ≤ w.heap.size) : (w.alloc (.cells #[] e)).ownsRow base e 1 (.slice (some ⟨w.heap.size, 0, none⟩) 0 0) 0 [] :=
  ⟨rfl, .inr ⟨w.heap.size, 0, #[], rfl, hb, heap_alloc_new w _, Nat.le_refl _, by simp [maxLen], rfl, rfl⟩⟩

/-- An append whose run is known, under a guard that says yes. -/
theorem wpList_append_want {P : Program} {w w' : World} {ops : Array Oper} {rest : List Oper} {o : Oper} {a : Act} {Q : Exit → Act → World → Prop} (hgd : Region.wanted o (yielded ops a.tmps) = true) (s x : Operand) (t u : TypeId)
    (ho : o.op = .call { callee := .builtin .append, args := #[s, x], argTypes := #[t, u] }) {sv xv v' : Value} (hs : a.eval s = sv) (hx : a.eval x = xv)
    (hrun : (Builtin.append_ #[t, u] o.type #[sv, xv]).run P w = .ok v' w') (h : wpList P ops Q rest (a.put o.dst v') w') : wpList P ops Q (o :: rest) a w := by
  refine BigFrame.wpList_want hgd fun K hK => ?_
  unfold Oper.wp execOp
  simp only [ho, resolve, invoke, builtin, Sem.run_bind, Sem.run_pure, Result.andThen_ok, List.map_toArray, List.map_cons, List.map_nil, hs, hx, hrun]
  exact hK _ _ h
end Go.Proofs.YtdbnaaddocahpaaDoor
/- Policies, and what they are of, that come in. -/
namespace Go.Proofs.YtdbnaaddocahpaaDoor
set_option linter.unusedVariables false
open Go.RowKit Go.ChangeShapes Go.WideShapes

instance : Inhabited Atr := ⟨zeroA⟩
instance : Inhabited Mat := ⟨⟨zeroA, 0, zeroV⟩⟩
instance : Inhabited Nod := ⟨⟨0, zeroV, zeroA⟩⟩
instance : Inhabited Dut := ⟨⟨0, 0, ByteArray.empty⟩⟩
instance : Inhabited Rul := ⟨⟨ByteArray.empty, false, [], [], []⟩⟩
instance : Inhabited Pol := ⟨.mk ByteArray.empty false 0 [] [] [] []⟩

section
variable {H : Type} {enc : TypeId × Value → H} {w : World} {base : Nat} {spare : Nat → Bool} {held : Bool}

/-- A datum whose strings, slices are no greater than may be. -/
def Wt (P : Program) (t : TypeId) (d : DataW H) : Prop := (d.weights P t).all (fun x => decide (x ≤ reachBytes)) = true
theorem wt_all {P : Program} {e : TypeId} : ∀ {l : List (DataW H)}, (DataW.weightsAll P e l).all (fun x => decide (x ≤ reachBytes)) = true → ∀ d ∈ l, Wt P e d
  | [], _, d, hd => by cases hd
  | x :: l, h, d, hd => by
    rw [DataW.weightsAll, List.all_append, Bool.and_eq_true] at h
    rcases List.mem_cons.1 hd with rfl | hd
    · exact h.1
    · exact wt_all h.2 d hd
theorem wt_slice {P : Program} {t e : TypeId} {a b : List (DataW H)} (ht : P.underlying t = some (.slice e)) (h : Wt P t (.slice a b)) : (a.length + b.length) * P.bytesOf e ≤ reachBytes ∧ ∀ d ∈ a, Wt P e d := by
  unfold Wt at h
  rw [DataW.weights] at h
  simp only [ht] at h
  rw [List.all_cons, List.all_append, Bool.and_eq_true, Bool.and_eq_true] at h
  exact ⟨by simpa using h.1, wt_all h.2.1⟩
theorem wt_each {P : Program} : ∀ {ts : List TypeId} {ds : List (DataW H)}, (DataW.weightsEach P ts ds).all (fun x => decide (x ≤ reachBytes)) = true → ∀ (i : Nat) t d, ts[i]? = some t → ds[i]? = some d → Wt P t d
  | [], _, _, _, _, _, ht, _ => by simp at ht
  | _ :: _, [], _, _, _, _, _, hd => by simp at hd
  | t :: ts, d :: ds, h, 0, t', d', ht, hd => by
    rw [DataW.weightsEach, List.all_append, Bool.and_eq_true] at h
    simp at ht hd
    subst ht hd
    exact h.1
  | t :: ts, d :: ds, h, i + 1, t', d', ht, hd => by
    rw [DataW.weightsEach, List.all_append, Bool.and_eq_true] at h
    exact wt_each h.2 i t' d' (by simpa using ht) (by simpa using hd)
theorem wt_struct {P : Program} {t : TypeId} {fs : Array Field} {parts : List (DataW H)} (ht : P.underlying t = some (.struct fs)) (h : Wt P t (.agg parts)) (i : Nat) (f : Field) (d : DataW H) (hf : fs[i]? = some f) (hd : parts[i]? = some d) : Wt P f.type d := by
  unfold Wt at h
  rw [DataW.weights] at h
  simp only [ht] at h
  exact wt_each h i f.type d (by simp [hf]) hd
theorem open_rows {P : Program} {α : Type} [Inhabited α] {e t : TypeId} {k fuel n c : Nat} {A : Option Addr} {x : DataW H × List MemPlace} {Pn : List Value → α → Prop} (ht : P.underlying t = some (.slice e)) (hC : P.cellsOf e = k) (hk : 0 < k)
    (hby : 0 < P.bytesOf e) (hel : ∀ m cs y, m < fuel → cs.length = k → Wt P e y.1 → DataW.trod enc P w base spare held m e cs = some y → ∃ z, Pn cs z) (hwt : Wt P t x.1) (h : DataW.trod enc P w base spare held fuel t [.slice A n c] = some x) : ∃ l, Rw k Pn w (fun _ => True) A n c l := by
  rcases DataW.trod_slice ht h with ⟨hcs, _⟩ | ⟨a, len, cap, elems, rest, m, hfu, hcs, hxe, hb, hl, hm, hlen, hx, _⟩
  · simp at hcs
    obtain ⟨rfl, rfl, rfl⟩ := hcs
    exact ⟨[], Rw.nil_ _ _ _ _⟩
  · simp at hcs
    obtain ⟨rfl, rfl, rfl⟩ := hcs
    subst hxe
    obtain ⟨hw1, hw2⟩ := wt_slice ht hwt
    have hbig : n ≤ 140737488351232 := by
      rw [List.length_map, List.length_map, hlen] at hw1
      have e1 : n * 1 ≤ (n + rest.length) * P.bytesOf e := Nat.mul_le_mul (by omega) hby
      have e2 : reachBytes = 140737488351232 := rfl
      omega
    have hall : ∀ i, i < n → ∃ z : α, ∃ cs : List Value, cs.length = k ∧ (∀ j, j < k → w.cell? ((a.add (i * k)).add j) = cs[j]?) ∧ Pn cs z := fun i hin => by
      have hi := hx i hin
      rw [hC, List.getElem?_eq_getElem (by omega)] at hi
      obtain ⟨cs, hc, hy⟩ := Option.bind_eq_some_iff.1 hi
      obtain ⟨_, hcl, hat⟩ := World.cells?_some hc
      obtain ⟨z, hz⟩ := hel m cs _ (by omega) hcl (hw2 _ (List.mem_map.2 ⟨_, List.getElem_mem (by omega), rfl⟩)) hy
      exact ⟨z, cs, hcl, hat, hz⟩
    obtain ⟨V, hV⟩ := Go.Deep.choose_lt hall
    refine ⟨(List.range n).map V, by simp, hl, ⟨hm, hbig⟩, ?_⟩
    by_cases h0 : n = 0
    · exact .inl h0
    · right
      obtain ⟨b, o, spot⟩ := a
      obtain ⟨cs0, hl0, hat0, _⟩ := hV 0 (by omega)
      have h00 := hat0 0 hk
      rw [List.getElem?_eq_getElem (by omega)] at h00
      have hspot : spot = none := by simpa [Addr.add] using World.cell?_spot h00
      subst hspot
      refine ⟨b, o, rfl, trivial, by have := cell_lt h00; simpa [Addr.add] using this, fun j x hj => ?_⟩
      rw [List.getElem?_map, Option.map_eq_some_iff] at hj
      obtain ⟨i, hi', rfl⟩ := hj
      have hjn : j < n := by have := (List.getElem?_eq_some_iff.1 hi').1; simpa using this
      have hij : i = j := by rw [List.getElem?_range hjn] at hi'; exact (Option.some.inj hi').symm
      subst hij
      obtain ⟨cs, hcl, hat, hz⟩ := hV i hjn
      refine ⟨cs, hcl, fun q v hq => ?_, hz⟩
      have hqk : q < k := by have := (List.getElem?_eq_some_iff.1 hq).1; omega
      have add : ∀ i k : Nat, ((⟨b, o, none⟩ : Addr).add i).add k = ⟨b, o + i + k, none⟩ := by
        intro i k
        by_cases hi0 : i = 0 <;> by_cases hk0 : k = 0 <;> simp [Addr.add, hi0, hk0]
      have := hat q hqk
      rw [add] at this
      rw [this, hq]

theorem len3 {α : Type} {cs : List α} (h : cs.length = 3) : ∃ v0 v1 v2, cs = [v0, v1, v2] := by
  match cs, h with
  | [v0, v1, v2], _ => exact ⟨v0, v1, v2, rfl⟩
theorem len5 {α : Type} {cs : List α} (h : cs.length = 5) : ∃ v0 v1 v2 v3 v4, cs = [v0, v1, v2, v3, v4] := by
  match cs, h with
  | [v0, v1, v2, v3, v4], _ => exact ⟨v0, v1, v2, v3, v4, rfl⟩
theorem len7 {α : Type} {cs : List α} (h : cs.length = 7) : ∃ v0 v1 v2 v3 v4 v5 v6, cs = [v0, v1, v2, v3, v4, v5, v6] := by
  match cs, h with
  | [v0, v1, v2, v3, v4, v5, v6], _ => exact ⟨v0, v1, v2, v3, v4, v5, v6, rfl⟩
theorem fields3 {P : Program} {e : TypeId} {f0 f1 f2 : Field} {fuel : Nat} {cs : List Value} {x : DataW H × List MemPlace} (he : P.underlying e = some (.struct #[f0, f1, f2])) (hwt : Wt P e x.1) (h : DataW.trod enc P w base spare held fuel e cs = some x) :
    ∃ m, fuel = m + 1 ∧ cs.length = P.cellsOf e ∧ ∃ y0 y1 y2, (Wt P f0.type y0.1 ∧ Wt P f1.type y1.1 ∧ Wt P f2.type y2.1) ∧ DataW.trod enc P w base spare held m f0.type ((cs.drop f0.offset).take (P.cellsOf f0.type)) = some y0 ∧ DataW.trod enc P w base spare held m f1.type ((cs.drop f1.offset).take (P.cellsOf f1.type)) = some y1 ∧ DataW.trod enc P w base spare held m f2.type ((cs.drop f2.offset).take (P.cellsOf f2.type)) = some y2 := by
  obtain ⟨ys, n', hn', hy, hlen, hyl, hf⟩ := DataW.trod_struct he h
  subst hy
  have hw := fun i f d => wt_struct he hwt i f d
  have ysn : ys.length = 3 := hyl
  match ys, ysn with
  | [y0, y1, y2], _ => exact ⟨n', hn', hlen, y0, y1, y2, ⟨hw 0 _ _ rfl rfl, hw 1 _ _ rfl rfl, hw 2 _ _ rfl rfl⟩, hf 0 _ rfl, hf 1 _ rfl, hf 2 _ rfl⟩
theorem fields5 {P : Program} {e : TypeId} {f0 f1 f2 f3 f4 : Field} {fuel : Nat} {cs : List Value} {x : DataW H × List MemPlace} (he : P.underlying e = some (.struct #[f0, f1, f2, f3, f4])) (hwt : Wt P e x.1) (h : DataW.trod enc P w base spare held fuel e cs = some x) :
    ∃ m, fuel = m + 1 ∧ cs.length = P.cellsOf e ∧ ∃ y0 y1 y2 y3 y4, (Wt P f0.type y0.1 ∧ Wt P f1.type y1.1 ∧ Wt P f2.type y2.1 ∧ Wt P f3.type y3.1 ∧ Wt P f4.type y4.1) ∧ DataW.trod enc P w base spare held m f0.type ((cs.drop f0.offset).take (P.cellsOf f0.type)) = some y0 ∧ DataW.trod enc P w base spare held m f1.type ((cs.drop f1.offset).take (P.cellsOf f1.type)) = some y1 ∧ DataW.trod enc P w base spare held m f2.type ((cs.drop f2.offset).take (P.cellsOf f2.type)) = some y2 ∧ DataW.trod enc P w base spare held m f3.type ((cs.drop f3.offset).take (P.cellsOf f3.type)) = some y3 ∧ DataW.trod enc P w base spare held m f4.type ((cs.drop f4.offset).take (P.cellsOf f4.type)) = some y4 := by
  obtain ⟨ys, n', hn', hy, hlen, hyl, hf⟩ := DataW.trod_struct he h
  subst hy
  have hw := fun i f d => wt_struct he hwt i f d
  have ysn : ys.length = 5 := hyl
  match ys, ysn with
  | [y0, y1, y2, y3, y4], _ => exact ⟨n', hn', hlen, y0, y1, y2, y3, y4, ⟨hw 0 _ _ rfl rfl, hw 1 _ _ rfl rfl, hw 2 _ _ rfl rfl, hw 3 _ _ rfl rfl, hw 4 _ _ rfl rfl⟩, hf 0 _ rfl, hf 1 _ rfl, hf 2 _ rfl, hf 3 _ rfl, hf 4 _ rfl⟩
theorem fields7 {P : Program} {e : TypeId} {f0 f1 f2 f3 f4 f5 f6 : Field} {fuel : Nat} {cs : List Value} {x : DataW H × List MemPlace} (he : P.underlying e = some (.struct #[f0, f1, f2, f3, f4, f5, f6])) (hwt : Wt P e x.1) (h : DataW.trod enc P w base spare held fuel e cs = some x) :
    ∃ m, fuel = m + 1 ∧ cs.length = P.cellsOf e ∧ ∃ y0 y1 y2 y3 y4 y5 y6, (Wt P f0.type y0.1 ∧ Wt P f1.type y1.1 ∧ Wt P f2.type y2.1 ∧ Wt P f3.type y3.1 ∧ Wt P f4.type y4.1 ∧ Wt P f5.type y5.1 ∧ Wt P f6.type y6.1) ∧ DataW.trod enc P w base spare held m f0.type ((cs.drop f0.offset).take (P.cellsOf f0.type)) = some y0 ∧ DataW.trod enc P w base spare held m f1.type ((cs.drop f1.offset).take (P.cellsOf f1.type)) = some y1 ∧ DataW.trod enc P w base spare held m f2.type ((cs.drop f2.offset).take (P.cellsOf f2.type)) = some y2 ∧ DataW.trod enc P w base spare held m f3.type ((cs.drop f3.offset).take (P.cellsOf f3.type)) = some y3 ∧ DataW.trod enc P w base spare held m f4.type ((cs.drop f4.offset).take (P.cellsOf f4.type)) = some y4 ∧ DataW.trod enc P w base spare held m f5.type ((cs.drop f5.offset).take (P.cellsOf f5.type)) = some y5 ∧ DataW.trod enc P w base spare held m f6.type ((cs.drop f6.offset).take (P.cellsOf f6.type)) = some y6 := by
  obtain ⟨ys, n', hn', hy, hlen, hyl, hf⟩ := DataW.trod_struct he h
  subst hy
  have hw := fun i f d => wt_struct he hwt i f d
  have ysn : ys.length = 7 := hyl
  match ys, ysn with
  | [y0, y1, y2, y3, y4, y5, y6], _ => exact ⟨n', hn', hlen, y0, y1, y2, y3, y4, y5, y6, ⟨hw 0 _ _ rfl rfl, hw 1 _ _ rfl rfl, hw 2 _ _ rfl rfl, hw 3 _ _ rfl rfl, hw 4 _ _ rfl rfl, hw 5 _ _ rfl rfl, hw 6 _ _ rfl rfl⟩, hf 0 _ rfl, hf 1 _ rfl, hf 2 _ rfl, hf 3 _ rfl, hf 4 _ rfl, hf 5 _ rfl, hf 6 _ rfl⟩
theorem bytes_dut : Tryd.prog.bytesOf 40 = 32 := by kernel_rfl
theorem bytes_nod : Tryd.prog.bytesOf 33 = 72 := by kernel_rfl
theorem bytes_mat : Tryd.prog.bytesOf 27 = 72 := by kernel_rfl
theorem bytes_s1 : Tryd.prog.bytesOf 28 = 24 := by kernel_rfl
theorem bytes_s2 : Tryd.prog.bytesOf 29 = 24 := by kernel_rfl
theorem bytes_rul : Tryd.prog.bytesOf 37 = 96 := by kernel_rfl
theorem bytes_pol : Tryd.prog.bytesOf 43 = 128 := by kernel_rfl
theorem open_atr_cells {m : Nat} {cs : List Value} {y : DataW H × List MemPlace} (hwt : Wt Tryd.prog 23 y.1) (h : DataW.trod enc Tryd.prog w base spare held m 23 cs = some y) : ∃ a : Atr, cs = a.cells ∧ a.ok := by
  obtain ⟨m', _, hlen, y0, y1, y2, ⟨q0, q1, q2⟩, g0, g1, g2⟩ := fields3 Tryd.underlying23 hwt h
  obtain ⟨v0, v1, v2, rfl⟩ := len3 (hlen.trans (show Tryd.prog.cellsOf 23 = 3 by kernel_rfl))
  have g0 : DataW.trod enc Tryd.prog w base spare held m' 3 (([v0, v1, v2] : List Value).drop 0 |>.take (Tryd.prog.cellsOf 3)) = some y0 := g0
  rw [show Tryd.prog.cellsOf 3 = 1 by kernel_rfl] at g0
  have g1 : DataW.trod enc Tryd.prog w base spare held m' 9 (([v0, v1, v2] : List Value).drop 1 |>.take (Tryd.prog.cellsOf 9)) = some y1 := g1
  rw [show Tryd.prog.cellsOf 9 = 1 by kernel_rfl] at g1
  have g2 : DataW.trod enc Tryd.prog w base spare held m' 4 (([v0, v1, v2] : List Value).drop 2 |>.take (Tryd.prog.cellsOf 4)) = some y2 := g2
  rw [show Tryd.prog.cellsOf 4 = 1 by kernel_rfl] at g2
  obtain ⟨x0, e0, _, w0⟩ := DataW.trod_int Tryd.underlying3 (show DataW.trod enc Tryd.prog w base spare held m' 3 [v0] = some y0 from g0)
  obtain ⟨x1, e1, _, w1⟩ := DataW.trod_string Tryd.underlying9 (show DataW.trod enc Tryd.prog w base spare held m' 9 [v1] = some y1 from g1)
  obtain ⟨x2, e2, _⟩ := DataW.trod_bool Tryd.underlying4 (show DataW.trod enc Tryd.prog w base spare held m' 4 [v2] = some y2 from g2)
  injection e0 with e0
  injection e1 with e1
  injection e2 with e2
  subst e0 e1 e2
  exact ⟨⟨x0, x1, x2⟩, rfl, wf_bounds w0, w1⟩
theorem open_vl_cells {m : Nat} {cs : List Value} {y : DataW H × List MemPlace} (hwt : Wt Tryd.prog 25 y.1) (h : DataW.trod enc Tryd.prog w base spare held m 25 cs = some y) : ∃ a : Vl, cs = a.cells ∧ a.ok := by
  obtain ⟨m', _, hlen, y0, y1, y2, ⟨q0, q1, q2⟩, g0, g1, g2⟩ := fields3 Tryd.underlying25 hwt h
  obtain ⟨v0, v1, v2, rfl⟩ := len3 (hlen.trans (show Tryd.prog.cellsOf 25 = 3 by kernel_rfl))
  have g0 : DataW.trod enc Tryd.prog w base spare held m' 3 (([v0, v1, v2] : List Value).drop 0 |>.take (Tryd.prog.cellsOf 3)) = some y0 := g0
  rw [show Tryd.prog.cellsOf 3 = 1 by kernel_rfl] at g0
  have g1 : DataW.trod enc Tryd.prog w base spare held m' 3 (([v0, v1, v2] : List Value).drop 1 |>.take (Tryd.prog.cellsOf 3)) = some y1 := g1
  rw [show Tryd.prog.cellsOf 3 = 1 by kernel_rfl] at g1
  have g2 : DataW.trod enc Tryd.prog w base spare held m' 9 (([v0, v1, v2] : List Value).drop 2 |>.take (Tryd.prog.cellsOf 9)) = some y2 := g2
  rw [show Tryd.prog.cellsOf 9 = 1 by kernel_rfl] at g2
  obtain ⟨x0, e0, _, w0⟩ := DataW.trod_int Tryd.underlying3 (show DataW.trod enc Tryd.prog w base spare held m' 3 [v0] = some y0 from g0)
  obtain ⟨x1, e1, _, w1⟩ := DataW.trod_int Tryd.underlying3 (show DataW.trod enc Tryd.prog w base spare held m' 3 [v1] = some y1 from g1)
  obtain ⟨x2, e2, _, w2⟩ := DataW.trod_string Tryd.underlying9 (show DataW.trod enc Tryd.prog w base spare held m' 9 [v2] = some y2 from g2)
  injection e0 with e0
  injection e1 with e1
  injection e2 with e2
  subst e0 e1 e2
  exact ⟨⟨x0, x1, x2⟩, rfl, wf_bounds w0, wf_bounds w1, w2⟩
theorem open_dut_cells {m : Nat} {cs : List Value} {y : DataW H × List MemPlace} (hwt : Wt Tryd.prog 40 y.1) (h : DataW.trod enc Tryd.prog w base spare held m 40 cs = some y) : ∃ a : Dut, cs = a.cells ∧ a.ok := by
  obtain ⟨m', _, hlen, y0, y1, y2, ⟨q0, q1, q2⟩, g0, g1, g2⟩ := fields3 Tryd.underlying40 hwt h
  obtain ⟨v0, v1, v2, rfl⟩ := len3 (hlen.trans (show Tryd.prog.cellsOf 40 = 3 by kernel_rfl))
  have g0 : DataW.trod enc Tryd.prog w base spare held m' 3 (([v0, v1, v2] : List Value).drop 0 |>.take (Tryd.prog.cellsOf 3)) = some y0 := g0
  rw [show Tryd.prog.cellsOf 3 = 1 by kernel_rfl] at g0
  have g1 : DataW.trod enc Tryd.prog w base spare held m' 3 (([v0, v1, v2] : List Value).drop 1 |>.take (Tryd.prog.cellsOf 3)) = some y1 := g1
  rw [show Tryd.prog.cellsOf 3 = 1 by kernel_rfl] at g1
  have g2 : DataW.trod enc Tryd.prog w base spare held m' 9 (([v0, v1, v2] : List Value).drop 2 |>.take (Tryd.prog.cellsOf 9)) = some y2 := g2
  rw [show Tryd.prog.cellsOf 9 = 1 by kernel_rfl] at g2
  obtain ⟨x0, e0, _, w0⟩ := DataW.trod_int Tryd.underlying3 (show DataW.trod enc Tryd.prog w base spare held m' 3 [v0] = some y0 from g0)
  obtain ⟨x1, e1, _, w1⟩ := DataW.trod_int Tryd.underlying3 (show DataW.trod enc Tryd.prog w base spare held m' 3 [v1] = some y1 from g1)
  obtain ⟨x2, e2, _, w2⟩ := DataW.trod_string Tryd.underlying9 (show DataW.trod enc Tryd.prog w base spare held m' 9 [v2] = some y2 from g2)
  injection e0 with e0
  injection e1 with e1
  injection e2 with e2
  subst e0 e1 e2
  exact ⟨⟨x0, x1, x2⟩, rfl, wf_bounds w0, wf_bounds w1, w2⟩
theorem open_mat_cells {m : Nat} {cs : List Value} {y : DataW H × List MemPlace} (hwt : Wt Tryd.prog 27 y.1) (h : DataW.trod enc Tryd.prog w base spare held m 27 cs = some y) : ∃ a : Mat, cs = a.cells ∧ a.ok := by
  obtain ⟨m', _, hlen, y0, y1, y2, ⟨q0, q1, q2⟩, g0, g1, g2⟩ := fields3 Tryd.underlying27 hwt h
  obtain ⟨v0, v1, v2, v3, v4, v5, v6, rfl⟩ := len7 (hlen.trans (show Tryd.prog.cellsOf 27 = 7 by kernel_rfl))
  have g0 : DataW.trod enc Tryd.prog w base spare held m' 23 (([v0, v1, v2, v3, v4, v5, v6] : List Value).drop 0 |>.take (Tryd.prog.cellsOf 23)) = some y0 := g0
  rw [show Tryd.prog.cellsOf 23 = 3 by kernel_rfl] at g0
  obtain ⟨x0, e0, w0⟩ := open_atr_cells q0 (show DataW.trod enc Tryd.prog w base spare held m' 23 [v0, v1, v2] = some y0 from g0)
  simp [Atr.cells] at e0
  have g1 : DataW.trod enc Tryd.prog w base spare held m' 3 (([v0, v1, v2, v3, v4, v5, v6] : List Value).drop 3 |>.take (Tryd.prog.cellsOf 3)) = some y1 := g1
  rw [show Tryd.prog.cellsOf 3 = 1 by kernel_rfl] at g1
  obtain ⟨x1, e1, _, w1⟩ := DataW.trod_int Tryd.underlying3 (show DataW.trod enc Tryd.prog w base spare held m' 3 [v3] = some y1 from g1)
  injection e1 with e1
  have g2 : DataW.trod enc Tryd.prog w base spare held m' 25 (([v0, v1, v2, v3, v4, v5, v6] : List Value).drop 4 |>.take (Tryd.prog.cellsOf 25)) = some y2 := g2
  rw [show Tryd.prog.cellsOf 25 = 3 by kernel_rfl] at g2
  obtain ⟨x2, e2, w2⟩ := open_vl_cells q2 (show DataW.trod enc Tryd.prog w base spare held m' 25 [v4, v5, v6] = some y2 from g2)
  simp [Vl.cells] at e2
  obtain ⟨rfl, rfl, rfl⟩ := e0
  subst e1
  obtain ⟨rfl, rfl, rfl⟩ := e2
  exact ⟨⟨x0, x1, x2⟩, rfl, w0, wf_bounds w1, w2⟩
theorem open_nod_cells {m : Nat} {cs : List Value} {y : DataW H × List MemPlace} (hwt : Wt Tryd.prog 33 y.1) (h : DataW.trod enc Tryd.prog w base spare held m 33 cs = some y) : ∃ a : Nod, cs = a.cells ∧ a.ok := by
  obtain ⟨m', _, hlen, y0, y1, y2, ⟨q0, q1, q2⟩, g0, g1, g2⟩ := fields3 Tryd.underlying33 hwt h
  obtain ⟨v0, v1, v2, v3, v4, v5, v6, rfl⟩ := len7 (hlen.trans (show Tryd.prog.cellsOf 33 = 7 by kernel_rfl))
  have g0 : DataW.trod enc Tryd.prog w base spare held m' 3 (([v0, v1, v2, v3, v4, v5, v6] : List Value).drop 0 |>.take (Tryd.prog.cellsOf 3)) = some y0 := g0
  rw [show Tryd.prog.cellsOf 3 = 1 by kernel_rfl] at g0
  obtain ⟨x0, e0, _, w0⟩ := DataW.trod_int Tryd.underlying3 (show DataW.trod enc Tryd.prog w base spare held m' 3 [v0] = some y0 from g0)
  injection e0 with e0
  have g1 : DataW.trod enc Tryd.prog w base spare held m' 25 (([v0, v1, v2, v3, v4, v5, v6] : List Value).drop 1 |>.take (Tryd.prog.cellsOf 25)) = some y1 := g1
  rw [show Tryd.prog.cellsOf 25 = 3 by kernel_rfl] at g1
  obtain ⟨x1, e1, w1⟩ := open_vl_cells q1 (show DataW.trod enc Tryd.prog w base spare held m' 25 [v1, v2, v3] = some y1 from g1)
  simp [Vl.cells] at e1
  have g2 : DataW.trod enc Tryd.prog w base spare held m' 23 (([v0, v1, v2, v3, v4, v5, v6] : List Value).drop 4 |>.take (Tryd.prog.cellsOf 23)) = some y2 := g2
  rw [show Tryd.prog.cellsOf 23 = 3 by kernel_rfl] at g2
  obtain ⟨x2, e2, w2⟩ := open_atr_cells q2 (show DataW.trod enc Tryd.prog w base spare held m' 23 [v4, v5, v6] = some y2 from g2)
  simp [Atr.cells] at e2
  subst e0
  obtain ⟨rfl, rfl, rfl⟩ := e1
  obtain ⟨rfl, rfl, rfl⟩ := e2
  exact ⟨⟨x0, x1, x2⟩, rfl, wf_bounds w0, w1, w2⟩

theorem open_duts_f {m n c : Nat} {A : Option Addr} {x : DataW H × List MemPlace} (hwt : Wt Tryd.prog 35 x.1) (h : DataW.trod enc Tryd.prog w base spare held m 35 [.slice A n c] = some x) : ∃ l, Dus w (fun _ => True) A n c l :=
  open_rows Tryd.underlying35 (by kernel_rfl) (by omega) (by rw [bytes_dut]; omega) (fun m cs y _ _ q h => open_dut_cells q h) hwt h
theorem open_nods_f {m n c : Nat} {A : Option Addr} {x : DataW H × List MemPlace} (hwt : Wt Tryd.prog 34 x.1) (h : DataW.trod enc Tryd.prog w base spare held m 34 [.slice A n c] = some x) : ∃ l, Nds w (fun _ => True) A n c l :=
  open_rows Tryd.underlying34 (by kernel_rfl) (by omega) (by rw [bytes_nod]; omega) (fun m cs y _ _ q h => open_nod_cells q h) hwt h
theorem open_mats_f {m n c : Nat} {A : Option Addr} {x : DataW H × List MemPlace} (hwt : Wt Tryd.prog 28 x.1) (h : DataW.trod enc Tryd.prog w base spare held m 28 [.slice A n c] = some x) : ∃ l, Ms w (fun _ => True) A n c l :=
  open_rows Tryd.underlying28 (by kernel_rfl) (by omega) (by rw [bytes_mat]; omega) (fun m cs y _ _ q h => open_mat_cells q h) hwt h
theorem slice_cells {P : Program} {t e : TypeId} {m : Nat} {v : Value} {y : DataW H × List MemPlace} (ht : P.underlying t = some (.slice e)) (h : DataW.trod enc P w base spare held m t [v] = some y) : ∃ A n c, v = .slice A n c := by
  rcases DataW.trod_slice ht h with ⟨hcs, _⟩ | ⟨a, len, cap, elems, rest, m, hfu, hcs, _⟩
  · exact ⟨none, 0, 0, by simpa using hcs⟩
  · exact ⟨some a, len, cap, by simpa using hcs⟩
theorem open_alls_f {m n c : Nat} {A : Option Addr} {x : DataW H × List MemPlace} (hwt : Wt Tryd.prog 29 x.1) (h : DataW.trod enc Tryd.prog w base spare held m 29 [.slice A n c] = some x) : ∃ l, Als w (fun _ => True) A n c l :=
  open_rows Tryd.underlying29 (by kernel_rfl) (by omega) (by rw [bytes_s1]; omega) (fun m cs y _ hl q h => by
    match cs, hl with
    | [v], _ =>
      obtain ⟨A', n', c', rfl⟩ := slice_cells Tryd.underlying28 h
      obtain ⟨l, hl⟩ := open_mats_f q h
      exact ⟨l, A', n', c', rfl, hl⟩) hwt h
theorem open_anys_f {m n c : Nat} {A : Option Addr} {x : DataW H × List MemPlace} (hwt : Wt Tryd.prog 31 x.1) (h : DataW.trod enc Tryd.prog w base spare held m 31 [.slice A n c] = some x) : ∃ l, Tg w (fun _ => True) A n c l :=
  open_rows Tryd.underlying31 (by kernel_rfl) (by omega) (by rw [bytes_s2]; omega) (fun m cs y _ hl q h => by
    match cs, hl with
    | [v], _ =>
      obtain ⟨A', n', c', rfl⟩ := slice_cells Tryd.underlying29 h
      obtain ⟨l, hl⟩ := open_alls_f q h
      exact ⟨l, A', n', c', rfl, hl⟩) hwt h
theorem open_rul_cells {m : Nat} {cs : List Value} {y : DataW H × List MemPlace} (hwt : Wt Tryd.prog 37 y.1) (h : DataW.trod enc Tryd.prog w base spare held m 37 cs = some y) : ∃ r : Rul, RulAt w (fun _ => True) cs r := by
  obtain ⟨m', _, hlen, y0, y1, y2, y3, y4, ⟨q0, q1, q2, q3, q4⟩, g0, g1, g2, g3, g4⟩ := fields5 Tryd.underlying37 hwt h
  obtain ⟨v0, v1, v2, v3, v4, rfl⟩ := len5 (hlen.trans (show Tryd.prog.cellsOf 37 = 5 by kernel_rfl))
  have g0 : DataW.trod enc Tryd.prog w base spare held m' 9 (([v0, v1, v2, v3, v4] : List Value).drop 0 |>.take (Tryd.prog.cellsOf 9)) = some y0 := g0
  have g1 : DataW.trod enc Tryd.prog w base spare held m' 4 (([v0, v1, v2, v3, v4] : List Value).drop 1 |>.take (Tryd.prog.cellsOf 4)) = some y1 := g1
  have g2 : DataW.trod enc Tryd.prog w base spare held m' 31 (([v0, v1, v2, v3, v4] : List Value).drop 2 |>.take (Tryd.prog.cellsOf 31)) = some y2 := g2
  have g3 : DataW.trod enc Tryd.prog w base spare held m' 34 (([v0, v1, v2, v3, v4] : List Value).drop 3 |>.take (Tryd.prog.cellsOf 34)) = some y3 := g3
  have g4 : DataW.trod enc Tryd.prog w base spare held m' 35 (([v0, v1, v2, v3, v4] : List Value).drop 4 |>.take (Tryd.prog.cellsOf 35)) = some y4 := g4
  rw [show Tryd.prog.cellsOf 9 = 1 by kernel_rfl] at g0
  rw [show Tryd.prog.cellsOf 4 = 1 by kernel_rfl] at g1
  rw [show Tryd.prog.cellsOf 31 = 1 by kernel_rfl] at g2
  rw [show Tryd.prog.cellsOf 34 = 1 by kernel_rfl] at g3
  rw [show Tryd.prog.cellsOf 35 = 1 by kernel_rfl] at g4
  have g2 : DataW.trod enc Tryd.prog w base spare held m' 31 [v2] = some y2 := g2
  have g3 : DataW.trod enc Tryd.prog w base spare held m' 34 [v3] = some y3 := g3
  have g4 : DataW.trod enc Tryd.prog w base spare held m' 35 [v4] = some y4 := g4
  obtain ⟨x0, e0, _, w0⟩ := DataW.trod_string Tryd.underlying9 (show DataW.trod enc Tryd.prog w base spare held m' 9 [v0] = some y0 from g0)
  obtain ⟨x1, e1, _⟩ := DataW.trod_bool Tryd.underlying4 (show DataW.trod enc Tryd.prog w base spare held m' 4 [v1] = some y1 from g1)
  injection e0 with e0
  injection e1 with e1
  subst e0 e1
  obtain ⟨A2, n2, c2, rfl⟩ := slice_cells Tryd.underlying31 g2
  obtain ⟨A3, n3, c3, rfl⟩ := slice_cells Tryd.underlying34 g3
  obtain ⟨A4, n4, c4, rfl⟩ := slice_cells Tryd.underlying35 g4
  obtain ⟨l2, h2⟩ := open_anys_f q2 g2
  obtain ⟨l3, h3⟩ := open_nods_f q3 g3
  obtain ⟨l4, h4⟩ := open_duts_f q4 g4
  exact ⟨⟨x0, x1, l2, l3, l4⟩, A2, n2, c2, A3, n3, c3, A4, n4, c4, rfl, w0, h2, h3, h4⟩
theorem open_ruls_f {m n c : Nat} {A : Option Addr} {x : DataW H × List MemPlace} (hwt : Wt Tryd.prog 38 x.1) (h : DataW.trod enc Tryd.prog w base spare held m 38 [.slice A n c] = some x) : ∃ l, Rus w (fun _ => True) A n c l :=
  open_rows Tryd.underlying38 (by kernel_rfl) (by omega) (by rw [bytes_rul]; omega) (fun m cs y _ _ q h => open_rul_cells q h) hwt h
theorem open_pol_cells : ∀ {m : Nat} {cs : List Value} {y : DataW H × List MemPlace}, Wt Tryd.prog 43 y.1 → DataW.trod enc Tryd.prog w base spare held m 43 cs = some y → ∃ p : Pol, PolAt w (fun _ => True) m cs p := by
  intro m
  induction m using Nat.strongRecOn with
  | ind m ih =>
  intro cs y hwt h
  obtain ⟨m', hm, hlen, y0, y1, y2, y3, y4, y5, y6, ⟨q0, q1, q2, q3, q4, q5, q6⟩, g0, g1, g2, g3, g4, g5, g6⟩ := fields7 Tryd.underlying43 hwt h
  obtain ⟨v0, v1, v2, v3, v4, v5, v6, rfl⟩ := len7 (hlen.trans (show Tryd.prog.cellsOf 43 = 7 by kernel_rfl))
  have g0 : DataW.trod enc Tryd.prog w base spare held m' 9 (([v0, v1, v2, v3, v4, v5, v6] : List Value).drop 0 |>.take (Tryd.prog.cellsOf 9)) = some y0 := g0
  rw [show Tryd.prog.cellsOf 9 = 1 by kernel_rfl] at g0
  have g0 : DataW.trod enc Tryd.prog w base spare held m' 9 [v0] = some y0 := g0
  have g1 : DataW.trod enc Tryd.prog w base spare held m' 4 (([v0, v1, v2, v3, v4, v5, v6] : List Value).drop 1 |>.take (Tryd.prog.cellsOf 4)) = some y1 := g1
  rw [show Tryd.prog.cellsOf 4 = 1 by kernel_rfl] at g1
  have g1 : DataW.trod enc Tryd.prog w base spare held m' 4 [v1] = some y1 := g1
  have g2 : DataW.trod enc Tryd.prog w base spare held m' 3 (([v0, v1, v2, v3, v4, v5, v6] : List Value).drop 2 |>.take (Tryd.prog.cellsOf 3)) = some y2 := g2
  rw [show Tryd.prog.cellsOf 3 = 1 by kernel_rfl] at g2
  have g2 : DataW.trod enc Tryd.prog w base spare held m' 3 [v2] = some y2 := g2
  have g3 : DataW.trod enc Tryd.prog w base spare held m' 31 (([v0, v1, v2, v3, v4, v5, v6] : List Value).drop 3 |>.take (Tryd.prog.cellsOf 31)) = some y3 := g3
  rw [show Tryd.prog.cellsOf 31 = 1 by kernel_rfl] at g3
  have g3 : DataW.trod enc Tryd.prog w base spare held m' 31 [v3] = some y3 := g3
  have g4 : DataW.trod enc Tryd.prog w base spare held m' 38 (([v0, v1, v2, v3, v4, v5, v6] : List Value).drop 4 |>.take (Tryd.prog.cellsOf 38)) = some y4 := g4
  rw [show Tryd.prog.cellsOf 38 = 1 by kernel_rfl] at g4
  have g4 : DataW.trod enc Tryd.prog w base spare held m' 38 [v4] = some y4 := g4
  have g5 : DataW.trod enc Tryd.prog w base spare held m' 41 (([v0, v1, v2, v3, v4, v5, v6] : List Value).drop 5 |>.take (Tryd.prog.cellsOf 41)) = some y5 := g5
  rw [show Tryd.prog.cellsOf 41 = 1 by kernel_rfl] at g5
  have g5 : DataW.trod enc Tryd.prog w base spare held m' 41 [v5] = some y5 := g5
  have g6 : DataW.trod enc Tryd.prog w base spare held m' 35 (([v0, v1, v2, v3, v4, v5, v6] : List Value).drop 6 |>.take (Tryd.prog.cellsOf 35)) = some y6 := g6
  rw [show Tryd.prog.cellsOf 35 = 1 by kernel_rfl] at g6
  have g6 : DataW.trod enc Tryd.prog w base spare held m' 35 [v6] = some y6 := g6
  obtain ⟨x0, e0, _, w0⟩ := DataW.trod_string Tryd.underlying9 g0
  obtain ⟨x1, e1, _⟩ := DataW.trod_bool Tryd.underlying4 g1
  obtain ⟨x2, e2, _, w2⟩ := DataW.trod_int Tryd.underlying3 g2
  injection e0 with e0
  injection e1 with e1
  injection e2 with e2
  subst e0 e1 e2
  obtain ⟨A3, n3, c3, rfl⟩ := slice_cells Tryd.underlying31 g3
  obtain ⟨A4, n4, c4, rfl⟩ := slice_cells Tryd.underlying38 g4
  obtain ⟨A5, n5, c5, rfl⟩ := slice_cells Tryd.underlying41 g5
  obtain ⟨A6, n6, c6, rfl⟩ := slice_cells Tryd.underlying35 g6
  obtain ⟨l3, h3⟩ := open_anys_f q3 g3
  obtain ⟨l4, h4⟩ := open_ruls_f q4 g4
  obtain ⟨l6, h6⟩ := open_duts_f q6 g6
  have hk : ∃ l, Rw 7 (PolAt w (fun _ => True) m') w (fun _ => True) A5 n5 c5 l :=
    open_rows Tryd.underlying41 (by kernel_rfl) (by omega) (by rw [bytes_pol]; omega) (fun q cs y hq _ hw h => by
      obtain ⟨p, hp⟩ := ih q (by omega) hw h
      exact ⟨p, PolAt.more (by omega) hp⟩) q5 g5
  obtain ⟨l5, h5⟩ := hk
  subst hm
  exact ⟨.mk x0 x1 x2 l3 l4 l5 l6, A3, n3, c3, A4, n4, c4, A5, n5, c5, A6, n6, c6, rfl, w0, wf_bounds w2, h3, h4, h5, h6⟩

theorem open_duts {n c : Nat} {A : Option Addr} {d : DataW H} {p : List MemPlace} (hwt : Wt Tryd.prog 35 d) (h : DataW.Trod enc Tryd.prog w base spare held 35 (.slice A n c) d p) : ∃ l, Dus w (fun _ => True) A n c l := by
  obtain ⟨m, hm⟩ := h
  exact open_duts_f hwt hm
theorem open_nods {n c : Nat} {A : Option Addr} {d : DataW H} {p : List MemPlace} (hwt : Wt Tryd.prog 34 d) (h : DataW.Trod enc Tryd.prog w base spare held 34 (.slice A n c) d p) : ∃ l, Nds w (fun _ => True) A n c l := by
  obtain ⟨m, hm⟩ := h
  exact open_nods_f hwt hm
theorem open_tgt {n c : Nat} {A : Option Addr} {d : DataW H} {p : List MemPlace} (hwt : Wt Tryd.prog 31 d) (h : DataW.Trod enc Tryd.prog w base spare held 31 (.slice A n c) d p) : ∃ l, Tg w (fun _ => True) A n c l := by
  obtain ⟨m, hm⟩ := h
  exact open_anys_f hwt hm
theorem open_struct {P : Program} {t : TypeId} {fs : Array Field} {r : Reach} {b0 : Nat} {v : Value} {d : DataW H} {p : List MemPlace} (hs : P.underlying t = some (.struct fs)) (hv : Value.okWide P w r b0 t v) (h : DataW.Trod enc P w base spare held t v d p) :
    ∃ (cs : List Value) (m : Nat), v = .agg cs.toArray ∧ DataW.trod enc P w base spare held m t cs = some (d, p) := by
  obtain ⟨cs, rfl, hsz⟩ := WideShapes.okWide_struct hs hv
  obtain ⟨m, hm⟩ := h
  exact ⟨cs.toList, m, by simp, hm⟩
set_option maxRecDepth 100000 in
theorem open_atr {r : Reach} {b0 : Nat} {v : Value} {d : DataW H} {p : List MemPlace} (hv : Value.okWide Tryd.prog w r b0 23 v) (hwt : Wt Tryd.prog 23 d) (h : DataW.Trod enc Tryd.prog w base spare held 23 v d p) : ∃ a : Atr, v = .agg #[.int .i64 a.cat, .string a.name, .bool a.must] ∧ a.ok := by
  obtain ⟨cs, m, rfl, hm⟩ := open_struct Tryd.underlying23 hv h
  obtain ⟨a, rfl, hok⟩ := open_atr_cells hwt hm
  exact ⟨a, rfl, hok⟩
set_option maxRecDepth 100000 in
theorem open_pol {r : Reach} {b0 : Nat} {v : Value} {d : DataW H} {p : List MemPlace} (hv : Value.okWide Tryd.prog w r b0 43 v) (hwt : Wt Tryd.prog 43 d) (h : DataW.Trod enc Tryd.prog w base spare held 43 v d p) :
    ∃ (P : Pol) (A1 : Option Addr) (n1 k1 : Nat) (A2 : Option Addr) (n2 k2 : Nat) (A3 : Option Addr) (n3 k3 : Nat) (A4 : Option Addr) (n4 k4 : Nat), v = .agg #[.string P.id, .bool P.set, .int .i64 P.alg, .slice A1 n1 k1, .slice A2 n2 k2, .slice A3 n3 k3, .slice A4 n4 k4] ∧ PolIn w (fun _ => True) P A1 n1 k1 A2 n2 k2 A3 n3 k3 A4 n4 k4 := by
  obtain ⟨cs, m, rfl, hm⟩ := open_struct Tryd.underlying43 hv h
  obtain ⟨P, hP⟩ := open_pol_cells hwt hm
  clear hm hv h
  match m, hP with
  | d + 1, ⟨A1, n1, k1, A2, n2, k2, A3, n3, k3, A4, n4, k4, e, h0, h00, h1, h2, h3, h4⟩ =>
    exact ⟨P, A1, n1, k1, A2, n2, k2, A3, n3, k3, A4, n4, k4, congrArg (fun x : List Value => Value.agg x.toArray) e, ⟨h0, h00⟩, h1, h2, ⟨d, h3⟩, h4⟩
end
end Go.Proofs.YtdbnaaddocahpaaDoor
