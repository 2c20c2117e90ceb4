/- Several texts in one: KeepSame, ShowP, KeepTgt, KeepPol, KeepIs, Laid10S, Door10S, Open. -/
import Derived.Test.YtdbnaaddocahpaaGreatDoorTenD
import Derived.Laws.StructEq
import Derived.Laws.Tables
import Derived.Laws.Cover2
import Derived.Lib.QuietBelow
import Derived.Deep.CutRange
import Derived.Test.YtdbnaaddocahpaaGreatDoorTenE
import Derived.Test.YtdbnaaddocahpaaGreatDoorTenI
import Derived.Test.YtdbnaaddocahpaaGreatDoorTenC
import Derived.Test.YtdbnaaddocahpaaGreatDoorTenA
import Derived.ProofKit
import Derived.LaidMore
import Derived.OpenShut
import Derived.Stop.Joined
import Derived.ChangeSlices
/- bailiffkeep: two policies that are the same. -/
namespace Go.Proofs.YtdbnaaddocahpaaGreatDoor
set_option linter.unusedVariables false
open Go.RowKit Go.Sort

section
variable {w : World} {R R' : Nat → Prop} {A A' : Option Addr} {n c n' c' : Nat}
theorem Rw.same_len {α : Type} {k k' : Nat} {P P' : List Value → α → Prop} {w : World} {R R' : Nat → Prop} {A A' : Option Addr} {n n' c c' : Nat} {l : List α} (h : Rw k P w R A n c l) (h' : Rw k' P' w R' A' n' c' l) : n = n' := by rw [← h.len, ← h'.len]
set_option maxHeartbeats 800000 in
theorem same_dut {l : List Dut} (h : Dus w R A n c l) (h' : Dus w R' A' n c' l) : Calls Tryz.prog 38 #[.slice A n c, .slice A' n c'] w fun e w' => e = .returned (.bool true) ∧ Below w.heap.size w w' := by
  have hcap := h.cap
  have hle := h.le
  have hle' := h'.le
  unfold maxLen at hcap
  have H := Lib.hid h
  have H' := Lib.hid h'
  clear h h'
  go_enter Tryz.func38, Tryz.ntmps38
  go_wp2
  go_loopw [5] (fun i wr => ∃ k : Nat, k ≤ n ∧ i = .int .i64 k ∧ ∃ q, wr = w.drewN q) (fun i _ => n - (intOf i).toNat)
  case atStart => exact ⟨0, Nat.zero_le _, rfl, 0, rfl⟩
  case round =>
    obtain ⟨k, hk, rfl, q, rfl⟩ := hrel
    by_cases hlt : k < n
    · obtain ⟨b, o, x, rfl, _, _, hx, _, ⟨x0, x1, x2⟩⟩ := H.out.at_ hlt
      obtain ⟨b', o', y, rfl, _, _, hy, _, ⟨y0, y1, y2⟩⟩ := H'.out.at_ hlt
      obtain rfl := Option.some.inj (hx.symm.trans hy)
      have hve := dut_eq x x
      simp only [decide_true] at hve
      clear hx hy
      go_wp2_with fail
      go_quiet (fail)
      go_wp2
      go_roundw
      case rel => exact ⟨k + 1, by omega, by go_num, _, rfl⟩
      case measure => simp [intOf]; omega
    · obtain rfl : k = n := by omega
      go_wp2
      go_ret
      exact ⟨rfl, below_drewN (Below.refl _ _) _⟩
set_option maxHeartbeats 800000 in
theorem same_nod {l : List Nod} (h : Nds w R A n c l) (h' : Nds w R' A' n c' l) : Calls Tryz.prog 21 #[.slice A n c, .slice A' n c'] w fun e w' => e = .returned (.bool true) ∧ Below w.heap.size w w' := by
  have hcap := h.cap
  have hle := h.le
  have hle' := h'.le
  unfold maxLen at hcap
  have H := Lib.hid h
  have H' := Lib.hid h'
  clear h h'
  go_enter Tryz.func21, Tryz.ntmps21
  go_wp2
  go_loopw [5] (fun i wr => ∃ k : Nat, k ≤ n ∧ i = .int .i64 k ∧ ∃ q, wr = w.drewN q) (fun i _ => n - (intOf i).toNat)
  case atStart => exact ⟨0, Nat.zero_le _, rfl, 0, rfl⟩
  case round =>
    obtain ⟨k, hk, rfl, q, rfl⟩ := hrel
    by_cases hlt : k < n
    · obtain ⟨b, o, x, rfl, _, _, hx, _, ⟨x0, x1, x2, x3, x4, x5, x6⟩⟩ := H.out.at_ hlt
      obtain ⟨b', o', y, rfl, _, _, hy, _, ⟨y0, y1, y2, y3, y4, y5, y6⟩⟩ := H'.out.at_ hlt
      obtain rfl := Option.some.inj (hx.symm.trans hy)
      have hve := nod_eq x x
      simp only [decide_true] at hve
      clear hx hy
      go_wp2_with fail
      go_quiet (fail)
      go_wp2
      go_roundw
      case rel => exact ⟨k + 1, by omega, by go_num, _, rfl⟩
      case measure => simp [intOf]; omega
    · obtain rfl : k = n := by omega
      go_wp2
      go_ret
      exact ⟨rfl, below_drewN (Below.refl _ _) _⟩
set_option maxHeartbeats 800000 in
theorem same_mat {l : List Mat} (h : Ms w R A n c l) (h' : Ms w R' A' n c' l) : Calls Tryz.prog 43 #[.slice A n c, .slice A' n c'] w fun e w' => e = .returned (.bool true) ∧ Below w.heap.size w w' := by
  have hcap := h.cap
  have hle := h.le
  have hle' := h'.le
  unfold maxLen at hcap
  have H := Lib.hid h
  have H' := Lib.hid h'
  clear h h'
  go_enter Tryz.func43, Tryz.ntmps43
  go_wp2
  go_loopw [5] (fun i wr => ∃ k : Nat, k ≤ n ∧ i = .int .i64 k ∧ ∃ q, wr = w.drewN q) (fun i _ => n - (intOf i).toNat)
  case atStart => exact ⟨0, Nat.zero_le _, rfl, 0, rfl⟩
  case round =>
    obtain ⟨k, hk, rfl, q, rfl⟩ := hrel
    by_cases hlt : k < n
    · obtain ⟨b, o, x, rfl, _, _, hx, _, ⟨x0, x1, x2, x3, x4, x5, x6⟩⟩ := H.out.at_ hlt
      obtain ⟨b', o', y, rfl, _, _, hy, _, ⟨y0, y1, y2, y3, y4, y5, y6⟩⟩ := H'.out.at_ hlt
      obtain rfl := Option.some.inj (hx.symm.trans hy)
      have hve := mat_eq x x
      simp only [decide_true] at hve
      clear hx hy
      go_wp2_with fail
      go_quiet (fail)
      go_wp2
      go_roundw
      case rel => exact ⟨k + 1, by omega, by go_num, _, rfl⟩
      case measure => simp [intOf]; omega
    · obtain rfl : k = n := by omega
      go_wp2
      go_ret
      exact ⟨rfl, below_drewN (Below.refl _ _) _⟩
theorem same_dut_q {l : List Dut} (h : Dus w R A n c l) (h' : Dus w R' A' n' c' l) (d : Nat) (os : Array Obj) : Calls Tryz.prog 38 #[.slice A n c, .slice A' n' c'] (grow (redrawn w d) os) fun e w'' => e = .returned (.bool true) ∧ ∃ p : Regrown, w'' = grow (redrawn w p.d) p.os := by
  obtain rfl := Rw.same_len h h'
  exact Calls.regrown_of (same_dut (R := R) (R' := R') (h.keep (Kept.all (below_regrown w d os) R) (fun _ h _ => h)) (h'.keep (Kept.all (below_regrown w d os) R') (fun _ h _ => h)))
theorem same_nod_q {l : List Nod} (h : Nds w R A n c l) (h' : Nds w R' A' n' c' l) (d : Nat) (os : Array Obj) : Calls Tryz.prog 21 #[.slice A n c, .slice A' n' c'] (grow (redrawn w d) os) fun e w'' => e = .returned (.bool true) ∧ ∃ p : Regrown, w'' = grow (redrawn w p.d) p.os := by
  obtain rfl := Rw.same_len h h'
  exact Calls.regrown_of (same_nod (R := R) (R' := R') (h.keep (Kept.all (below_regrown w d os) R) (fun _ h _ => h)) (h'.keep (Kept.all (below_regrown w d os) R') (fun _ h _ => h)))
theorem same_mat_q {l : List Mat} (h : Ms w R A n c l) (h' : Ms w R' A' n' c' l) (d : Nat) (os : Array Obj) : Calls Tryz.prog 43 #[.slice A n c, .slice A' n' c'] (grow (redrawn w d) os) fun e w'' => e = .returned (.bool true) ∧ ∃ p : Regrown, w'' = grow (redrawn w p.d) p.os := by
  obtain rfl := Rw.same_len h h'
  exact Calls.regrown_of (same_mat (R := R) (R' := R') (h.keep (Kept.all (below_regrown w d os) R) (fun _ h _ => h)) (h'.keep (Kept.all (below_regrown w d os) R') (fun _ h _ => h)))
set_option maxRecDepth 100000 in
set_option maxHeartbeats 1600000 in
theorem same_tgt {l : Tgt} (h : Tg w R A n c l) (h' : Tg w R' A' n c' l) : Calls Tryz.prog 22 #[.slice A n c, .slice A' n c'] w fun e w' => e = .returned (.bool true) ∧ Below w.heap.size w w' := by
  have hcap := h.cap
  have hle := h.le
  have hle' := h'.le
  unfold maxLen at hcap
  have H := Lib.hid h
  have H' := Lib.hid h'
  clear h h'
  go_enter Tryz.func22, Tryz.ntmps22
  go_wp2
  go_loopw [14] (fun i wr => ∃ k : Nat, k ≤ n ∧ i = .int .i64 k ∧ Below w.heap.size w wr) (fun i _ => n - (intOf i).toNat)
  case atStart => exact ⟨0, Nat.zero_le _, rfl, Below.refl _ _⟩
  case round =>
    obtain ⟨k, hk, rfl, hb⟩ := hrel
    have HB := Lib.hid hb
    have T1 := Lib.hid (H.out.keep (Kept.all hb R) (fun _ h _ => h))
    have T2 := Lib.hid (H'.out.keep (Kept.all hb R') (fun _ h _ => h))
    clear hb
    by_cases hlt : k < n
    · obtain ⟨b, o, x, A1, n1, c1, rfl, _, _, hx, x0, hA⟩ := T1.out.at_ hlt
      obtain ⟨b', o', y, A2, n2, c2, rfl, _, _, hy, y0, hA'⟩ := T2.out.at_ hlt
      obtain rfl := Option.some.inj (hx.symm.trans hy)
      obtain rfl := Rw.same_len hA hA'
      have hcap1 := Rw.cap hA
      have hle1 := Rw.le hA
      have hle2 := Rw.le hA'
      unfold maxLen at hcap1
      have G1 := Lib.hid hA
      have G2 := Lib.hid hA'
      clear hx hy hA hA'
      go_wp2_with fail
      have x0' := fun d os => cell_regrown x0 d os
      have y0' := fun d os => cell_regrown y0 d os
      refine wp_region_quiet_below (by kernel_rfl) (by kernel_rfl) ?_
      repeat (go_big_quiet_step (fail))
      refine wpQuiet_nil ?_
      intro _ hw'
      obtain ⟨⟨dq, osq⟩, hw''⟩ := hw'
      subst hw''
      have BQ := Lib.hid (below_regrown wr dq osq)
      have c1x := x0' dq osq
      clear x0' y0'
      generalize grow (redrawn wr dq) osq = w2 at *
      have HB2 := Lib.hid (HB.out.trans (BQ.out.mono HB.out.size))
      have S1 := Lib.hid (G1.out.keep (Kept.all BQ.out R) (fun _ h _ => h))
      have S2 := Lib.hid (G2.out.keep (Kept.all BQ.out R') (fun _ h _ => h))
      have xw := c1x
      have yw := (show w2.cell? _ = some _ from (BQ.out.cell (block_lt_of_cell y0)).trans y0)
      clear c1x
      go_wp2_with fail
      obtain ⟨wo, hwo⟩ : ∃ wo, wo = wr := ⟨wr, rfl⟩
      subst hwo
      go_loopw [33] (fun i wq => ∃ j : Nat, j ≤ n1 ∧ i = .int .i64 j ∧ Below w2.heap.size w2 wq) (fun i _ => n1 - (intOf i).toNat)
      case atStart => exact ⟨0, Nat.zero_le _, rfl, Below.refl _ _⟩
      case round =>
        obtain ⟨j, hj, rfl, hb⟩ := hrel
        have HB3 := Lib.hid (HB2.out.trans (hb.mono HB2.out.size))
        have HBJ := Lib.hid hb
        have T1j := Lib.hid (S1.out.keep (Kept.all hb R) (fun _ h _ => h))
        have T2j := Lib.hid (S2.out.keep (Kept.all hb R') (fun _ h _ => h))
        have X0 := Lib.hid ((hb.cell (block_lt_of_cell xw)).trans xw)
        have Y0 := Lib.hid ((hb.cell (block_lt_of_cell yw)).trans yw)
        clear hb
        by_cases hlt2 : j < n1
        · obtain ⟨b1, o1, u, A3, n3, c3, rfl, _, _, hu, u0, hM⟩ := T1j.out.at_ hlt2
          obtain ⟨b2, o2, v, A4, n4, c4, rfl, _, _, hv, v0, hM'⟩ := T2j.out.at_ hlt2
          obtain rfl := Option.some.inj (hu.symm.trans hv)
          have M1 := Lib.hid hM
          have M2 := Lib.hid hM'
          have KK := Lib.hid (below_regrown wr)
          have Q1 : Hid (∀ d os, Calls Tryz.prog 43 #[.slice A3 n3 c3, .slice A4 n4 c4] (grow (redrawn wr d) os) fun e w'' => e = .returned (.bool true) ∧ ∃ p : Regrown, w'' = grow (redrawn wr p.d) p.os) := fun d os => same_mat_q M1.out M2.out d os
          have x1 := fun d os => cell_regrown X0.out d os
          have y1 := fun d os => cell_regrown Y0.out d os
          have u1 := fun d os => cell_regrown u0 d os
          have v1 := fun d os => cell_regrown v0 d os
          clear hu hv hM hM' x0 y0 u0 v0 xw yw
          go_wp2_with fail
          refine wp_region_quiet_below (by kernel_rfl) (by kernel_rfl) ?_
          repeat (go_big_quiet_step ((go_at_call 43; exact Q1.out _ _)))
          refine wpQuiet_nil ?_
          intro _ hw'
          obtain ⟨⟨dq, osq⟩, hw''⟩ := hw'
          subst hw''
          have BQ2 := Lib.hid (below_regrown wr dq osq)
          clear x1 y1 u1 v1 Q1 KK
          generalize grow (redrawn wr dq) osq = w5 at *
          go_wp2_with fail
          go_roundw
          case rel => exact ⟨j + 1, by omega, by go_num, HBJ.out.trans (BQ2.out.mono HBJ.out.size)⟩
          case measure => simp [intOf]; omega
        · obtain rfl : j = n1 := by omega
          clear x0 y0 xw yw
          go_wp2_with fail
          go_roundw
          case rel => exact ⟨k + 1, by omega, by go_num, HB3.out⟩
          case measure => simp [intOf]; omega
    · obtain rfl : k = n := by omega
      go_wp2
      go_ret
      exact ⟨rfl, HB.out⟩
/-- Two policies in memory that are the same. -/
def PSame (d : Nat) : Prop := ∀ {w : World} {R R' : Nat → Prop} {m : Nat} {p : Pol} {A1 A2 A3 A4 B1 B2 B3 B4 : Option Addr} {n1 n2 n3 n4 ak1 ak2 ak3 ak4 bk1 bk2 bk3 bk4 : Nat},
  p.id.size ≤ maxLen → (Tg w R A1 n1 ak1 p.tg ∧ Rus w R A2 n2 ak2 p.rules ∧ Pls w R d A3 n3 ak3 p.kids ∧ Dus w R A4 n4 ak4 p.ob) → (Tg w R' B1 n1 bk1 p.tg ∧ Rus w R' B2 n2 bk2 p.rules ∧ Pls w R' m B3 n3 bk3 p.kids ∧ Dus w R' B4 n4 bk4 p.ob) →
  Calls Tryz.prog 18 #[.agg #[.string p.id, .bool p.set, .int .i64 p.alg, .slice A1 n1 ak1, .slice A2 n2 ak2, .slice A3 n3 ak3, .slice A4 n4 ak4], .agg #[.string p.id, .bool p.set, .int .i64 p.alg, .slice B1 n1 bk1, .slice B2 n2 bk2, .slice B3 n3 bk3, .slice B4 n4 bk4]] w fun e w' => e = .returned (.bool true) ∧ Below w.heap.size w w'
theorem same_q {d m : Nat} (ih : PSame d) {p : Pol} {A1 A2 A3 A4 B1 B2 B3 B4 : Option Addr} {n1 n2 n3 n4 ak1 ak2 ak3 ak4 bk1 bk2 bk3 bk4 : Nat}
    (hid : p.id.size ≤ maxLen) (hA : Tg w R A1 n1 ak1 p.tg ∧ Rus w R A2 n2 ak2 p.rules ∧ Pls w R d A3 n3 ak3 p.kids ∧ Dus w R A4 n4 ak4 p.ob) (hB : Tg w R' B1 n1 bk1 p.tg ∧ Rus w R' B2 n2 bk2 p.rules ∧ Pls w R' m B3 n3 bk3 p.kids ∧ Dus w R' B4 n4 bk4 p.ob) (dd : Nat) (os : Array Obj) :
    Calls Tryz.prog 18 #[.agg #[.string p.id, .bool p.set, .int .i64 p.alg, .slice A1 n1 ak1, .slice A2 n2 ak2, .slice A3 n3 ak3, .slice A4 n4 ak4], .agg #[.string p.id, .bool p.set, .int .i64 p.alg, .slice B1 n1 bk1, .slice B2 n2 bk2, .slice B3 n3 bk3, .slice B4 n4 bk4]] (grow (redrawn w dd) os) fun e w'' => e = .returned (.bool true) ∧ ∃ p : Regrown, w'' = grow (redrawn w p.d) p.os := by
  have k1 := Kept.all (below_regrown w dd os) R
  have k2 := Kept.all (below_regrown w dd os) R'
  exact Calls.regrown_of (ih (R := R) (R' := R') hid ⟨hA.1.keep k1 (fun _ h _ => h), hA.2.1.keep k1 (fun _ h _ => h), hA.2.2.1.keep k1 (fun _ h _ => h), hA.2.2.2.keep k1 (fun _ h _ => h)⟩ ⟨hB.1.keep k2 (fun _ h _ => h), hB.2.1.keep k2 (fun _ h _ => h), hB.2.2.1.keep k2 (fun _ h _ => h), hB.2.2.2.keep k2 (fun _ h _ => h)⟩)
set_option maxRecDepth 100000 in
set_option maxHeartbeats 3200000 in
theorem same_step (d : Nat) (ih : ∀ d', d = d' + 1 → PSame d') : PSame d := by
  intro w R R' m p A1 A2 A3 A4 B1 B2 B3 B4 n1 n2 n3 n4 ak1 ak2 ak3 ak4 bk1 bk2 bk3 bk4 hid hA hB
  have HA := Lib.hid hA
  have HB := Lib.hid hB
  have BA : Hid (Below w.heap.size w ((w.alloc (.cells #[.string p.id, .bool p.set, .int .i64 p.alg, .slice A1 n1 ak1, .slice A2 n2 ak2, .slice A3 n3 ak3, .slice A4 n4 ak4] 28)).alloc (.cells #[.string p.id, .bool p.set, .int .i64 p.alg, .slice B1 n1 bk1, .slice B2 n2 bk2, .slice B3 n3 bk3, .slice B4 n4 bk4] 28))) := (((Below.refl _ _).alloc (Nat.le_refl _) _).alloc (by rw [size_al]; omega) _)
  have PA : Hid (Ob ((w.alloc (.cells #[.string p.id, .bool p.set, .int .i64 p.alg, .slice A1 n1 ak1, .slice A2 n2 ak2, .slice A3 n3 ak3, .slice A4 n4 ak4] 28)).alloc (.cells #[.string p.id, .bool p.set, .int .i64 p.alg, .slice B1 n1 bk1, .slice B2 n2 bk2, .slice B3 n3 bk3, .slice B4 n4 bk4] 28)) w.heap.size 28 #[.string p.id, .bool p.set, .int .i64 p.alg, .slice A1 n1 ak1, .slice A2 n2 ak2, .slice A3 n3 ak3, .slice A4 n4 ak4]) := (Ob.made _ _ _).keep (Below.heap_alloc _ _ _ (by rw [size_al]; omega))
  have PB : Hid (Ob ((w.alloc (.cells #[.string p.id, .bool p.set, .int .i64 p.alg, .slice A1 n1 ak1, .slice A2 n2 ak2, .slice A3 n3 ak3, .slice A4 n4 ak4] 28)).alloc (.cells #[.string p.id, .bool p.set, .int .i64 p.alg, .slice B1 n1 bk1, .slice B2 n2 bk2, .slice B3 n3 bk3, .slice B4 n4 bk4] 28)) (w.heap.size + 1) 28 #[.string p.id, .bool p.set, .int .i64 p.alg, .slice B1 n1 bk1, .slice B2 n2 bk2, .slice B3 n3 bk3, .slice B4 n4 bk4]) := Lib.hid (by have := Ob.made (w.alloc (.cells #[.string p.id, .bool p.set, .int .i64 p.alg, .slice A1 n1 ak1, .slice A2 n2 ak2, .slice A3 n3 ak3, .slice A4 n4 ak4] 28)) 28 #[.string p.id, .bool p.set, .int .i64 p.alg, .slice B1 n1 bk1, .slice B2 n2 bk2, .slice B3 n3 bk3, .slice B4 n4 bk4]; simpa using this)
  have HID := Lib.hid hid
  clear hid hA hB
  have T1 := Lib.hid (HA.out.1.keep (Kept.all BA.out R) (fun _ h _ => h))
  have T2 := Lib.hid (HB.out.1.keep (Kept.all BA.out R') (fun _ h _ => h))
  have hlt1 : n1 ≤ 1000000000000000 := by have := T1.out.big; omega
  go_enter Tryz.func18, Tryz.ntmps18
  have pa0 := PA.out.cell 0
  have pb0 := PB.out.cell 0
  have pa1 := PA.out.cell 1
  have pb1 := PB.out.cell 1
  have pa2 := PA.out.cell 2
  have pb2 := PB.out.cell 2
  have pa3 := PA.out.cell 3
  have pb3 := PB.out.cell 3
  have pa4 := PA.out.cell 4
  have pb4 := PB.out.cell 4
  have pa5 := PA.out.cell 5
  have pb5 := PB.out.cell 5
  have pa6 := PA.out.cell 6
  have pb6 := PB.out.cell 6
  go_wp2_with fail
  go_at_call 22
  refine (same_tgt T1.out T2.out).mono ?_
  rintro e w1 ⟨rfl, hb⟩
  have BA1 := Lib.hid (below_step BA.out hb)
  have PA1 := Lib.hid (PA.out.below hb PA.out.lt)
  have PB1 := Lib.hid (PB.out.below hb PB.out.lt)
  clear hb
  have T3 := Lib.hid (HA.out.2.2.2.keep (Kept.all BA1.out R) (fun _ h _ => h))
  have T4 := Lib.hid (HB.out.2.2.2.keep (Kept.all BA1.out R') (fun _ h _ => h))
  have pa10 := PA1.out.cell 0
  have pb10 := PB1.out.cell 0
  have pa11 := PA1.out.cell 1
  have pb11 := PB1.out.cell 1
  have pa12 := PA1.out.cell 2
  have pb12 := PB1.out.cell 2
  have pa13 := PA1.out.cell 3
  have pb13 := PB1.out.cell 3
  have pa14 := PA1.out.cell 4
  have pb14 := PB1.out.cell 4
  have pa15 := PA1.out.cell 5
  have pb15 := PB1.out.cell 5
  have pa16 := PA1.out.cell 6
  have pb16 := PB1.out.cell 6
  go_wp2_with fail
  go_at_call 38
  refine (same_dut T3.out T4.out).mono ?_
  rintro e w2 ⟨rfl, hb⟩
  have BA2 := Lib.hid (below_step BA1.out hb)
  have PA2 := Lib.hid (PA1.out.below hb PA1.out.lt)
  have PB2 := Lib.hid (PB1.out.below hb PB1.out.lt)
  clear hb BA1 PA1 PB1 BA PA PB T1 T2 T3 T4
  have hcap2 := Rw.cap HA.out.2.1
  have hcap3 := Rw.cap HA.out.2.2.1
  have hle2 := Rw.le HA.out.2.1
  have hle2' := Rw.le HB.out.2.1
  have hle3 := Rw.le HA.out.2.2.1
  have hle3' := Rw.le HB.out.2.2.1
  unfold maxLen at hcap2 hcap3
  have pa20 := PA2.out.cell 0
  have pb20 := PB2.out.cell 0
  have pa21 := PA2.out.cell 1
  have pb21 := PB2.out.cell 1
  have pa22 := PA2.out.cell 2
  have pb22 := PB2.out.cell 2
  have pa23 := PA2.out.cell 3
  have pb23 := PB2.out.cell 3
  have pa24 := PA2.out.cell 4
  have pb24 := PB2.out.cell 4
  have pa25 := PA2.out.cell 5
  have pb25 := PB2.out.cell 5
  have pa26 := PA2.out.cell 6
  have pb26 := PB2.out.cell 6
  go_wp2_with fail
  go_loopw [65] (fun i wr => ∃ k : Nat, k ≤ n2 ∧ i = .int .i64 k ∧ Below w2.heap.size w2 wr) (fun i _ => n2 - (intOf i).toNat)
  case atStart => exact ⟨0, Nat.zero_le _, rfl, Below.refl _ _⟩
  case round =>
    obtain ⟨k, hk, rfl, hb⟩ := hrel
    have HBR := Lib.hid hb
    have PA3 := Lib.hid (PA2.out.below hb PA2.out.lt)
    have PB3 := Lib.hid (PB2.out.below hb PB2.out.lt)
    have BA3 := Lib.hid (below_step BA2.out hb)
    clear hb
    by_cases hlt : k < n2
    · obtain ⟨b, o, r, C1, m1, c1, C2, m2, c2, C3, m3, c3, rfl, _, _, hr, hid, ⟨x0, x1, x2, x3, x4⟩, ht, hn, hd⟩ := (Rus.keep HA.out.2.1 (Kept.all BA3.out R) (fun _ h _ => h)).at_ hlt
      obtain ⟨b', o', r', D1, q1, d1, D2, q2, d2, D3, q3, d3, rfl, _, _, hr', _, ⟨y0, y1, y2, y3, y4⟩, ht', hn', hd'⟩ := (Rus.keep HB.out.2.1 (Kept.all BA3.out R') (fun _ h _ => h)).at_ hlt
      obtain rfl := Option.some.inj (hr.symm.trans hr')
      obtain rfl := Rw.same_len ht ht'
      obtain rfl := Rw.same_len hn hn'
      obtain rfl := Rw.same_len hd hd'
      have L1 := Lib.hid ht
      have L2 := Lib.hid hn
      have L3 := Lib.hid hd
      have L1' := Lib.hid ht'
      have L2' := Lib.hid hn'
      have L3' := Lib.hid hd'
      have z4 := PA3.out.cell 4
      have z4' := PB3.out.cell 4
      have KF : Hid (∀ V : World, Below wr.heap.size wr V → V.cell? ⟨w.heap.size, 4, none⟩ = some (.slice (some ⟨b, o, none⟩) n2 ak2) ∧ V.cell? ⟨w.heap.size + 1, 4, none⟩ = some (.slice (some ⟨b', o', none⟩) n2 bk2) ∧
          V.cell? ⟨b, o + k * 5, none⟩ = some (.string r.id) ∧ V.cell? ⟨b, o + k * 5 + 1, none⟩ = some (.bool r.deny) ∧ V.cell? ⟨b, o + k * 5 + 2, none⟩ = some (.slice C1 m1 c1) ∧ V.cell? ⟨b, o + k * 5 + 3, none⟩ = some (.slice C2 m2 c2) ∧ V.cell? ⟨b, o + k * 5 + 4, none⟩ = some (.slice C3 m3 c3) ∧
          V.cell? ⟨b', o' + k * 5, none⟩ = some (.string r.id) ∧ V.cell? ⟨b', o' + k * 5 + 1, none⟩ = some (.bool r.deny) ∧ V.cell? ⟨b', o' + k * 5 + 2, none⟩ = some (.slice D1 m1 d1) ∧ V.cell? ⟨b', o' + k * 5 + 3, none⟩ = some (.slice D2 m2 d2) ∧ V.cell? ⟨b', o' + k * 5 + 4, none⟩ = some (.slice D3 m3 d3)) := fun V hV => by
        have e : ∀ {a : Addr} {v : Value}, wr.cell? a = some v → V.cell? a = some v := fun h => (hV.cell (block_lt_of_cell h)).trans h
        exact ⟨e z4, e z4', e x0, e x1, e x2, e x3, e x4, e y0, e y1, e y2, e y3, e y4⟩
      clear hr hr' hid ht hn hd ht' hn' hd' z4 z4' x0 x1 x2 x3 x4 y0 y1 y2 y3 y4
      go_wp2_with fail
      go_cut [6, 7] from 68 to 77 (fun u v wx => ∃ g1 g2, u = .pointer (some ⟨g1, 0, none⟩) ∧ v = .pointer (some ⟨g2, 0, none⟩) ∧ Ob wx g1 48 #[.string r.id, .bool r.deny, .slice C1 m1 c1, .slice C2 m2 c2, .slice C3 m3 c3] ∧ Ob wx g2 48 #[.string r.id, .bool r.deny, .slice D1 m1 d1, .slice D2 m2 d2, .slice D3 m3 d3] ∧ Below wr.heap.size wr wx)
      case first =>
        refine wp_region_held_tail (fun w' => Below wr.heap.size wr w') 13 (by kernel_rfl) (by kernel_rfl) ?_
        intro G
        change HeadW _ _ _ _ _ _ _ _ _ _ (wr.drewN 1)
        have S0 := Lib.hid (below_drewN (Below.refl wr.heap.size wr) 1)
        have LB0 : wr.heap.size ≤ (wr.drewN 1).heap.size := Nat.le_refl _
        generalize wr.drewN 1 = v0 at *
        refine HeadW_take (i := 0) (v := ?_) G rfl (by kernel_rfl) (by kernel_rfl) (by kernel_rfl) (fun _ _ _ h => h) (Or.inl ⟨by rfl, ?_⟩) S0.out ?_
        rotate_left
        · intro wz hS
          obtain ⟨z4, z4', x0, x1, x2, x3, x4, y0, y1, y2, y3, y4⟩ := KF.out _ hS
          go_simp
          try with_reducible rfl
        refine HeadW_take (i := 1) (v := ?_) G rfl (by kernel_rfl) (by kernel_rfl) (by kernel_rfl) (fun _ _ _ h => h) (Or.inl ⟨by rfl, ?_⟩) S0.out ?_
        rotate_left
        · intro wz hS
          obtain ⟨z4, z4', x0, x1, x2, x3, x4, y0, y1, y2, y3, y4⟩ := KF.out _ hS
          go_simp
          try with_reducible rfl
        refine HeadW_take (i := 2) (v := ?_) G rfl (by kernel_rfl) (by kernel_rfl) (by kernel_rfl) (fun _ _ _ h => h) (Or.inl ⟨by rfl, ?_⟩) S0.out ?_
        rotate_left
        · intro wz hS
          obtain ⟨z4, z4', x0, x1, x2, x3, x4, y0, y1, y2, y3, y4⟩ := KF.out _ hS
          go_simp
          try with_reducible rfl
        refine HeadW_take (i := 3) (v := ?_) G rfl (by kernel_rfl) (by kernel_rfl) (by kernel_rfl) (fun _ _ _ h => h) (Or.inl ⟨by rfl, ?_⟩) S0.out ?_
        rotate_left
        · intro wz hS
          obtain ⟨z4, z4', x0, x1, x2, x3, x4, y0, y1, y2, y3, y4⟩ := KF.out _ hS
          go_simp
          try with_reducible rfl
        refine HeadW_take (i := 4) (v := ?_) G rfl (by kernel_rfl) (by kernel_rfl) (by kernel_rfl) (fun _ _ _ h => h) (Or.inl ⟨by rfl, ?_⟩) S0.out ?_
        rotate_left
        · intro wz hS
          obtain ⟨z4, z4', x0, x1, x2, x3, x4, y0, y1, y2, y3, y4⟩ := KF.out _ hS
          go_simp
          try with_reducible rfl
        refine HeadW_take (i := 5) (v := ?_) G rfl (by kernel_rfl) (by kernel_rfl) (by kernel_rfl) (fun _ _ _ h => h) (Or.inl ⟨by rfl, ?_⟩) S0.out ?_
        rotate_left
        · intro wz hS
          obtain ⟨z4, z4', x0, x1, x2, x3, x4, y0, y1, y2, y3, y4⟩ := KF.out _ hS
          go_simp
          try with_reducible rfl
        refine HeadW_take (i := 6) (v := ?_) G rfl (by kernel_rfl) (by kernel_rfl) (by kernel_rfl) (fun _ _ _ h => h) (Or.inl ⟨by rfl, ?_⟩) S0.out ?_
        rotate_left
        · intro wz hS
          obtain ⟨z4, z4', x0, x1, x2, x3, x4, y0, y1, y2, y3, y4⟩ := KF.out _ hS
          go_simp
          try with_reducible rfl
        refine HeadW_take (i := 7) (v := ?_) G rfl (by kernel_rfl) (by kernel_rfl) (by kernel_rfl) (fun _ _ _ h => h) (Or.inl ⟨by rfl, ?_⟩) S0.out ?_
        rotate_left
        · intro wz hS
          obtain ⟨z4, z4', x0, x1, x2, x3, x4, y0, y1, y2, y3, y4⟩ := KF.out _ hS
          go_simp
          try with_reducible rfl
        refine HeadW_take (i := 8) (v := ?_) G rfl (by kernel_rfl) (by kernel_rfl) (by kernel_rfl) (fun _ _ _ h => h) (Or.inl ⟨by rfl, ?_⟩) S0.out ?_
        rotate_left
        · intro wz hS
          obtain ⟨z4, z4', x0, x1, x2, x3, x4, y0, y1, y2, y3, y4⟩ := KF.out _ hS
          go_simp
          try with_reducible rfl
        refine HeadW_take (i := 9) (v := ?_) G rfl (by kernel_rfl) (by kernel_rfl) (by kernel_rfl) (fun _ _ _ h => h) (Or.inl ⟨by rfl, ?_⟩) S0.out ?_
        rotate_left
        · intro wz hS
          obtain ⟨z4, z4', x0, x1, x2, x3, x4, y0, y1, y2, y3, y4⟩ := KF.out _ hS
          go_simp
          try with_reducible rfl
        refine HeadW_ready (rs := [10, 11]) (by kernel_rfl) rfl rfl ?_
        refine AllW.cons rfl (fun K hK => ?_) (AllW.cons rfl (fun K hK => ?_) AllW.nil)
        · go_simp
          have hb : Below v0.heap.size v0 (v0.alloc (.cells #[.string ⟨#[]⟩, .bool false, .slice none 0 0, .slice none 0 0, .slice none 0 0] 48)) := (Below.refl _ _).alloc (Nat.le_refl _) _
          have S1 := Lib.hid (S0.out.trans (hb.mono LB0))
          have Ea := Lib.hid (Ob.made v0 48 #[.string ⟨#[]⟩, .bool false, .slice none 0 0, .slice none 0 0, .slice none 0 0])
          have Xa : v0.heap.size < (v0.alloc (.cells #[.string ⟨#[]⟩, .bool false, .slice none 0 0, .slice none 0 0, .slice none 0 0] 48)).heap.size := by rw [size_al]; omega
          refine hK _ _ S1.out ?_
          clear hK K hb
          generalize v0.alloc (.cells #[.string ⟨#[]⟩, .bool false, .slice none 0 0, .slice none 0 0, .slice none 0 0] 48) = v1 at *
          have LB1 : wr.heap.size ≤ v1.heap.size := by omega
          refine HeadW_ready (rs := [11]) (by kernel_rfl) rfl rfl ?_
          refine AllW.cons rfl (fun K hK => ?_) AllW.nil
          go_simp
          have hb : Below v1.heap.size v1 (v1.alloc (.cells #[.string ⟨#[]⟩, .bool false, .slice none 0 0, .slice none 0 0, .slice none 0 0] 48)) := (Below.refl _ _).alloc (Nat.le_refl _) _
          have S2 := Lib.hid (S1.out.trans (hb.mono LB1))
          have E1 := Lib.hid (Ea.out.below hb Ea.out.lt)
          have E2 := Lib.hid (Ob.made v1 48 #[.string ⟨#[]⟩, .bool false, .slice none 0 0, .slice none 0 0, .slice none 0 0])
          refine hK _ _ S2.out ?_
          clear hK K hb
          generalize v1.alloc (.cells #[.string ⟨#[]⟩, .bool false, .slice none 0 0, .slice none 0 0, .slice none 0 0] 48) = v2 at *
          have sc1 := E1.out.cell 0
          have sf1 := E1.out.frozen 0
          have me1 : Hid (Ob (v2.setCell ⟨v0.heap.size, 0, none⟩ (.string r.id)) (v0.heap.size) 48 #[.string r.id, .bool false, .slice none 0 0, .slice none 0 0, .slice none 0 0]) := Lib.hid (by have := E1.out.put 0 (.string r.id); simpa using this)
          have ot1 := Lib.hid (E2.out.keep (Below.heap_setCell v2 ⟨v0.heap.size, 0, none⟩ (.string r.id) _ (by show v1.heap.size ≠ v0.heap.size; omega)))
          have bb1 := Lib.hid (S2.out.setCell (p := ⟨v0.heap.size, 0, none⟩) (by show wr.heap.size ≤ v0.heap.size; omega) (.string r.id))
          have sc2 := me1.out.cell 1
          have sf2 := me1.out.frozen 1
          have me2 : Hid (Ob ((v2.setCell ⟨v0.heap.size, 0, none⟩ (.string r.id)).setCell ⟨v0.heap.size, 1, none⟩ (.bool r.deny)) (v0.heap.size) 48 #[.string r.id, .bool r.deny, .slice none 0 0, .slice none 0 0, .slice none 0 0]) := Lib.hid (by have := me1.out.put 1 (.bool r.deny); simpa using this)
          have ot2 := Lib.hid (ot1.out.keep (Below.heap_setCell (v2.setCell ⟨v0.heap.size, 0, none⟩ (.string r.id)) ⟨v0.heap.size, 1, none⟩ (.bool r.deny) _ (by show v1.heap.size ≠ v0.heap.size; omega)))
          have bb2 := Lib.hid (bb1.out.setCell (p := ⟨v0.heap.size, 1, none⟩) (by show wr.heap.size ≤ v0.heap.size; omega) (.bool r.deny))
          have sc3 := me2.out.cell 2
          have sf3 := me2.out.frozen 2
          have me3 : Hid (Ob (((v2.setCell ⟨v0.heap.size, 0, none⟩ (.string r.id)).setCell ⟨v0.heap.size, 1, none⟩ (.bool r.deny)).setCell ⟨v0.heap.size, 2, none⟩ (.slice C1 m1 c1)) (v0.heap.size) 48 #[.string r.id, .bool r.deny, .slice C1 m1 c1, .slice none 0 0, .slice none 0 0]) := Lib.hid (by have := me2.out.put 2 (.slice C1 m1 c1); simpa using this)
          have ot3 := Lib.hid (ot2.out.keep (Below.heap_setCell ((v2.setCell ⟨v0.heap.size, 0, none⟩ (.string r.id)).setCell ⟨v0.heap.size, 1, none⟩ (.bool r.deny)) ⟨v0.heap.size, 2, none⟩ (.slice C1 m1 c1) _ (by show v1.heap.size ≠ v0.heap.size; omega)))
          have bb3 := Lib.hid (bb2.out.setCell (p := ⟨v0.heap.size, 2, none⟩) (by show wr.heap.size ≤ v0.heap.size; omega) (.slice C1 m1 c1))
          have sc4 := me3.out.cell 3
          have sf4 := me3.out.frozen 3
          have me4 : Hid (Ob ((((v2.setCell ⟨v0.heap.size, 0, none⟩ (.string r.id)).setCell ⟨v0.heap.size, 1, none⟩ (.bool r.deny)).setCell ⟨v0.heap.size, 2, none⟩ (.slice C1 m1 c1)).setCell ⟨v0.heap.size, 3, none⟩ (.slice C2 m2 c2)) (v0.heap.size) 48 #[.string r.id, .bool r.deny, .slice C1 m1 c1, .slice C2 m2 c2, .slice none 0 0]) := Lib.hid (by have := me3.out.put 3 (.slice C2 m2 c2); simpa using this)
          have ot4 := Lib.hid (ot3.out.keep (Below.heap_setCell (((v2.setCell ⟨v0.heap.size, 0, none⟩ (.string r.id)).setCell ⟨v0.heap.size, 1, none⟩ (.bool r.deny)).setCell ⟨v0.heap.size, 2, none⟩ (.slice C1 m1 c1)) ⟨v0.heap.size, 3, none⟩ (.slice C2 m2 c2) _ (by show v1.heap.size ≠ v0.heap.size; omega)))
          have bb4 := Lib.hid (bb3.out.setCell (p := ⟨v0.heap.size, 3, none⟩) (by show wr.heap.size ≤ v0.heap.size; omega) (.slice C2 m2 c2))
          have sc5 := me4.out.cell 4
          have sf5 := me4.out.frozen 4
          have me5 : Hid (Ob (((((v2.setCell ⟨v0.heap.size, 0, none⟩ (.string r.id)).setCell ⟨v0.heap.size, 1, none⟩ (.bool r.deny)).setCell ⟨v0.heap.size, 2, none⟩ (.slice C1 m1 c1)).setCell ⟨v0.heap.size, 3, none⟩ (.slice C2 m2 c2)).setCell ⟨v0.heap.size, 4, none⟩ (.slice C3 m3 c3)) (v0.heap.size) 48 #[.string r.id, .bool r.deny, .slice C1 m1 c1, .slice C2 m2 c2, .slice C3 m3 c3]) := Lib.hid (by have := me4.out.put 4 (.slice C3 m3 c3); simpa using this)
          have ot5 := Lib.hid (ot4.out.keep (Below.heap_setCell ((((v2.setCell ⟨v0.heap.size, 0, none⟩ (.string r.id)).setCell ⟨v0.heap.size, 1, none⟩ (.bool r.deny)).setCell ⟨v0.heap.size, 2, none⟩ (.slice C1 m1 c1)).setCell ⟨v0.heap.size, 3, none⟩ (.slice C2 m2 c2)) ⟨v0.heap.size, 4, none⟩ (.slice C3 m3 c3) _ (by show v1.heap.size ≠ v0.heap.size; omega)))
          have bb5 := Lib.hid (bb4.out.setCell (p := ⟨v0.heap.size, 4, none⟩) (by show wr.heap.size ≤ v0.heap.size; omega) (.slice C3 m3 c3))
          refine HeadW_ready (rs := [12]) (by kernel_rfl) rfl rfl ?_
          refine AllW.cons rfl (fun K hK => ?_) AllW.nil
          go_simp
          refine hK _ _ bb5.out ?_
          clear hK K
          intro _
          refine ⟨by kernel_rfl, ?_⟩
          simp only [List.drop_succ_cons, List.drop_zero]
          have sc6 := ot5.out.cell 0
          have sf6 := ot5.out.frozen 0
          have me6 : Hid (Ob ((((((v2.setCell ⟨v0.heap.size, 0, none⟩ (.string r.id)).setCell ⟨v0.heap.size, 1, none⟩ (.bool r.deny)).setCell ⟨v0.heap.size, 2, none⟩ (.slice C1 m1 c1)).setCell ⟨v0.heap.size, 3, none⟩ (.slice C2 m2 c2)).setCell ⟨v0.heap.size, 4, none⟩ (.slice C3 m3 c3)).setCell ⟨v1.heap.size, 0, none⟩ (.string r.id)) (v1.heap.size) 48 #[.string r.id, .bool false, .slice none 0 0, .slice none 0 0, .slice none 0 0]) := Lib.hid (by have := ot5.out.put 0 (.string r.id); simpa using this)
          have ot6 := Lib.hid (me5.out.keep (Below.heap_setCell (((((v2.setCell ⟨v0.heap.size, 0, none⟩ (.string r.id)).setCell ⟨v0.heap.size, 1, none⟩ (.bool r.deny)).setCell ⟨v0.heap.size, 2, none⟩ (.slice C1 m1 c1)).setCell ⟨v0.heap.size, 3, none⟩ (.slice C2 m2 c2)).setCell ⟨v0.heap.size, 4, none⟩ (.slice C3 m3 c3)) ⟨v1.heap.size, 0, none⟩ (.string r.id) _ (by show v0.heap.size ≠ v1.heap.size; omega)))
          have bb6 := Lib.hid (bb5.out.setCell (p := ⟨v1.heap.size, 0, none⟩) (by show wr.heap.size ≤ v1.heap.size; omega) (.string r.id))
          have sc7 := me6.out.cell 1
          have sf7 := me6.out.frozen 1
          have me7 : Hid (Ob (((((((v2.setCell ⟨v0.heap.size, 0, none⟩ (.string r.id)).setCell ⟨v0.heap.size, 1, none⟩ (.bool r.deny)).setCell ⟨v0.heap.size, 2, none⟩ (.slice C1 m1 c1)).setCell ⟨v0.heap.size, 3, none⟩ (.slice C2 m2 c2)).setCell ⟨v0.heap.size, 4, none⟩ (.slice C3 m3 c3)).setCell ⟨v1.heap.size, 0, none⟩ (.string r.id)).setCell ⟨v1.heap.size, 1, none⟩ (.bool r.deny)) (v1.heap.size) 48 #[.string r.id, .bool r.deny, .slice none 0 0, .slice none 0 0, .slice none 0 0]) := Lib.hid (by have := me6.out.put 1 (.bool r.deny); simpa using this)
          have ot7 := Lib.hid (ot6.out.keep (Below.heap_setCell ((((((v2.setCell ⟨v0.heap.size, 0, none⟩ (.string r.id)).setCell ⟨v0.heap.size, 1, none⟩ (.bool r.deny)).setCell ⟨v0.heap.size, 2, none⟩ (.slice C1 m1 c1)).setCell ⟨v0.heap.size, 3, none⟩ (.slice C2 m2 c2)).setCell ⟨v0.heap.size, 4, none⟩ (.slice C3 m3 c3)).setCell ⟨v1.heap.size, 0, none⟩ (.string r.id)) ⟨v1.heap.size, 1, none⟩ (.bool r.deny) _ (by show v0.heap.size ≠ v1.heap.size; omega)))
          have bb7 := Lib.hid (bb6.out.setCell (p := ⟨v1.heap.size, 1, none⟩) (by show wr.heap.size ≤ v1.heap.size; omega) (.bool r.deny))
          have sc8 := me7.out.cell 2
          have sf8 := me7.out.frozen 2
          have me8 : Hid (Ob ((((((((v2.setCell ⟨v0.heap.size, 0, none⟩ (.string r.id)).setCell ⟨v0.heap.size, 1, none⟩ (.bool r.deny)).setCell ⟨v0.heap.size, 2, none⟩ (.slice C1 m1 c1)).setCell ⟨v0.heap.size, 3, none⟩ (.slice C2 m2 c2)).setCell ⟨v0.heap.size, 4, none⟩ (.slice C3 m3 c3)).setCell ⟨v1.heap.size, 0, none⟩ (.string r.id)).setCell ⟨v1.heap.size, 1, none⟩ (.bool r.deny)).setCell ⟨v1.heap.size, 2, none⟩ (.slice D1 m1 d1)) (v1.heap.size) 48 #[.string r.id, .bool r.deny, .slice D1 m1 d1, .slice none 0 0, .slice none 0 0]) := Lib.hid (by have := me7.out.put 2 (.slice D1 m1 d1); simpa using this)
          have ot8 := Lib.hid (ot7.out.keep (Below.heap_setCell (((((((v2.setCell ⟨v0.heap.size, 0, none⟩ (.string r.id)).setCell ⟨v0.heap.size, 1, none⟩ (.bool r.deny)).setCell ⟨v0.heap.size, 2, none⟩ (.slice C1 m1 c1)).setCell ⟨v0.heap.size, 3, none⟩ (.slice C2 m2 c2)).setCell ⟨v0.heap.size, 4, none⟩ (.slice C3 m3 c3)).setCell ⟨v1.heap.size, 0, none⟩ (.string r.id)).setCell ⟨v1.heap.size, 1, none⟩ (.bool r.deny)) ⟨v1.heap.size, 2, none⟩ (.slice D1 m1 d1) _ (by show v0.heap.size ≠ v1.heap.size; omega)))
          have bb8 := Lib.hid (bb7.out.setCell (p := ⟨v1.heap.size, 2, none⟩) (by show wr.heap.size ≤ v1.heap.size; omega) (.slice D1 m1 d1))
          have sc9 := me8.out.cell 3
          have sf9 := me8.out.frozen 3
          have me9 : Hid (Ob (((((((((v2.setCell ⟨v0.heap.size, 0, none⟩ (.string r.id)).setCell ⟨v0.heap.size, 1, none⟩ (.bool r.deny)).setCell ⟨v0.heap.size, 2, none⟩ (.slice C1 m1 c1)).setCell ⟨v0.heap.size, 3, none⟩ (.slice C2 m2 c2)).setCell ⟨v0.heap.size, 4, none⟩ (.slice C3 m3 c3)).setCell ⟨v1.heap.size, 0, none⟩ (.string r.id)).setCell ⟨v1.heap.size, 1, none⟩ (.bool r.deny)).setCell ⟨v1.heap.size, 2, none⟩ (.slice D1 m1 d1)).setCell ⟨v1.heap.size, 3, none⟩ (.slice D2 m2 d2)) (v1.heap.size) 48 #[.string r.id, .bool r.deny, .slice D1 m1 d1, .slice D2 m2 d2, .slice none 0 0]) := Lib.hid (by have := me8.out.put 3 (.slice D2 m2 d2); simpa using this)
          have ot9 := Lib.hid (ot8.out.keep (Below.heap_setCell ((((((((v2.setCell ⟨v0.heap.size, 0, none⟩ (.string r.id)).setCell ⟨v0.heap.size, 1, none⟩ (.bool r.deny)).setCell ⟨v0.heap.size, 2, none⟩ (.slice C1 m1 c1)).setCell ⟨v0.heap.size, 3, none⟩ (.slice C2 m2 c2)).setCell ⟨v0.heap.size, 4, none⟩ (.slice C3 m3 c3)).setCell ⟨v1.heap.size, 0, none⟩ (.string r.id)).setCell ⟨v1.heap.size, 1, none⟩ (.bool r.deny)).setCell ⟨v1.heap.size, 2, none⟩ (.slice D1 m1 d1)) ⟨v1.heap.size, 3, none⟩ (.slice D2 m2 d2) _ (by show v0.heap.size ≠ v1.heap.size; omega)))
          have bb9 := Lib.hid (bb8.out.setCell (p := ⟨v1.heap.size, 3, none⟩) (by show wr.heap.size ≤ v1.heap.size; omega) (.slice D2 m2 d2))
          have sc10 := me9.out.cell 4
          have sf10 := me9.out.frozen 4
          have me10 : Hid (Ob ((((((((((v2.setCell ⟨v0.heap.size, 0, none⟩ (.string r.id)).setCell ⟨v0.heap.size, 1, none⟩ (.bool r.deny)).setCell ⟨v0.heap.size, 2, none⟩ (.slice C1 m1 c1)).setCell ⟨v0.heap.size, 3, none⟩ (.slice C2 m2 c2)).setCell ⟨v0.heap.size, 4, none⟩ (.slice C3 m3 c3)).setCell ⟨v1.heap.size, 0, none⟩ (.string r.id)).setCell ⟨v1.heap.size, 1, none⟩ (.bool r.deny)).setCell ⟨v1.heap.size, 2, none⟩ (.slice D1 m1 d1)).setCell ⟨v1.heap.size, 3, none⟩ (.slice D2 m2 d2)).setCell ⟨v1.heap.size, 4, none⟩ (.slice D3 m3 d3)) (v1.heap.size) 48 #[.string r.id, .bool r.deny, .slice D1 m1 d1, .slice D2 m2 d2, .slice D3 m3 d3]) := Lib.hid (by have := me9.out.put 4 (.slice D3 m3 d3); simpa using this)
          have ot10 := Lib.hid (ot9.out.keep (Below.heap_setCell (((((((((v2.setCell ⟨v0.heap.size, 0, none⟩ (.string r.id)).setCell ⟨v0.heap.size, 1, none⟩ (.bool r.deny)).setCell ⟨v0.heap.size, 2, none⟩ (.slice C1 m1 c1)).setCell ⟨v0.heap.size, 3, none⟩ (.slice C2 m2 c2)).setCell ⟨v0.heap.size, 4, none⟩ (.slice C3 m3 c3)).setCell ⟨v1.heap.size, 0, none⟩ (.string r.id)).setCell ⟨v1.heap.size, 1, none⟩ (.bool r.deny)).setCell ⟨v1.heap.size, 2, none⟩ (.slice D1 m1 d1)).setCell ⟨v1.heap.size, 3, none⟩ (.slice D2 m2 d2)) ⟨v1.heap.size, 4, none⟩ (.slice D3 m3 d3) _ (by show v0.heap.size ≠ v1.heap.size; omega)))
          have bb10 := Lib.hid (bb9.out.setCell (p := ⟨v1.heap.size, 4, none⟩) (by show wr.heap.size ≤ v1.heap.size; omega) (.slice D3 m3 d3))
          go_wp2_with fail
          go_meet
          case rel => exact ⟨_, _, rfl, rfl, ot10.out, me10.out, bb10.out⟩
        · go_simp
          have hb : Below v0.heap.size v0 (v0.alloc (.cells #[.string ⟨#[]⟩, .bool false, .slice none 0 0, .slice none 0 0, .slice none 0 0] 48)) := (Below.refl _ _).alloc (Nat.le_refl _) _
          have S1 := Lib.hid (S0.out.trans (hb.mono LB0))
          have Ea := Lib.hid (Ob.made v0 48 #[.string ⟨#[]⟩, .bool false, .slice none 0 0, .slice none 0 0, .slice none 0 0])
          have Xa : v0.heap.size < (v0.alloc (.cells #[.string ⟨#[]⟩, .bool false, .slice none 0 0, .slice none 0 0, .slice none 0 0] 48)).heap.size := by rw [size_al]; omega
          refine hK _ _ S1.out ?_
          clear hK K hb
          generalize v0.alloc (.cells #[.string ⟨#[]⟩, .bool false, .slice none 0 0, .slice none 0 0, .slice none 0 0] 48) = v1 at *
          have LB1 : wr.heap.size ≤ v1.heap.size := by omega
          refine HeadW_ready (rs := [10]) (by kernel_rfl) rfl rfl ?_
          refine AllW.cons rfl (fun K hK => ?_) AllW.nil
          go_simp
          have hb : Below v1.heap.size v1 (v1.alloc (.cells #[.string ⟨#[]⟩, .bool false, .slice none 0 0, .slice none 0 0, .slice none 0 0] 48)) := (Below.refl _ _).alloc (Nat.le_refl _) _
          have S2 := Lib.hid (S1.out.trans (hb.mono LB1))
          have E2 := Lib.hid (Ea.out.below hb Ea.out.lt)
          have E1 := Lib.hid (Ob.made v1 48 #[.string ⟨#[]⟩, .bool false, .slice none 0 0, .slice none 0 0, .slice none 0 0])
          refine hK _ _ S2.out ?_
          clear hK K hb
          generalize v1.alloc (.cells #[.string ⟨#[]⟩, .bool false, .slice none 0 0, .slice none 0 0, .slice none 0 0] 48) = v2 at *
          have sc1 := E1.out.cell 0
          have sf1 := E1.out.frozen 0
          have me1 : Hid (Ob (v2.setCell ⟨v1.heap.size, 0, none⟩ (.string r.id)) (v1.heap.size) 48 #[.string r.id, .bool false, .slice none 0 0, .slice none 0 0, .slice none 0 0]) := Lib.hid (by have := E1.out.put 0 (.string r.id); simpa using this)
          have ot1 := Lib.hid (E2.out.keep (Below.heap_setCell v2 ⟨v1.heap.size, 0, none⟩ (.string r.id) _ (by show v0.heap.size ≠ v1.heap.size; omega)))
          have bb1 := Lib.hid (S2.out.setCell (p := ⟨v1.heap.size, 0, none⟩) (by show wr.heap.size ≤ v1.heap.size; omega) (.string r.id))
          have sc2 := me1.out.cell 1
          have sf2 := me1.out.frozen 1
          have me2 : Hid (Ob ((v2.setCell ⟨v1.heap.size, 0, none⟩ (.string r.id)).setCell ⟨v1.heap.size, 1, none⟩ (.bool r.deny)) (v1.heap.size) 48 #[.string r.id, .bool r.deny, .slice none 0 0, .slice none 0 0, .slice none 0 0]) := Lib.hid (by have := me1.out.put 1 (.bool r.deny); simpa using this)
          have ot2 := Lib.hid (ot1.out.keep (Below.heap_setCell (v2.setCell ⟨v1.heap.size, 0, none⟩ (.string r.id)) ⟨v1.heap.size, 1, none⟩ (.bool r.deny) _ (by show v0.heap.size ≠ v1.heap.size; omega)))
          have bb2 := Lib.hid (bb1.out.setCell (p := ⟨v1.heap.size, 1, none⟩) (by show wr.heap.size ≤ v1.heap.size; omega) (.bool r.deny))
          have sc3 := me2.out.cell 2
          have sf3 := me2.out.frozen 2
          have me3 : Hid (Ob (((v2.setCell ⟨v1.heap.size, 0, none⟩ (.string r.id)).setCell ⟨v1.heap.size, 1, none⟩ (.bool r.deny)).setCell ⟨v1.heap.size, 2, none⟩ (.slice C1 m1 c1)) (v1.heap.size) 48 #[.string r.id, .bool r.deny, .slice C1 m1 c1, .slice none 0 0, .slice none 0 0]) := Lib.hid (by have := me2.out.put 2 (.slice C1 m1 c1); simpa using this)
          have ot3 := Lib.hid (ot2.out.keep (Below.heap_setCell ((v2.setCell ⟨v1.heap.size, 0, none⟩ (.string r.id)).setCell ⟨v1.heap.size, 1, none⟩ (.bool r.deny)) ⟨v1.heap.size, 2, none⟩ (.slice C1 m1 c1) _ (by show v0.heap.size ≠ v1.heap.size; omega)))
          have bb3 := Lib.hid (bb2.out.setCell (p := ⟨v1.heap.size, 2, none⟩) (by show wr.heap.size ≤ v1.heap.size; omega) (.slice C1 m1 c1))
          have sc4 := me3.out.cell 3
          have sf4 := me3.out.frozen 3
          have me4 : Hid (Ob ((((v2.setCell ⟨v1.heap.size, 0, none⟩ (.string r.id)).setCell ⟨v1.heap.size, 1, none⟩ (.bool r.deny)).setCell ⟨v1.heap.size, 2, none⟩ (.slice C1 m1 c1)).setCell ⟨v1.heap.size, 3, none⟩ (.slice C2 m2 c2)) (v1.heap.size) 48 #[.string r.id, .bool r.deny, .slice C1 m1 c1, .slice C2 m2 c2, .slice none 0 0]) := Lib.hid (by have := me3.out.put 3 (.slice C2 m2 c2); simpa using this)
          have ot4 := Lib.hid (ot3.out.keep (Below.heap_setCell (((v2.setCell ⟨v1.heap.size, 0, none⟩ (.string r.id)).setCell ⟨v1.heap.size, 1, none⟩ (.bool r.deny)).setCell ⟨v1.heap.size, 2, none⟩ (.slice C1 m1 c1)) ⟨v1.heap.size, 3, none⟩ (.slice C2 m2 c2) _ (by show v0.heap.size ≠ v1.heap.size; omega)))
          have bb4 := Lib.hid (bb3.out.setCell (p := ⟨v1.heap.size, 3, none⟩) (by show wr.heap.size ≤ v1.heap.size; omega) (.slice C2 m2 c2))
          have sc5 := me4.out.cell 4
          have sf5 := me4.out.frozen 4
          have me5 : Hid (Ob (((((v2.setCell ⟨v1.heap.size, 0, none⟩ (.string r.id)).setCell ⟨v1.heap.size, 1, none⟩ (.bool r.deny)).setCell ⟨v1.heap.size, 2, none⟩ (.slice C1 m1 c1)).setCell ⟨v1.heap.size, 3, none⟩ (.slice C2 m2 c2)).setCell ⟨v1.heap.size, 4, none⟩ (.slice C3 m3 c3)) (v1.heap.size) 48 #[.string r.id, .bool r.deny, .slice C1 m1 c1, .slice C2 m2 c2, .slice C3 m3 c3]) := Lib.hid (by have := me4.out.put 4 (.slice C3 m3 c3); simpa using this)
          have ot5 := Lib.hid (ot4.out.keep (Below.heap_setCell ((((v2.setCell ⟨v1.heap.size, 0, none⟩ (.string r.id)).setCell ⟨v1.heap.size, 1, none⟩ (.bool r.deny)).setCell ⟨v1.heap.size, 2, none⟩ (.slice C1 m1 c1)).setCell ⟨v1.heap.size, 3, none⟩ (.slice C2 m2 c2)) ⟨v1.heap.size, 4, none⟩ (.slice C3 m3 c3) _ (by show v0.heap.size ≠ v1.heap.size; omega)))
          have bb5 := Lib.hid (bb4.out.setCell (p := ⟨v1.heap.size, 4, none⟩) (by show wr.heap.size ≤ v1.heap.size; omega) (.slice C3 m3 c3))
          refine HeadW_ready (rs := [12]) (by kernel_rfl) rfl rfl ?_
          refine AllW.cons rfl (fun K hK => ?_) AllW.nil
          go_simp
          refine hK _ _ bb5.out ?_
          clear hK K
          intro _
          refine ⟨by kernel_rfl, ?_⟩
          simp only [List.drop_succ_cons, List.drop_zero]
          have sc6 := ot5.out.cell 0
          have sf6 := ot5.out.frozen 0
          have me6 : Hid (Ob ((((((v2.setCell ⟨v1.heap.size, 0, none⟩ (.string r.id)).setCell ⟨v1.heap.size, 1, none⟩ (.bool r.deny)).setCell ⟨v1.heap.size, 2, none⟩ (.slice C1 m1 c1)).setCell ⟨v1.heap.size, 3, none⟩ (.slice C2 m2 c2)).setCell ⟨v1.heap.size, 4, none⟩ (.slice C3 m3 c3)).setCell ⟨v0.heap.size, 0, none⟩ (.string r.id)) (v0.heap.size) 48 #[.string r.id, .bool false, .slice none 0 0, .slice none 0 0, .slice none 0 0]) := Lib.hid (by have := ot5.out.put 0 (.string r.id); simpa using this)
          have ot6 := Lib.hid (me5.out.keep (Below.heap_setCell (((((v2.setCell ⟨v1.heap.size, 0, none⟩ (.string r.id)).setCell ⟨v1.heap.size, 1, none⟩ (.bool r.deny)).setCell ⟨v1.heap.size, 2, none⟩ (.slice C1 m1 c1)).setCell ⟨v1.heap.size, 3, none⟩ (.slice C2 m2 c2)).setCell ⟨v1.heap.size, 4, none⟩ (.slice C3 m3 c3)) ⟨v0.heap.size, 0, none⟩ (.string r.id) _ (by show v1.heap.size ≠ v0.heap.size; omega)))
          have bb6 := Lib.hid (bb5.out.setCell (p := ⟨v0.heap.size, 0, none⟩) (by show wr.heap.size ≤ v0.heap.size; omega) (.string r.id))
          have sc7 := me6.out.cell 1
          have sf7 := me6.out.frozen 1
          have me7 : Hid (Ob (((((((v2.setCell ⟨v1.heap.size, 0, none⟩ (.string r.id)).setCell ⟨v1.heap.size, 1, none⟩ (.bool r.deny)).setCell ⟨v1.heap.size, 2, none⟩ (.slice C1 m1 c1)).setCell ⟨v1.heap.size, 3, none⟩ (.slice C2 m2 c2)).setCell ⟨v1.heap.size, 4, none⟩ (.slice C3 m3 c3)).setCell ⟨v0.heap.size, 0, none⟩ (.string r.id)).setCell ⟨v0.heap.size, 1, none⟩ (.bool r.deny)) (v0.heap.size) 48 #[.string r.id, .bool r.deny, .slice none 0 0, .slice none 0 0, .slice none 0 0]) := Lib.hid (by have := me6.out.put 1 (.bool r.deny); simpa using this)
          have ot7 := Lib.hid (ot6.out.keep (Below.heap_setCell ((((((v2.setCell ⟨v1.heap.size, 0, none⟩ (.string r.id)).setCell ⟨v1.heap.size, 1, none⟩ (.bool r.deny)).setCell ⟨v1.heap.size, 2, none⟩ (.slice C1 m1 c1)).setCell ⟨v1.heap.size, 3, none⟩ (.slice C2 m2 c2)).setCell ⟨v1.heap.size, 4, none⟩ (.slice C3 m3 c3)).setCell ⟨v0.heap.size, 0, none⟩ (.string r.id)) ⟨v0.heap.size, 1, none⟩ (.bool r.deny) _ (by show v1.heap.size ≠ v0.heap.size; omega)))
          have bb7 := Lib.hid (bb6.out.setCell (p := ⟨v0.heap.size, 1, none⟩) (by show wr.heap.size ≤ v0.heap.size; omega) (.bool r.deny))
          have sc8 := me7.out.cell 2
          have sf8 := me7.out.frozen 2
          have me8 : Hid (Ob ((((((((v2.setCell ⟨v1.heap.size, 0, none⟩ (.string r.id)).setCell ⟨v1.heap.size, 1, none⟩ (.bool r.deny)).setCell ⟨v1.heap.size, 2, none⟩ (.slice C1 m1 c1)).setCell ⟨v1.heap.size, 3, none⟩ (.slice C2 m2 c2)).setCell ⟨v1.heap.size, 4, none⟩ (.slice C3 m3 c3)).setCell ⟨v0.heap.size, 0, none⟩ (.string r.id)).setCell ⟨v0.heap.size, 1, none⟩ (.bool r.deny)).setCell ⟨v0.heap.size, 2, none⟩ (.slice D1 m1 d1)) (v0.heap.size) 48 #[.string r.id, .bool r.deny, .slice D1 m1 d1, .slice none 0 0, .slice none 0 0]) := Lib.hid (by have := me7.out.put 2 (.slice D1 m1 d1); simpa using this)
          have ot8 := Lib.hid (ot7.out.keep (Below.heap_setCell (((((((v2.setCell ⟨v1.heap.size, 0, none⟩ (.string r.id)).setCell ⟨v1.heap.size, 1, none⟩ (.bool r.deny)).setCell ⟨v1.heap.size, 2, none⟩ (.slice C1 m1 c1)).setCell ⟨v1.heap.size, 3, none⟩ (.slice C2 m2 c2)).setCell ⟨v1.heap.size, 4, none⟩ (.slice C3 m3 c3)).setCell ⟨v0.heap.size, 0, none⟩ (.string r.id)).setCell ⟨v0.heap.size, 1, none⟩ (.bool r.deny)) ⟨v0.heap.size, 2, none⟩ (.slice D1 m1 d1) _ (by show v1.heap.size ≠ v0.heap.size; omega)))
          have bb8 := Lib.hid (bb7.out.setCell (p := ⟨v0.heap.size, 2, none⟩) (by show wr.heap.size ≤ v0.heap.size; omega) (.slice D1 m1 d1))
          have sc9 := me8.out.cell 3
          have sf9 := me8.out.frozen 3
          have me9 : Hid (Ob (((((((((v2.setCell ⟨v1.heap.size, 0, none⟩ (.string r.id)).setCell ⟨v1.heap.size, 1, none⟩ (.bool r.deny)).setCell ⟨v1.heap.size, 2, none⟩ (.slice C1 m1 c1)).setCell ⟨v1.heap.size, 3, none⟩ (.slice C2 m2 c2)).setCell ⟨v1.heap.size, 4, none⟩ (.slice C3 m3 c3)).setCell ⟨v0.heap.size, 0, none⟩ (.string r.id)).setCell ⟨v0.heap.size, 1, none⟩ (.bool r.deny)).setCell ⟨v0.heap.size, 2, none⟩ (.slice D1 m1 d1)).setCell ⟨v0.heap.size, 3, none⟩ (.slice D2 m2 d2)) (v0.heap.size) 48 #[.string r.id, .bool r.deny, .slice D1 m1 d1, .slice D2 m2 d2, .slice none 0 0]) := Lib.hid (by have := me8.out.put 3 (.slice D2 m2 d2); simpa using this)
          have ot9 := Lib.hid (ot8.out.keep (Below.heap_setCell ((((((((v2.setCell ⟨v1.heap.size, 0, none⟩ (.string r.id)).setCell ⟨v1.heap.size, 1, none⟩ (.bool r.deny)).setCell ⟨v1.heap.size, 2, none⟩ (.slice C1 m1 c1)).setCell ⟨v1.heap.size, 3, none⟩ (.slice C2 m2 c2)).setCell ⟨v1.heap.size, 4, none⟩ (.slice C3 m3 c3)).setCell ⟨v0.heap.size, 0, none⟩ (.string r.id)).setCell ⟨v0.heap.size, 1, none⟩ (.bool r.deny)).setCell ⟨v0.heap.size, 2, none⟩ (.slice D1 m1 d1)) ⟨v0.heap.size, 3, none⟩ (.slice D2 m2 d2) _ (by show v1.heap.size ≠ v0.heap.size; omega)))
          have bb9 := Lib.hid (bb8.out.setCell (p := ⟨v0.heap.size, 3, none⟩) (by show wr.heap.size ≤ v0.heap.size; omega) (.slice D2 m2 d2))
          have sc10 := me9.out.cell 4
          have sf10 := me9.out.frozen 4
          have me10 : Hid (Ob ((((((((((v2.setCell ⟨v1.heap.size, 0, none⟩ (.string r.id)).setCell ⟨v1.heap.size, 1, none⟩ (.bool r.deny)).setCell ⟨v1.heap.size, 2, none⟩ (.slice C1 m1 c1)).setCell ⟨v1.heap.size, 3, none⟩ (.slice C2 m2 c2)).setCell ⟨v1.heap.size, 4, none⟩ (.slice C3 m3 c3)).setCell ⟨v0.heap.size, 0, none⟩ (.string r.id)).setCell ⟨v0.heap.size, 1, none⟩ (.bool r.deny)).setCell ⟨v0.heap.size, 2, none⟩ (.slice D1 m1 d1)).setCell ⟨v0.heap.size, 3, none⟩ (.slice D2 m2 d2)).setCell ⟨v0.heap.size, 4, none⟩ (.slice D3 m3 d3)) (v0.heap.size) 48 #[.string r.id, .bool r.deny, .slice D1 m1 d1, .slice D2 m2 d2, .slice D3 m3 d3]) := Lib.hid (by have := me9.out.put 4 (.slice D3 m3 d3); simpa using this)
          have ot10 := Lib.hid (ot9.out.keep (Below.heap_setCell (((((((((v2.setCell ⟨v1.heap.size, 0, none⟩ (.string r.id)).setCell ⟨v1.heap.size, 1, none⟩ (.bool r.deny)).setCell ⟨v1.heap.size, 2, none⟩ (.slice C1 m1 c1)).setCell ⟨v1.heap.size, 3, none⟩ (.slice C2 m2 c2)).setCell ⟨v1.heap.size, 4, none⟩ (.slice C3 m3 c3)).setCell ⟨v0.heap.size, 0, none⟩ (.string r.id)).setCell ⟨v0.heap.size, 1, none⟩ (.bool r.deny)).setCell ⟨v0.heap.size, 2, none⟩ (.slice D1 m1 d1)).setCell ⟨v0.heap.size, 3, none⟩ (.slice D2 m2 d2)) ⟨v0.heap.size, 4, none⟩ (.slice D3 m3 d3) _ (by show v1.heap.size ≠ v0.heap.size; omega)))
          have bb10 := Lib.hid (bb9.out.setCell (p := ⟨v0.heap.size, 4, none⟩) (by show wr.heap.size ≤ v0.heap.size; omega) (.slice D3 m3 d3))
          go_wp2_with fail
          go_meet
          case rel => exact ⟨_, _, rfl, rfl, ot10.out, me10.out, bb10.out⟩
      case rest =>
        obtain ⟨g1, g2, rfl, rfl, o1, o2, hb⟩ := hcut
        have BA4 := Lib.hid (below_step BA3.out hb)
        have HB4 := Lib.hid (below_step HBR.out hb)
        have M1 := Lib.hid (L1.out.keep (Kept.all hb R) (fun _ h _ => h))
        have M1' := Lib.hid (L1'.out.keep (Kept.all hb R') (fun _ h _ => h))
        have M2 := Lib.hid (L2.out.keep (Kept.all hb R) (fun _ h _ => h))
        have M2' := Lib.hid (L2'.out.keep (Kept.all hb R') (fun _ h _ => h))
        have M3 := Lib.hid (L3.out.keep (Kept.all hb R) (fun _ h _ => h))
        have M3' := Lib.hid (L3'.out.keep (Kept.all hb R') (fun _ h _ => h))
        have P1 := Lib.hid o1
        have P2 := Lib.hid o2
        clear hb o1 o2 L1 L2 L3 L1' L2' L3' KF BA3 HBR
        have ra00 := P1.out.cell 0
        have rb00 := P2.out.cell 0
        have ra01 := P1.out.cell 1
        have rb01 := P2.out.cell 1
        have ra02 := P1.out.cell 2
        have rb02 := P2.out.cell 2
        have ra03 := P1.out.cell 3
        have rb03 := P2.out.cell 3
        have ra04 := P1.out.cell 4
        have rb04 := P2.out.cell 4
        go_wp2_with fail
        go_at_call 22
        refine (same_tgt M1.out M1'.out).mono ?_
        rintro e u1 ⟨rfl, hb⟩
        have BA5 := Lib.hid (below_step BA4.out hb)
        have HB5 := Lib.hid (below_step HB4.out hb)
        have N2 := Lib.hid (M2.out.keep (Kept.all hb R) (fun _ h _ => h))
        have N2' := Lib.hid (M2'.out.keep (Kept.all hb R') (fun _ h _ => h))
        have N3 := Lib.hid (M3.out.keep (Kept.all hb R) (fun _ h _ => h))
        have N3' := Lib.hid (M3'.out.keep (Kept.all hb R') (fun _ h _ => h))
        have P3 := Lib.hid (P1.out.below hb P1.out.lt)
        have P4 := Lib.hid (P2.out.below hb P2.out.lt)
        clear hb M1 M1' M2 M2' M3 M3' P1 P2 BA4 HB4
        have ra10 := P3.out.cell 0
        have rb10 := P4.out.cell 0
        have ra11 := P3.out.cell 1
        have rb11 := P4.out.cell 1
        have ra12 := P3.out.cell 2
        have rb12 := P4.out.cell 2
        have ra13 := P3.out.cell 3
        have rb13 := P4.out.cell 3
        have ra14 := P3.out.cell 4
        have rb14 := P4.out.cell 4
        go_wp2_with fail
        go_at_call 21
        refine (same_nod N2.out N2'.out).mono ?_
        rintro e u2 ⟨rfl, hb⟩
        have BA6 := Lib.hid (below_step BA5.out hb)
        have HB6 := Lib.hid (below_step HB5.out hb)
        have K3 := Lib.hid (N3.out.keep (Kept.all hb R) (fun _ h _ => h))
        have K3' := Lib.hid (N3'.out.keep (Kept.all hb R') (fun _ h _ => h))
        have P5 := Lib.hid (P3.out.below hb P3.out.lt)
        have P6 := Lib.hid (P4.out.below hb P4.out.lt)
        clear hb N2 N2' N3 N3' P3 P4 BA5 HB5
        have ra20 := P5.out.cell 0
        have rb20 := P6.out.cell 0
        have ra21 := P5.out.cell 1
        have rb21 := P6.out.cell 1
        have ra22 := P5.out.cell 2
        have rb22 := P6.out.cell 2
        have ra23 := P5.out.cell 3
        have rb23 := P6.out.cell 3
        have ra24 := P5.out.cell 4
        have rb24 := P6.out.cell 4
        go_wp2_with fail
        go_at_call 38
        refine (same_dut K3.out K3'.out).mono ?_
        rintro e u3 ⟨rfl, hb⟩
        have HB7 := Lib.hid (below_step HB6.out hb)
        clear hb K3 K3' P5 P6 BA6 HB6
        go_wp2_with fail
        go_roundw
        case rel => exact ⟨k + 1, by omega, by go_num, HB7.out⟩
        case measure => simp [intOf]; omega
    · obtain rfl : k = n2 := by omega
      have z5 := PA3.out.cell 5
      have z5' := PB3.out.cell 5
      have HSW : Hid (w.heap.size + 1 < wr.heap.size) := PB3.out.lt
      go_wp2_with fail
      obtain ⟨wo, hwo⟩ : ∃ wo, wo = wr := ⟨wr, rfl⟩
      subst hwo
      go_loopw [118] (fun i wq => ∃ j : Nat, j ≤ n3 ∧ i = .int .i64 j ∧ Below wo.heap.size wo wq) (fun i _ => n3 - (intOf i).toNat)
      case atStart => exact ⟨0, Nat.zero_le _, rfl, Below.refl _ _⟩
      case round =>
        obtain ⟨j, hj, rfl, hb⟩ := hrel
        have BA4 := Lib.hid (below_step BA3.out hb)
        have HBJ := Lib.hid hb
        have PA4 := Lib.hid (PA3.out.below hb PA3.out.lt)
        have PB4 := Lib.hid (PB3.out.below hb PB3.out.lt)
        clear hb
        by_cases hlt : j < n3
        · obtain ⟨b, o, q, e, C1, m1, c1, C2, m2, c2, C3, m3, c3, C4, m4, c4, rfl, _, _, hq, hd, ⟨hid, halg⟩, ⟨x0, x1, x2, x3, x4, x5, x6⟩, ht, hn, hp, hdu⟩ := (Pls.keep HA.out.2.2.1 (Kept.all BA4.out R) (fun _ h _ => h)).at_ hlt
          obtain ⟨b', o', q', e', D1, q1, d1, D2, q2, d2, D3, q3, d3, D4, q4, d4, rfl, _, _, hq', hd', _, ⟨y0, y1, y2, y3, y4, y5, y6⟩, ht', hn', hp', hdu'⟩ := (Pls.keep HB.out.2.2.1 (Kept.all BA4.out R') (fun _ h _ => h)).at_ hlt
          obtain rfl := Option.some.inj (hq.symm.trans hq')
          obtain rfl := Rw.same_len ht ht'
          obtain rfl := Rw.same_len hn hn'
          obtain rfl := Rw.same_len hp hp'
          obtain rfl := Rw.same_len hdu hdu'
          have Q1 : Hid (∀ d os, Calls Tryz.prog 18 #[.agg #[.string q.id, .bool q.set, .int .i64 q.alg, .slice C1 m1 c1, .slice C2 m2 c2, .slice C3 m3 c3, .slice C4 m4 c4], .agg #[.string q.id, .bool q.set, .int .i64 q.alg, .slice D1 m1 d1, .slice D2 m2 d2, .slice D3 m3 d3, .slice D4 m4 d4]] (grow (redrawn wr d) os) fun e w'' => e = .returned (.bool true) ∧ ∃ p : Regrown, w'' = grow (redrawn wr p.d) p.os) := by
            have h1 := Lib.hid ht; have h2 := Lib.hid hn; have h3 := Lib.hid hp; have h4 := Lib.hid hdu
            have k1 := Lib.hid ht'; have k2 := Lib.hid hn'; have k3 := Lib.hid hp'; have k4 := Lib.hid hdu'
            exact same_q (@ih e hd) hid ⟨h1.out, h2.out, h3.out, h4.out⟩ ⟨k1.out, k2.out, k3.out, k4.out⟩
          have z6 := PA4.out.cell 5
          have z6' := PB4.out.cell 5
          have v6 := fun d os => cell_regrown z6 d os
          have v6' := fun d os => cell_regrown z6' d os
          have xx0 := fun d os => cell_regrown x0 d os
          have yy0 := fun d os => cell_regrown y0 d os
          have xx1 := fun d os => cell_regrown x1 d os
          have yy1 := fun d os => cell_regrown y1 d os
          have xx2 := fun d os => cell_regrown x2 d os
          have yy2 := fun d os => cell_regrown y2 d os
          have xx3 := fun d os => cell_regrown x3 d os
          have yy3 := fun d os => cell_regrown y3 d os
          have xx4 := fun d os => cell_regrown x4 d os
          have yy4 := fun d os => cell_regrown y4 d os
          have xx5 := fun d os => cell_regrown x5 d os
          have yy5 := fun d os => cell_regrown y5 d os
          have xx6 := fun d os => cell_regrown x6 d os
          have yy6 := fun d os => cell_regrown y6 d os
          clear hq hq' hd hd' hid halg ht hn hp hdu ht' hn' hp' hdu' z5 z5' z6 z6' x0 x1 x2 x3 x4 x5 x6 y0 y1 y2 y3 y4 y5 y6
          go_wp2_with fail
          refine wp_region_quiet_below (by kernel_rfl) (by kernel_rfl) ?_
          repeat (go_big_quiet_step ((go_at_call 18; exact Q1.out _ _)))
          refine wpQuiet_nil ?_
          intro _ hw'
          obtain ⟨⟨dq, osq⟩, hw''⟩ := hw'
          subst hw''
          have BQ2 := Lib.hid (below_regrown wr dq osq)
          clear v6 v6' Q1 xx0 yy0 xx1 yy1 xx2 yy2 xx3 yy3 xx4 yy4 xx5 yy5 xx6 yy6
          generalize grow (redrawn wr dq) osq = w5 at *
          go_wp2_with fail
          go_roundw
          case rel => exact ⟨j + 1, by omega, by go_num, HBJ.out.trans (BQ2.out.mono HBJ.out.size)⟩
          case measure => simp [intOf]; omega
        · obtain rfl : j = n3 := by omega
          clear z5 z5'
          go_wp2_with fail
          go_ret
          exact ⟨rfl, BA4.out⟩
theorem same_all : ∀ d, PSame d
  | 0 => same_step 0 (fun d' e => by omega)
  | d + 1 => same_step (d + 1) (fun d' e => by obtain rfl : d = d' := by omega
                                               exact same_all d)
end
end Go.Proofs.YtdbnaaddocahpaaGreatDoor
/- What the laws of stage 10 take of the parser and of the test for sameness. -/
namespace Go.Proofs.YtdbnaaddocahpaaGreatDoor
set_option linter.unusedVariables false
open Go.RowKit

theorem parse_is {w : World} {s : ByteArray} {p : Pol} {e i : Int} (h : parseR s = (p, e, i)) (hs : s.size ≤ maxLen) : Calls Tryz.prog 20 #[.string s] w fun x w' => ∃ y, x = .returned (.tuple #[y, .int .i64 e, .int .i64 i]) ∧ Below w.heap.size w w' ∧ PolOf w w' 5 p y := by
  have := parse_any (w := w) s hs
  unfold ParseP at this
  rw [h] at this
  exact this
theorem PolAt.in_ {w : World} {R : Nat → Prop} {d : Nat} {p : Pol} {A1 A2 A3 A4 : Option Addr} {n1 n2 n3 n4 c1 c2 c3 c4 : Nat} (h : PolAt w R (d + 1) [.string p.id, .bool p.set, .int .i64 p.alg, .slice A1 n1 c1, .slice A2 n2 c2, .slice A3 n3 c3, .slice A4 n4 c4] p) : PolIn w R p A1 n1 c1 A2 n2 c2 A3 n3 c3 A4 n4 c4 := by
  obtain ⟨B1, m1, d1, B2, m2, d2, B3, m3, d3, B4, m4, d4, e, h0, h00, h1, h2, h3, h4⟩ := h
  simp at e
  obtain ⟨⟨rfl, rfl, rfl⟩, ⟨rfl, rfl, rfl⟩, ⟨rfl, rfl, rfl⟩, ⟨rfl, rfl, rfl⟩⟩ := e
  exact ⟨⟨h0, h00⟩, h1, h2, ⟨d, h3⟩, h4⟩
/-- What is read of a text, as memory. -/
theorem parse_in {w : World} {s : ByteArray} {p : Pol} {e i : Int} (h : parseR s = (p, e, i)) (hs : s.size ≤ maxLen) : Calls Tryz.prog 20 #[.string s] w fun x w' => ∃ A1 n1 c1 A2 n2 c2 A3 n3 c3 A4 n4 c4, x = .returned (.tuple #[.agg #[.string p.id, .bool p.set, .int .i64 p.alg, .slice A1 n1 c1, .slice A2 n2 c2, .slice A3 n3 c3, .slice A4 n4 c4], .int .i64 e, .int .i64 i]) ∧ Below w.heap.size w w' ∧
    PolIn w' (fun _ => True) p A1 n1 c1 A2 n2 c2 A3 n3 c3 A4 n4 c4 := by
  refine (parse_is h hs).mono ?_
  rintro x w' ⟨y, rfl, hb, A1, n1, c1, A2, n2, c2, A3, n3, c3, A4, n4, c4, rfl, hp⟩
  exact ⟨A1, n1, c1, A2, n2, c2, A3, n3, c3, A4, n4, c4, rfl, hb, (PolAt.in_ hp).keep (Kept.refl _ _) (fun _ _ _ => trivial)⟩
theorem same_pol {w : World} {R R' : Nat → Prop} {p : Pol} {A1 A2 A3 A4 B1 B2 B3 B4 : Option Addr} {n1 n2 n3 n4 k1 k2 k3 k4 m1 m2 m3 m4 l1 l2 l3 l4 : Nat} (h : PolIn w R p A1 n1 k1 A2 n2 k2 A3 n3 k3 A4 n4 k4) (h' : PolIn w R' p B1 m1 l1 B2 m2 l2 B3 m3 l3 B4 m4 l4) :
    Calls Tryz.prog 18 #[.agg #[.string p.id, .bool p.set, .int .i64 p.alg, .slice A1 n1 k1, .slice A2 n2 k2, .slice A3 n3 k3, .slice A4 n4 k4], .agg #[.string p.id, .bool p.set, .int .i64 p.alg, .slice B1 m1 l1, .slice B2 m2 l2, .slice B3 m3 l3, .slice B4 m4 l4]] w fun e w' => e = .returned (.bool true) ∧ Below w.heap.size w w' := by
  obtain ⟨⟨h0, h00⟩, h1, h2, ⟨d, h3⟩, h4⟩ := h
  obtain ⟨_, g1, g2, ⟨d', g3⟩, g4⟩ := h'
  obtain rfl := Rw.same_len h1 g1
  obtain rfl := Rw.same_len h2 g2
  obtain rfl := Rw.same_len h3 g3
  obtain rfl := Rw.same_len h4 g4
  exact same_all d h0 ⟨h1, h2, h3, h4⟩ ⟨g1, g2, g3, g4⟩
/-- A right policy's text, as a text. -/
theorem text_of {p : Pol} (h : rightE p = 0) (hok : polOks 4 p) : ∃ x : ByteArray, x = ⟨(showP p).toArray⟩ ∧ 1 ≤ x.size ∧ x.size ≤ 1000000000000 ∧ (4096 < x.size ∧ parseR x = (noPol, 6, 4096) ∨ x.size ≤ 4096 ∧ parseR x = (p, 0, 0)) := by
  have e : (⟨(showP p).toArray⟩ : ByteArray).size = (polT p).length := by rw [showP_right h]; rfl
  have e2 : (⟨(showP p).toArray⟩ : ByteArray).data.toList = polT p := by rw [showP_right h]
  have hl := polT_len h hok
  have hn : 1 ≤ (polT p).length := List.length_pos_iff.2 show_some
  refine ⟨_, rfl, by omega, by omega, ?_⟩
  by_cases hb : 4096 < (⟨(showP p).toArray⟩ : ByteArray).size
  · exact .inl ⟨hb, parseR_big hb⟩
  · exact .inr ⟨by omega, show_read h hok (by omega) e2⟩
end Go.Proofs.YtdbnaaddocahpaaGreatDoor
/- bailiffkeep: how much of a target may be gone through. -/
namespace Go.Proofs.YtdbnaaddocahpaaGreatDoor
set_option linter.unusedVariables false
open Go.RowKit

theorem takes1_any {w : World} {g m n : Nat} (hl : Lf w g m) (hm : m ≤ 3000) (hn : n < maxLen) :
    Calls Tryz.prog 44 #[.pointer (some ⟨g, 0, none⟩), .int .i64 (1 + (n : Int))] w fun e w' => e = .returned (.bool (decide (1 + n ≤ m))) ∧ Only g w w' ∧ (1 + n ≤ m → Lf w' g (m - (1 + n))) := by
  have := takes_any (n := 1 + n) hl hm (by omega)
  unfold Taking at this
  rwa [show ((1 + n : Nat) : Int) = 1 + (n : Int) by omega] at this

set_option maxRecDepth 100000 in
set_option maxHeartbeats 1600000 in
theorem ktarget_any {w : World} {R : Nat → Prop} {g m n c : Nat} {A : Option Addr} {l : Tgt} (hl : Lf w g m) (hm : m ≤ 3000) (hR : ∀ b, R b → b ≠ g) (h : Tg w R A n c l) :
    Taking 46 #[.pointer (some ⟨g, 0, none⟩), .slice A n c] w g m (tgC l) := by
  have hle := Rw.le h
  have hcap := Rw.cap h
  have HL := Lib.hid (Rw.len h)
  have hbig := Rw.big h
  have HT := Lib.hid (takes1_any (n := n) hl hm (by unfold maxLen; omega))
  have H := Lib.hid h
  have HR := Lib.hid hR
  have HM := Lib.hid hm
  unfold maxLen at hcap
  unfold Taking
  have HC : Hid (tgC l = 1 + n + sumC anyC l) := by show tgC l = _; unfold tgC; rw [HL.out]
  generalize hcc : tgC l = cc at *
  clear hcc h hl hR hm
  by_cases h1 : 1 + n ≤ m
  · rw [decide_eq_true h1] at HT
    have H1 := Lib.hid h1
    clear h1
    go_enter Tryz.func46, Tryz.ntmps46
    go_wp2_with (go_at_call 44; refine HT.out.mono ?_; rintro e w1 ⟨rfl, hb, hw⟩; have B1 := Lib.hid hb; have W1 := Lib.hid (hw H1.out); clear hb hw)
    go_loopw [19] (fun i wr => ∃ k mk : Nat, k ≤ n ∧ i = .int .i64 k ∧ sumC anyC (l.take k) + mk = m - (1 + n) ∧ Lf wr g mk ∧ Only g w wr) (fun i _ => n - (intOf i).toNat)
    case atStart => exact ⟨0, m - (1 + n), Nat.zero_le _, rfl, by rw [sumC_zero]; omega, W1.out, B1.out⟩
    case round =>
      obtain ⟨wo, hwo⟩ : ∃ wo, wo = wr := ⟨wr, rfl⟩
      subst hwo
      obtain ⟨k, mk, hk, rfl, hs, hlf, hb⟩ := hrel
      have HS := Lib.hid hs
      have HB := Lib.hid hb
      have HF := Lib.hid hlf
      clear hs hb hlf
      by_cases hlt : k < n
      · obtain ⟨b, o, x, A', n', c', rfl, hRb, hbl, hx, c0, hin⟩ := (H.out.keep (HB.out.kept HR.out) (fun _ h _ => h)).at_ hlt
        have HX := Lib.hid hx
        have hle' := Rw.le hin
        have hcap' := Rw.cap hin
        have hbig' := Rw.big hin
        have HL' := Lib.hid (Rw.len hin)
        have HIN := Lib.hid hin
        have hsx := sumC_le (f := anyC) hx
        have hex : anyC x = 1 + n' + sumC allC x := by unfold anyC; rw [Rw.len hin]
        have HSX := Lib.hid hsx
        have HEX := Lib.hid hex
        clear hx hin hsx hex
        by_cases h2 : 1 + n' ≤ mk
        · have HT2 := Lib.hid (takes1_any (n := n') HF.out (by have := HS.out; have := HM.out; omega) (by unfold maxLen; omega))
          rw [decide_eq_true h2] at HT2
          unfold maxLen at hcap'
          have H2 := Lib.hid h2
          clear h2
          go_wp2_with (go_at_call 44; refine HT2.out.mono ?_; rintro e w2 ⟨rfl, hb, hw⟩; have B2 := Lib.hid hb; have W2 := Lib.hid (hw H2.out); clear hb hw)
          go_loopw [31] (fun i wq => ∃ k2 m2 : Nat, k2 ≤ n' ∧ i = .int .i64 k2 ∧ sumC allC (x.take k2) + m2 = mk - (1 + n') ∧ Lf wq g m2 ∧ Only g wo wq) (fun i _ => n' - (intOf i).toNat)
          case atStart => exact ⟨0, mk - (1 + n'), Nat.zero_le _, rfl, by rw [sumC_zero]; omega, W2.out, B2.out⟩
          case round =>
            obtain ⟨wq, hwq⟩ : ∃ wq, wq = wr := ⟨wr, rfl⟩
            subst hwq
            obtain ⟨k2, m2, hk2, rfl, hs, hlf, hb⟩ := hrel
            have HS2 := Lib.hid hs
            have HB2 := Lib.hid hb
            have HF2 := Lib.hid hlf
            clear hs hb hlf
            by_cases hlt2 : k2 < n'
            · obtain ⟨b2, o2, y, A2, n2, c2, rfl, hRb2, hbl2, hy, d0, hin2⟩ := (HIN.out.keep (HB2.out.kept HR.out) (fun _ h _ => h)).at_ hlt2
              have HY := Lib.hid hy
              have hle2 := Rw.le hin2
              have hcap2 := Rw.cap hin2
              have hbig2 := Rw.big hin2
              have HL2 := Lib.hid (Rw.len hin2)
              have HIN2 := Lib.hid hin2
              have hsy := sumC_le (f := allC) hy
              have hey : allC y = 1 + n2 + sumC matC y := by unfold allC; rw [Rw.len hin2]
              have HSY := Lib.hid hsy
              have HEY := Lib.hid hey
              clear hy hin2 hsy hey
              by_cases h3 : 1 + n2 ≤ m2
              · have HT3 := Lib.hid (takes1_any (n := n2) HF2.out (by have := HS2.out; have := HS.out; have := HM.out; omega) (by unfold maxLen; omega))
                rw [decide_eq_true h3] at HT3
                unfold maxLen at hcap2
                have H3 := Lib.hid h3
                clear h3
                go_wp2_with (go_at_call 44; refine HT3.out.mono ?_; rintro e w3 ⟨rfl, hb, hw⟩; have B3 := Lib.hid hb; have W3 := Lib.hid (hw H3.out); clear hb hw)
                go_loopw [43] (fun i wz => ∃ k3 m3 : Nat, k3 ≤ n2 ∧ i = .int .i64 k3 ∧ sumC matC (y.take k3) + m3 = m2 - (1 + n2) ∧ Lf wz g m3 ∧ Only g wq wz) (fun i _ => n2 - (intOf i).toNat)
                case atStart => exact ⟨0, m2 - (1 + n2), Nat.zero_le _, rfl, by rw [sumC_zero]; omega, W3.out, B3.out⟩
                case round =>
                  obtain ⟨wz, hwz⟩ : ∃ wz, wz = wr := ⟨wr, rfl⟩
                  subst hwz
                  obtain ⟨k3, m3, hk3, rfl, hs, hlf, hb⟩ := hrel
                  have HS3 := Lib.hid hs
                  have HB3 := Lib.hid hb
                  have HF3 := Lib.hid hlf
                  clear hs hb hlf
                  by_cases hlt3 : k3 < n2
                  · obtain ⟨b3, o3, z, rfl, hRb3, hbl3, hz, hok, f0, f1, f2, f3, f4, f5, f6⟩ := (HIN2.out.keep (HB3.out.kept HR.out) (fun _ h _ => h)).at_ hlt3
                    have HZ := Lib.hid hz
                    have HSZ := Lib.hid (sumC_le (f := matC) hz)
                    have HEZ : Hid (matC z = textC z.a.name + textC z.v.s) := rfl
                    have HXT := Lib.hid (ktext_any z.a.name (HF3.out.alloc (.cells #[.int .i64 z.a.cat, .string z.a.name, .bool z.a.must, .int .i64 z.op, .int .i64 z.v.k, .int .i64 z.v.n, .string z.v.s] 60)) (by have := HS3.out; have := HS2.out; have := HS.out; have := HM.out; omega) hok.1.2)
                    unfold Taking at HXT
                    have HOK := Lib.hid hok
                    have HLT : Hid (g < wz.heap.size) := HF3.out.lt
                    clear hz hok
                    by_cases h4 : textC z.a.name ≤ m3
                    · rw [decide_eq_true h4] at HXT
                      have H4 := Lib.hid h4
                      have hne : wz.heap.size ≠ g := by have := HLT.out; omega
                      clear h4
                      by_cases h5 : textC z.v.s ≤ m3 - textC z.a.name
                      · have H5 := Lib.hid h5
                        have d5 := decide_eq_true h5
                        clear h5
                        go_wp2_with (first
                          | (go_at_call 45; (with_reducible refine HXT.out.mono ?_); rintro e w4 ⟨rfl, hb, hw⟩; have B4 := Lib.hid hb; have W4 := Lib.hid (hw H4.out); have BX := Lib.hid ((Ob.made wz 60 #[.int .i64 z.a.cat, .string z.a.name, .bool z.a.must, .int .i64 z.op, .int .i64 z.v.k, .int .i64 z.v.n, .string z.v.s]).keep (hb.heap (by simp) hne)); have g6 := BX.out.cell 6; have HXT2 := Lib.hid (ktext_any z.v.s W4.out (by have := HS3.out; have := HS2.out; have := HS.out; have := HM.out; omega) HOK.out.2.2.2.2); unfold Taking at HXT2; rw [d5] at HXT2; clear hb hw)
                          | (go_at_call 45; (with_reducible refine HXT2.out.mono ?_); rintro e w5 ⟨rfl, hb, hw⟩; have B5 := Lib.hid hb; have W5 := Lib.hid (hw H5.out); clear hb hw))
                        go_roundw
                        case rel => exact ⟨k3 + 1, m3 - textC z.a.name - textC z.v.s, by omega, by go_num, by rw [sumC_take HZ.out, HEZ.out]; have := HS3.out; have := H4.out; have := H5.out; omega, W5.out, HB3.out.trans ((Only.alloc _ _ _).trans (B4.out.trans B5.out))⟩
                        case measure => simp [intOf]; omega
                      · have H5 := Lib.hid h5
                        have d5 := decide_eq_false h5
                        clear h5
                        go_wp2_with (first
                          | (go_at_call 45; (with_reducible refine HXT.out.mono ?_); rintro e w4 ⟨rfl, hb, hw⟩; have B4 := Lib.hid hb; have W4 := Lib.hid (hw H4.out); have BX := Lib.hid ((Ob.made wz 60 #[.int .i64 z.a.cat, .string z.a.name, .bool z.a.must, .int .i64 z.op, .int .i64 z.v.k, .int .i64 z.v.n, .string z.v.s]).keep (hb.heap (by simp) hne)); have g6 := BX.out.cell 6; have HXT2 := Lib.hid (ktext_any z.v.s W4.out (by have := HS3.out; have := HS2.out; have := HS.out; have := HM.out; omega) HOK.out.2.2.2.2); unfold Taking at HXT2; rw [d5] at HXT2; clear hb hw)
                          | (go_at_call 45; (with_reducible refine HXT2.out.mono ?_); rintro e w5 ⟨rfl, hb, hw⟩; have B5 := Lib.hid hb; clear hb hw))
                        go_ret
                        have hbad : ¬ cc ≤ m := by
                          have := HC.out; have := HS.out; have := H1.out; have := HSX.out; have := HEX.out; have := HS2.out; have := H2.out; have := HSY.out; have := HEY.out; have := HS3.out; have := H3.out; have := HSZ.out; have := HEZ.out; have := H4.out; have := H5.out
                          omega
                        exact ⟨ret_bool (decide_eq_false hbad).symm, HB.out.trans (HB2.out.trans (HB3.out.trans ((Only.alloc _ _ _).trans (B4.out.trans B5.out)))), fun h => absurd h hbad⟩
                    · rw [decide_eq_false h4] at HXT
                      have H4 := Lib.hid h4
                      clear h4
                      go_wp2_with (go_at_call 45; refine HXT.out.mono ?_; rintro e w4 ⟨rfl, hb, hw⟩; have B4 := Lib.hid hb; clear hb hw)
                      go_ret
                      have hbad : ¬ cc ≤ m := by
                        have := HC.out; have := HS.out; have := H1.out; have := HSX.out; have := HEX.out; have := HS2.out; have := H2.out; have := HSY.out; have := HEY.out; have := HS3.out; have := H3.out; have := HSZ.out; have := HEZ.out; have := H4.out
                        omega
                      exact ⟨ret_bool (decide_eq_false hbad).symm, HB.out.trans (HB2.out.trans (HB3.out.trans ((Only.alloc _ _ _).trans B4.out))), fun h => absurd h hbad⟩
                  · obtain rfl : k3 = n2 := by omega
                    go_wp2
                    go_roundw
                    case rel =>
                      have hs := HS3.out
                      rw [sumC_all HL2.out] at hs
                      exact ⟨k2 + 1, m3, by omega, by go_num, by rw [sumC_take HY.out, HEY.out]; have := HS2.out; have := H3.out; omega, HF3.out, HB2.out.trans HB3.out⟩
                    case measure => simp [intOf]; omega
              · have HT3 := Lib.hid (takes1_any (n := n2) HF2.out (by have := HS2.out; have := HS.out; have := HM.out; omega) (by unfold maxLen; omega))
                rw [decide_eq_false h3] at HT3
                unfold maxLen at hcap2
                have H3 := Lib.hid h3
                clear h3
                go_wp2_with (go_at_call 44; refine HT3.out.mono ?_; rintro e w3 ⟨rfl, hb, hw⟩; have B3 := Lib.hid hb; clear hb hw)
                go_ret
                have hbad : ¬ cc ≤ m := by
                  have := HC.out; have := HS.out; have := H1.out; have := HSX.out; have := HEX.out; have := HS2.out; have := H2.out; have := HSY.out; have := HEY.out; have := H3.out
                  omega
                exact ⟨ret_bool (decide_eq_false hbad).symm, HB.out.trans (HB2.out.trans B3.out), fun h => absurd h hbad⟩
            · obtain rfl : k2 = n' := by omega
              go_wp2
              go_roundw
              case rel =>
                have hs := HS2.out
                rw [sumC_all HL'.out] at hs
                exact ⟨k + 1, m2, by omega, by go_num, by rw [sumC_take HX.out, HEX.out]; have := HS.out; have := H2.out; omega, HF2.out, HB.out.trans HB2.out⟩
              case measure => simp [intOf]; omega
        · have HT2 := Lib.hid (takes1_any (n := n') HF.out (by have := HS.out; have := HM.out; omega) (by unfold maxLen; omega))
          rw [decide_eq_false h2] at HT2
          unfold maxLen at hcap'
          have H2 := Lib.hid h2
          clear h2
          go_wp2_with (go_at_call 44; refine HT2.out.mono ?_; rintro e w2 ⟨rfl, hb, hw⟩; have B2 := Lib.hid hb; clear hb hw)
          go_ret
          have hbad : ¬ cc ≤ m := by
            have := HC.out; have := HS.out; have := H1.out; have := HSX.out; have := HEX.out; have := H2.out
            omega
          exact ⟨ret_bool (decide_eq_false hbad).symm, HB.out.trans B2.out, fun h => absurd h hbad⟩
      · obtain rfl : k = n := by omega
        go_wp2
        go_ret
        have hs := HS.out
        rw [sumC_all HL.out] at hs
        have := HC.out
        have := H1.out
        exact ⟨ret_bool (decide_eq_true (by omega)).symm, HB.out, fun _ => by rw [show m - cc = mk by omega]; exact HF.out⟩
  · rw [decide_eq_false h1] at HT
    have H1 := Lib.hid h1
    clear h1
    go_enter Tryz.func46, Tryz.ntmps46
    go_wp2_with (go_at_call 44; refine HT.out.mono ?_; rintro e w1 ⟨rfl, hb, hw⟩; have B1 := Lib.hid hb; clear hb hw)
    go_ret
    have hbad : ¬ cc ≤ m := by have := HC.out; have := H1.out; omega
    exact ⟨ret_bool (decide_eq_false hbad).symm, B1.out, fun h => absurd h hbad⟩
end Go.Proofs.YtdbnaaddocahpaaGreatDoor
/- bailiffkeep: how much of a policy may be gone through. -/
namespace Go.Proofs.YtdbnaaddocahpaaGreatDoor
set_option linter.unusedVariables false
open Go.RowKit

def nodC (n : Nod) : Nat := textC n.a.name + textC n.v.s
def ruleC (r : Rul) : Nat := textC r.id + tgC r.tg + r.cond.length + dutsC r.ob + sumC nodC r.cond
def polC : Nat → Pol → Nat
  | 0, _ => 0
  | d + 1, p => 1 + p.rules.length + textC p.id + tgC p.tg + dutsC p.ob + sumC ruleC p.rules + sumC (polC d) p.kids
/-- A policy whose kids are of no more than so many depths. -/
def KOk (d : Nat) : Prop :=
  ∀ {w : World} {R : Nat → Prop} {g m : Nat} {p : Pol} {A1 A2 A3 A4 : Option Addr} {n1 k1 n2 k2 n3 k3 n4 k4 : Nat}, Lf w g m → m ≤ 3000 → (∀ b, R b → b ≠ g) → p.id.size ≤ maxLen →
    Tg w R A1 n1 k1 p.tg → Rus w R A2 n2 k2 p.rules → Pls w R d A3 n3 k3 p.kids → Dus w R A4 n4 k4 p.ob →
    Taking 23 #[.pointer (some ⟨g, 0, none⟩), .agg #[.string p.id, .bool p.set, .int .i64 p.alg, .slice A1 n1 k1, .slice A2 n2 k2, .slice A3 n3 k3, .slice A4 n4 k4]] w g m (polC (d + 1) p)
theorem Lf.only {w w' : World} {g m : Nat} (h : Lf w g m) (r : Nat) (ho : Only r w w') (hr : g ≠ r) : Lf w' g m := Ob.keep h (ho.heap (Ob.lt h) hr)


set_option maxRecDepth 100000 in
set_option maxHeartbeats 6400000 in
theorem kpol_step (d : Nat) (ih : ∀ d', d = d' + 1 → KOk d') : KOk d := by
  intro w R g m p A1 A2 A3 A4 n1 k1 n2 k2 n3 k3 n4 k4 hl hm hR hid h1 h2 h3 h4
  have big2 := Rw.big h2
  have big3 := Rw.big h3
  have cap2 := Rw.cap h2
  have cap3 := Rw.cap h3
  have le2 := Rw.le h2
  have le3 := Rw.le h3
  unfold maxLen at cap2 cap3
  have HL2 := Lib.hid (Rw.len h2)
  have HL3 := Lib.hid (Rw.len h3)
  have H1 := Lib.hid h1
  have H2 := Lib.hid h2
  have H3 := Lib.hid h3
  have H4 := Lib.hid h4
  have HR := Lib.hid hR
  have HM := Lib.hid hm
  have HID := Lib.hid hid
  have hgn : w.heap.size ≠ g := by have := hl.lt; omega
  have Xhs : Hid (Ob (w.alloc (.cells #[.string p.id, .bool p.set, .int .i64 p.alg, .slice A1 n1 k1, .slice A2 n2 k2, .slice A3 n3 k3, .slice A4 n4 k4] 28)) w.heap.size 28 #[.string p.id, .bool p.set, .int .i64 p.alg, .slice A1 n1 k1, .slice A2 n2 k2, .slice A3 n3 k3, .slice A4 n4 k4]) := Ob.made _ _ _
  have hC0 := Lib.hid (takes1_any (n := n2) (hl.alloc (.cells #[.string p.id, .bool p.set, .int .i64 p.alg, .slice A1 n1 k1, .slice A2 n2 k2, .slice A3 n3 k3, .slice A4 n4 k4] 28)) hm (by unfold maxLen; omega))
  unfold Taking
  have HC : Hid (polC (d + 1) p = 1 + n2 + textC p.id + tgC p.tg + dutsC p.ob + sumC ruleC p.rules + sumC (polC d) p.kids) := by show polC (d + 1) p = _; unfold polC; rw [HL2.out]
  generalize polC (d + 1) p = cc at *
  clear hl hm hR hid h1 h2 h3 h4
  by_cases o0 : 1 + n2 ≤ m
  · rw [decide_eq_true o0] at hC0
    have Ok0 := Lib.hid o0
    clear o0
    by_cases o1 : textC p.id ≤ m - (1 + n2)
    · have dd1 := decide_eq_true o1
      have Ok1 := Lib.hid o1
      clear o1
      by_cases o2 : tgC p.tg ≤ m - (1 + n2) - textC p.id
      · have dd2 := decide_eq_true o2
        have Ok2 := Lib.hid o2
        clear o2
        by_cases o3 : dutsC p.ob ≤ m - (1 + n2) - textC p.id - tgC p.tg
        · have dd3 := decide_eq_true o3
          have Ok3 := Lib.hid o3
          clear o3
          go_enter Tryz.func23, Tryz.ntmps23
          go_wp2_with (first
            | (go_at_call 44; (with_reducible refine hC0.out.mono ?_); rintro e vh0 ⟨rfl, hb, hw⟩; have Bh0 := Lib.hid hb; have Lh0 := Lib.hid (hw Ok0.out); have Xh0 := Lib.hid (Xhs.out.keep (hb.heap Xhs.out.lt hgn)); have yh00 := Xh0.out.cell 0; have hC1 := Lib.hid (ktext_any p.id Lh0.out (by have := HM.out; omega) HID.out); unfold Taking at hC1; rw [dd1] at hC1; clear hb hw)
            | (go_at_call 45; (with_reducible refine hC1.out.mono ?_); rintro e vh1 ⟨rfl, hb, hw⟩; have Bh1 := Lib.hid hb; have Lh1 := Lib.hid (hw Ok1.out); have Xh1 := Lib.hid (Xh0.out.keep (hb.heap Xh0.out.lt hgn)); have yh13 := Xh1.out.cell 3; have hC2 := Lib.hid (ktarget_any Lh1.out (by have := HM.out; omega) HR.out (H1.out.keep ((((Only.alloc g w (.cells #[.string p.id, .bool p.set, .int .i64 p.alg, .slice A1 n1 k1, .slice A2 n2 k2, .slice A3 n3 k3, .slice A4 n4 k4] 28)).trans Bh0.out).trans Bh1.out).kept HR.out) (fun _ h _ => h))); unfold Taking at hC2; rw [dd2] at hC2; clear hb hw)
            | (go_at_call 46; (with_reducible refine hC2.out.mono ?_); rintro e vh2 ⟨rfl, hb, hw⟩; have Bh2 := Lib.hid hb; have Lh2 := Lib.hid (hw Ok2.out); have Xh2 := Lib.hid (Xh1.out.keep (hb.heap Xh1.out.lt hgn)); have yh26 := Xh2.out.cell 6; have hC3 := Lib.hid (kobls_any Lh2.out (by have := HM.out; omega) HR.out (H4.out.keep (((((Only.alloc g w (.cells #[.string p.id, .bool p.set, .int .i64 p.alg, .slice A1 n1 k1, .slice A2 n2 k2, .slice A3 n3 k3, .slice A4 n4 k4] 28)).trans Bh0.out).trans Bh1.out).trans Bh2.out).kept HR.out) (fun _ h _ => h))); unfold Taking at hC3; rw [dd3] at hC3; clear hb hw)
            | (go_at_call 47; (with_reducible refine hC3.out.mono ?_); rintro e vh3 ⟨rfl, hb, hw⟩; have Bh3 := Lib.hid hb; have Lh3 := Lib.hid (hw Ok3.out); have Xh3 := Lib.hid (Xh2.out.keep (hb.heap Xh2.out.lt hgn)); have yh34 := Xh3.out.cell 4; have yh35 := Xh3.out.cell 5; clear hb hw))
          have G3 := Lib.hid (((((Only.alloc g w (.cells #[.string p.id, .bool p.set, .int .i64 p.alg, .slice A1 n1 k1, .slice A2 n2 k2, .slice A3 n3 k3, .slice A4 n4 k4] 28)).trans Bh0.out).trans Bh1.out).trans Bh2.out).trans Bh3.out)
          obtain ⟨m4, hm4⟩ : ∃ m4, m4 = m - (1 + n2) - textC p.id - tgC p.tg - dutsC p.ob := ⟨_, rfl⟩
          rw [← hm4] at Lh3
          have M4 : Hid (m4 + (1 + n2 + textC p.id + tgC p.tg + dutsC p.ob) = m) := by have := Ok0.out; have := Ok1.out; have := Ok2.out; have := Ok3.out; show m4 + _ = m; omega
          clear hm4 Bh0 Bh1 Bh2 Bh3 Lh0 Lh1 Lh2 Xh0 Xh1 Xh2 hC0 hC1 hC2 hC3 Ok0 Ok1 Ok2 Ok3 yh00 yh13 yh26
          go_loopw [42] (fun i wr => ∃ k mk : Nat, k ≤ n2 ∧ i = .int .i64 k ∧ sumC ruleC (p.rules.take k) + mk = m4 ∧ Lf wr g mk ∧ Only g vh3 wr) (fun i _ => n2 - (intOf i).toNat)
          case atStart => exact ⟨0, m4, Nat.zero_le _, rfl, by rw [sumC_zero]; omega, Lh3.out, Only.refl⟩
          case round =>
            obtain ⟨wo, hwo⟩ : ∃ wo, wo = wr := ⟨wr, rfl⟩
            subst hwo
            obtain ⟨k, mk, hk, rfl, hs, hlf, hb⟩ := hrel
            have HS := Lib.hid hs
            have HB := Lib.hid hb
            have HF := Lib.hid hlf
            clear hs hb hlf yh34 yh35
            by_cases hlt : k < n2
            · obtain ⟨b, o, x, B1, j1, q1, B2, j2, q2, B3, j3, q3, rfl, hRb, hbl, hx, xid, ⟨c0, c1, c2, c3, c4⟩, t1, t2, t3⟩ := (H2.out.keep ((G3.out.trans HB.out).kept HR.out) (fun _ h _ => h)).at_ hlt
              have HX := Lib.hid hx
              have HSX := Lib.hid (sumC_le (f := ruleC) hx)
              have HT1 := Lib.hid t1
              have HT2 := Lib.hid t2
              have HT3 := Lib.hid t3
              have HXID := Lib.hid xid
              have big2' := Rw.big t2
              have le2' := Rw.le t2
              have cap2' := Rw.cap t2
              have HLC := Lib.hid (Rw.len t2)
              have HEX : Hid (ruleC x = textC x.id + tgC x.tg + j2 + dutsC x.ob + sumC nodC x.cond) := by show ruleC x = _; unfold ruleC; rw [HLC.out]
              have hne : wo.heap.size ≠ g := by have := HF.out.lt; omega
              have Xrs : Hid (Ob (wo.alloc (.cells #[.string x.id, .bool x.deny, .slice B1 j1 q1, .slice B2 j2 q2, .slice B3 j3 q3] 48)) wo.heap.size 48 #[.string x.id, .bool x.deny, .slice B1 j1 q1, .slice B2 j2 q2, .slice B3 j3 q3]) := Ob.made _ _ _
              have rC0 := Lib.hid (ktext_any x.id (HF.out.alloc (.cells #[.string x.id, .bool x.deny, .slice B1 j1 q1, .slice B2 j2 q2, .slice B3 j3 q3] 48)) (by have := HS.out; have := M4.out; have := HM.out; omega) HXID.out)
              unfold Taking at rC0
              unfold maxLen at cap2'
              clear hx t1 t2 t3 xid
              by_cases hr0 : textC x.id ≤ mk
              · rw [decide_eq_true hr0] at rC0
                have Rk0 := Lib.hid hr0
                clear hr0
                by_cases hr1 : tgC x.tg ≤ mk - textC x.id
                · have rr1 := decide_eq_true hr1
                  have Rk1 := Lib.hid hr1
                  clear hr1
                  by_cases hr2 : j2 ≤ mk - textC x.id - tgC x.tg
                  · have rr2 := decide_eq_true hr2
                    have Rk2 := Lib.hid hr2
                    clear hr2
                    by_cases hr3 : dutsC x.ob ≤ mk - textC x.id - tgC x.tg - j2
                    · have rr3 := decide_eq_true hr3
                      have Rk3 := Lib.hid hr3
                      clear hr3
                      go_wp2_with (first
                        | (go_at_call 45; (with_reducible refine rC0.out.mono ?_); rintro e vr0 ⟨rfl, hb, hw⟩; have Br0 := Lib.hid hb; have Lr0 := Lib.hid (hw Rk0.out); have Xr0 := Lib.hid (Xrs.out.keep (hb.heap Xrs.out.lt hne)); have yr02 := Xr0.out.cell 2; have rC1 := Lib.hid (ktarget_any Lr0.out (by have := HS.out; have := M4.out; have := HM.out; omega) HR.out (HT1.out.keep (((Only.alloc g wo (.cells #[.string x.id, .bool x.deny, .slice B1 j1 q1, .slice B2 j2 q2, .slice B3 j3 q3] 48)).trans Br0.out).kept HR.out) (fun _ h _ => h))); unfold Taking at rC1; rw [rr1] at rC1; clear hb hw)
                        | (go_at_call 46; (with_reducible refine rC1.out.mono ?_); rintro e vr1 ⟨rfl, hb, hw⟩; have Br1 := Lib.hid hb; have Lr1 := Lib.hid (hw Rk1.out); have Xr1 := Lib.hid (Xr0.out.keep (hb.heap Xr0.out.lt hne)); have yr13 := Xr1.out.cell 3; have rC2 := Lib.hid (takes_any (n := j2) Lr1.out (by have := HS.out; have := M4.out; have := HM.out; omega) (by unfold maxLen; omega)); unfold Taking at rC2; rw [rr2] at rC2; clear hb hw)
                        | (go_at_call 44; (with_reducible refine rC2.out.mono ?_); rintro e vr2 ⟨rfl, hb, hw⟩; have Br2 := Lib.hid hb; have Lr2 := Lib.hid (hw Rk2.out); have Xr2 := Lib.hid (Xr1.out.keep (hb.heap Xr1.out.lt hne)); have yr24 := Xr2.out.cell 4; have rC3 := Lib.hid (kobls_any Lr2.out (by have := HS.out; have := M4.out; have := HM.out; omega) HR.out (HT3.out.keep (((((Only.alloc g wo (.cells #[.string x.id, .bool x.deny, .slice B1 j1 q1, .slice B2 j2 q2, .slice B3 j3 q3] 48)).trans Br0.out).trans Br1.out).trans Br2.out).kept HR.out) (fun _ h _ => h))); unfold Taking at rC3; rw [rr3] at rC3; clear hb hw)
                        | (go_at_call 47; (with_reducible refine rC3.out.mono ?_); rintro e vr3 ⟨rfl, hb, hw⟩; have Br3 := Lib.hid hb; have Lr3 := Lib.hid (hw Rk3.out); have Xr3 := Lib.hid (Xr2.out.keep (hb.heap Xr2.out.lt hne)); have yr33 := Xr3.out.cell 3; clear hb hw))
                      have GR := Lib.hid (((((Only.alloc g wo (.cells #[.string x.id, .bool x.deny, .slice B1 j1 q1, .slice B2 j2 q2, .slice B3 j3 q3] 48)).trans Br0.out).trans Br1.out).trans Br2.out).trans Br3.out)
                      obtain ⟨m5, hm5⟩ : ∃ m5, m5 = mk - textC x.id - tgC x.tg - j2 - dutsC x.ob := ⟨_, rfl⟩
                      rw [← hm5] at Lr3
                      have M5 : Hid (m5 + (textC x.id + tgC x.tg + j2 + dutsC x.ob) = mk) := by have := Rk0.out; have := Rk1.out; have := Rk2.out; have := Rk3.out; show m5 + _ = mk; omega
                      clear hm5 Br0 Br1 Br2 Br3 Lr0 Lr1 Lr2 Xr0 Xr1 Xr2 rC0 rC1 rC2 rC3 Rk0 Rk1 Rk2 Rk3 yr02 yr13 yr24
                      go_loopw [76] (fun i wr => ∃ k3 m3 : Nat, k3 ≤ j2 ∧ i = .int .i64 k3 ∧ sumC nodC (x.cond.take k3) + m3 = m5 ∧ Lf wr g m3 ∧ Only g vr3 wr) (fun i _ => j2 - (intOf i).toNat)
                      case atStart => exact ⟨0, m5, Nat.zero_le _, rfl, by rw [sumC_zero]; omega, Lr3.out, Only.refl⟩
                      case round =>
                        obtain ⟨wz, hwz⟩ : ∃ wz, wz = wr := ⟨wr, rfl⟩
                        subst hwz
                        obtain ⟨k3, m3, hk3, rfl, hs, hlf, hb⟩ := hrel
                        have HS3 := Lib.hid hs
                        have HB3 := Lib.hid hb
                        have HF3 := Lib.hid hlf
                        clear hs hb hlf yr33
                        by_cases hlt3 : k3 < j2
                        · obtain ⟨b3, o3, z, rfl, hRb3, hbl3, hz, hok, f0, f1, f2, f3, f4, f5, f6⟩ := (HT2.out.keep ((GR.out.trans HB3.out).kept HR.out) (fun _ h _ => h)).at_ hlt3
                          have HZ := Lib.hid hz
                          have HSZ := Lib.hid (sumC_le (f := nodC) hz)
                          have HEZ : Hid (nodC z = textC z.a.name + textC z.v.s) := rfl
                          have zC0 := Lib.hid (ktext_any z.a.name (HF3.out.alloc (.cells #[.int .i64 z.op, .int .i64 z.v.k, .int .i64 z.v.n, .string z.v.s, .int .i64 z.a.cat, .string z.a.name, .bool z.a.must] 53)) (by have := HS3.out; have := M5.out; have := HS.out; have := M4.out; have := HM.out; omega) hok.2.2.2)
                          unfold Taking at zC0
                          have HOK := Lib.hid hok
                          have hnz : wz.heap.size ≠ g := by have := HF3.out.lt; omega
                          have Xzs : Hid (Ob (wz.alloc (.cells #[.int .i64 z.op, .int .i64 z.v.k, .int .i64 z.v.n, .string z.v.s, .int .i64 z.a.cat, .string z.a.name, .bool z.a.must] 53)) wz.heap.size 53 #[.int .i64 z.op, .int .i64 z.v.k, .int .i64 z.v.n, .string z.v.s, .int .i64 z.a.cat, .string z.a.name, .bool z.a.must]) := Ob.made _ _ _
                          clear hz hok
                          by_cases hz0 : textC z.a.name ≤ m3
                          · rw [decide_eq_true hz0] at zC0
                            have Zk0 := Lib.hid hz0
                            clear hz0
                            by_cases hz1 : textC z.v.s ≤ m3 - textC z.a.name
                            · have zz1 := decide_eq_true hz1
                              have Zk1 := Lib.hid hz1
                              clear hz1
                              go_wp2_with (first
                                | (go_at_call 45; (with_reducible refine zC0.out.mono ?_); rintro e vz0 ⟨rfl, hb, hw⟩; have Bz0 := Lib.hid hb; have Lz0 := Lib.hid (hw Zk0.out); have Xz0 := Lib.hid (Xzs.out.keep (hb.heap Xzs.out.lt hnz)); have yz03 := Xz0.out.cell 3; have zC1 := Lib.hid (ktext_any z.v.s Lz0.out (by have := HS3.out; have := M5.out; have := HS.out; have := M4.out; have := HM.out; omega) HOK.out.2.1.2.2); unfold Taking at zC1; rw [zz1] at zC1; clear hb hw)
                                | (go_at_call 45; (with_reducible refine zC1.out.mono ?_); rintro e vz1 ⟨rfl, hb, hw⟩; have Bz1 := Lib.hid hb; have Lz1 := Lib.hid (hw Zk1.out); have Xz1 := Lib.hid (Xz0.out.keep (hb.heap Xz0.out.lt hnz)); clear hb hw))
                              go_roundw
                              case rel => exact ⟨k3 + 1, m3 - textC z.a.name - textC z.v.s, by omega, by go_num, by rw [sumC_take HZ.out, HEZ.out]; have := HS3.out; have := Zk0.out; have := Zk1.out; omega, Lz1.out, (HB3.out.trans (((Only.alloc g wz (.cells #[.int .i64 z.op, .int .i64 z.v.k, .int .i64 z.v.n, .string z.v.s, .int .i64 z.a.cat, .string z.a.name, .bool z.a.must] 53)).trans Bz0.out).trans Bz1.out))⟩
                              case measure => simp [intOf]; omega
                            · have zz1 := decide_eq_false hz1
                              have Zn1 := Lib.hid hz1
                              clear hz1
                              go_wp2_with (first
                                | (go_at_call 45; (with_reducible refine zC0.out.mono ?_); rintro e vz0 ⟨rfl, hb, hw⟩; have Bz0 := Lib.hid hb; have Lz0 := Lib.hid (hw Zk0.out); have Xz0 := Lib.hid (Xzs.out.keep (hb.heap Xzs.out.lt hnz)); have yz03 := Xz0.out.cell 3; have zC1 := Lib.hid (ktext_any z.v.s Lz0.out (by have := HS3.out; have := M5.out; have := HS.out; have := M4.out; have := HM.out; omega) HOK.out.2.1.2.2); unfold Taking at zC1; rw [zz1] at zC1; clear hb hw)
                                | (go_at_call 45; (with_reducible refine zC1.out.mono ?_); rintro e vz1 ⟨rfl, hb, hw⟩; have Bz1 := Lib.hid hb; clear hb hw))
                              go_ret
                              have hbad : ¬ cc ≤ m := by have := HC.out; have := HS.out; have := M4.out; have := HSX.out; have := HEX.out; have := M5.out; have := HS3.out; have := HSZ.out; have := HEZ.out; have := Zk0.out; have := Zn1.out; omega
                              exact ⟨ret_bool (decide_eq_false hbad).symm, ((((G3.out.trans HB.out).trans GR.out).trans HB3.out).trans (((Only.alloc g wz (.cells #[.int .i64 z.op, .int .i64 z.v.k, .int .i64 z.v.n, .string z.v.s, .int .i64 z.a.cat, .string z.a.name, .bool z.a.must] 53)).trans Bz0.out).trans Bz1.out)), fun h => absurd h hbad⟩
                          · rw [decide_eq_false hz0] at zC0
                            have Zn0 := Lib.hid hz0
                            clear hz0
                            go_wp2_with (first
                              | (go_at_call 45; (with_reducible refine zC0.out.mono ?_); rintro e vz0 ⟨rfl, hb, hw⟩; have Bz0 := Lib.hid hb; clear hb hw))
                            go_ret
                            have hbad : ¬ cc ≤ m := by have := HC.out; have := HS.out; have := M4.out; have := HSX.out; have := HEX.out; have := M5.out; have := HS3.out; have := HSZ.out; have := HEZ.out; have := Zn0.out; omega
                            exact ⟨ret_bool (decide_eq_false hbad).symm, ((((G3.out.trans HB.out).trans GR.out).trans HB3.out).trans ((Only.alloc g wz (.cells #[.int .i64 z.op, .int .i64 z.v.k, .int .i64 z.v.n, .string z.v.s, .int .i64 z.a.cat, .string z.a.name, .bool z.a.must] 53)).trans Bz0.out)), fun h => absurd h hbad⟩
                        · obtain rfl : k3 = j2 := by omega
                          go_wp2
                          go_roundw
                          case rel =>
                            have hs := HS3.out
                            rw [sumC_all HLC.out] at hs
                            exact ⟨k + 1, m3, by omega, by go_num, by rw [sumC_take HX.out, HEX.out]; have := HS.out; have := M5.out; omega, HF3.out, ((HB.out.trans GR.out).trans HB3.out)⟩
                          case measure => simp [intOf]; omega
                    · have rr3 := decide_eq_false hr3
                      have Rn3 := Lib.hid hr3
                      clear hr3
                      go_wp2_with (first
                        | (go_at_call 45; (with_reducible refine rC0.out.mono ?_); rintro e vr0 ⟨rfl, hb, hw⟩; have Br0 := Lib.hid hb; have Lr0 := Lib.hid (hw Rk0.out); have Xr0 := Lib.hid (Xrs.out.keep (hb.heap Xrs.out.lt hne)); have yr02 := Xr0.out.cell 2; have rC1 := Lib.hid (ktarget_any Lr0.out (by have := HS.out; have := M4.out; have := HM.out; omega) HR.out (HT1.out.keep (((Only.alloc g wo (.cells #[.string x.id, .bool x.deny, .slice B1 j1 q1, .slice B2 j2 q2, .slice B3 j3 q3] 48)).trans Br0.out).kept HR.out) (fun _ h _ => h))); unfold Taking at rC1; rw [rr1] at rC1; clear hb hw)
                        | (go_at_call 46; (with_reducible refine rC1.out.mono ?_); rintro e vr1 ⟨rfl, hb, hw⟩; have Br1 := Lib.hid hb; have Lr1 := Lib.hid (hw Rk1.out); have Xr1 := Lib.hid (Xr0.out.keep (hb.heap Xr0.out.lt hne)); have yr13 := Xr1.out.cell 3; have rC2 := Lib.hid (takes_any (n := j2) Lr1.out (by have := HS.out; have := M4.out; have := HM.out; omega) (by unfold maxLen; omega)); unfold Taking at rC2; rw [rr2] at rC2; clear hb hw)
                        | (go_at_call 44; (with_reducible refine rC2.out.mono ?_); rintro e vr2 ⟨rfl, hb, hw⟩; have Br2 := Lib.hid hb; have Lr2 := Lib.hid (hw Rk2.out); have Xr2 := Lib.hid (Xr1.out.keep (hb.heap Xr1.out.lt hne)); have yr24 := Xr2.out.cell 4; have rC3 := Lib.hid (kobls_any Lr2.out (by have := HS.out; have := M4.out; have := HM.out; omega) HR.out (HT3.out.keep (((((Only.alloc g wo (.cells #[.string x.id, .bool x.deny, .slice B1 j1 q1, .slice B2 j2 q2, .slice B3 j3 q3] 48)).trans Br0.out).trans Br1.out).trans Br2.out).kept HR.out) (fun _ h _ => h))); unfold Taking at rC3; rw [rr3] at rC3; clear hb hw)
                        | (go_at_call 47; (with_reducible refine rC3.out.mono ?_); rintro e vr3 ⟨rfl, hb, hw⟩; have Br3 := Lib.hid hb; clear hb hw))
                      go_ret
                      have hbad : ¬ cc ≤ m := by have := HC.out; have := HS.out; have := M4.out; have := HSX.out; have := HEX.out; have := Rk0.out; have := Rk1.out; have := Rk2.out; have := Rn3.out; omega
                      exact ⟨ret_bool (decide_eq_false hbad).symm, ((G3.out.trans HB.out).trans (((((Only.alloc g wo (.cells #[.string x.id, .bool x.deny, .slice B1 j1 q1, .slice B2 j2 q2, .slice B3 j3 q3] 48)).trans Br0.out).trans Br1.out).trans Br2.out).trans Br3.out)), fun h => absurd h hbad⟩
                  · have rr2 := decide_eq_false hr2
                    have Rn2 := Lib.hid hr2
                    clear hr2
                    go_wp2_with (first
                      | (go_at_call 45; (with_reducible refine rC0.out.mono ?_); rintro e vr0 ⟨rfl, hb, hw⟩; have Br0 := Lib.hid hb; have Lr0 := Lib.hid (hw Rk0.out); have Xr0 := Lib.hid (Xrs.out.keep (hb.heap Xrs.out.lt hne)); have yr02 := Xr0.out.cell 2; have rC1 := Lib.hid (ktarget_any Lr0.out (by have := HS.out; have := M4.out; have := HM.out; omega) HR.out (HT1.out.keep (((Only.alloc g wo (.cells #[.string x.id, .bool x.deny, .slice B1 j1 q1, .slice B2 j2 q2, .slice B3 j3 q3] 48)).trans Br0.out).kept HR.out) (fun _ h _ => h))); unfold Taking at rC1; rw [rr1] at rC1; clear hb hw)
                      | (go_at_call 46; (with_reducible refine rC1.out.mono ?_); rintro e vr1 ⟨rfl, hb, hw⟩; have Br1 := Lib.hid hb; have Lr1 := Lib.hid (hw Rk1.out); have Xr1 := Lib.hid (Xr0.out.keep (hb.heap Xr0.out.lt hne)); have yr13 := Xr1.out.cell 3; have rC2 := Lib.hid (takes_any (n := j2) Lr1.out (by have := HS.out; have := M4.out; have := HM.out; omega) (by unfold maxLen; omega)); unfold Taking at rC2; rw [rr2] at rC2; clear hb hw)
                      | (go_at_call 44; (with_reducible refine rC2.out.mono ?_); rintro e vr2 ⟨rfl, hb, hw⟩; have Br2 := Lib.hid hb; clear hb hw))
                    go_ret
                    have hbad : ¬ cc ≤ m := by have := HC.out; have := HS.out; have := M4.out; have := HSX.out; have := HEX.out; have := Rk0.out; have := Rk1.out; have := Rn2.out; omega
                    exact ⟨ret_bool (decide_eq_false hbad).symm, ((G3.out.trans HB.out).trans ((((Only.alloc g wo (.cells #[.string x.id, .bool x.deny, .slice B1 j1 q1, .slice B2 j2 q2, .slice B3 j3 q3] 48)).trans Br0.out).trans Br1.out).trans Br2.out)), fun h => absurd h hbad⟩
                · have rr1 := decide_eq_false hr1
                  have Rn1 := Lib.hid hr1
                  clear hr1
                  go_wp2_with (first
                    | (go_at_call 45; (with_reducible refine rC0.out.mono ?_); rintro e vr0 ⟨rfl, hb, hw⟩; have Br0 := Lib.hid hb; have Lr0 := Lib.hid (hw Rk0.out); have Xr0 := Lib.hid (Xrs.out.keep (hb.heap Xrs.out.lt hne)); have yr02 := Xr0.out.cell 2; have rC1 := Lib.hid (ktarget_any Lr0.out (by have := HS.out; have := M4.out; have := HM.out; omega) HR.out (HT1.out.keep (((Only.alloc g wo (.cells #[.string x.id, .bool x.deny, .slice B1 j1 q1, .slice B2 j2 q2, .slice B3 j3 q3] 48)).trans Br0.out).kept HR.out) (fun _ h _ => h))); unfold Taking at rC1; rw [rr1] at rC1; clear hb hw)
                    | (go_at_call 46; (with_reducible refine rC1.out.mono ?_); rintro e vr1 ⟨rfl, hb, hw⟩; have Br1 := Lib.hid hb; clear hb hw))
                  go_ret
                  have hbad : ¬ cc ≤ m := by have := HC.out; have := HS.out; have := M4.out; have := HSX.out; have := HEX.out; have := Rk0.out; have := Rn1.out; omega
                  exact ⟨ret_bool (decide_eq_false hbad).symm, ((G3.out.trans HB.out).trans (((Only.alloc g wo (.cells #[.string x.id, .bool x.deny, .slice B1 j1 q1, .slice B2 j2 q2, .slice B3 j3 q3] 48)).trans Br0.out).trans Br1.out)), fun h => absurd h hbad⟩
              · rw [decide_eq_false hr0] at rC0
                have Rn0 := Lib.hid hr0
                clear hr0
                go_wp2_with (first
                  | (go_at_call 45; (with_reducible refine rC0.out.mono ?_); rintro e vr0 ⟨rfl, hb, hw⟩; have Br0 := Lib.hid hb; clear hb hw))
                go_ret
                have hbad : ¬ cc ≤ m := by have := HC.out; have := HS.out; have := M4.out; have := HSX.out; have := HEX.out; have := Rn0.out; omega
                exact ⟨ret_bool (decide_eq_false hbad).symm, ((G3.out.trans HB.out).trans ((Only.alloc g wo (.cells #[.string x.id, .bool x.deny, .slice B1 j1 q1, .slice B2 j2 q2, .slice B3 j3 q3] 48)).trans Br0.out)), fun h => absurd h hbad⟩
            · obtain rfl : k = n2 := by omega
              have hs := HS.out
              rw [sumC_all HL2.out] at hs
              have HSR := Lib.hid hs
              clear hs
              have XR := Lib.hid (Xh3.out.keep (HB.out.heap Xh3.out.lt hgn))
              have yr5 := XR.out.cell 5
              have G5 := Lib.hid (G3.out.trans HB.out)
              go_wp2
              go_loopw [99] (fun i wr => ∃ k5 m5 : Nat, k5 ≤ n3 ∧ i = .int .i64 k5 ∧ sumC (polC d) (p.kids.take k5) + m5 = mk ∧ Lf wr g m5 ∧ Only g wo wr) (fun i _ => n3 - (intOf i).toNat)
              case atStart => exact ⟨0, mk, Nat.zero_le _, rfl, by rw [sumC_zero]; omega, HF.out, Only.refl⟩
              case round =>
                obtain ⟨wz, hwz⟩ : ∃ wz, wz = wr := ⟨wr, rfl⟩
                subst hwz
                obtain ⟨k5, m5, hk5, rfl, hs, hlf, hb⟩ := hrel
                have HS5 := Lib.hid hs
                have HB5 := Lib.hid hb
                have HF5 := Lib.hid hlf
                clear hs hb hlf yr5
                by_cases hlt5 : k5 < n3
                · obtain ⟨b5, o5, x, d', B1, j1, q1, B2, j2, q2, B3, j3, q3, B4, j4, q4, rfl, hRb5, hbl5, hx, hd, ⟨xid, xalg⟩, ⟨f0, f1, f2, f3, f4, f5, f6⟩, t1, t2, t3, t4⟩ := (H3.out.keep ((G5.out.trans HB5.out).kept HR.out) (fun _ h _ => h)).at_ hlt5
                  have HX := Lib.hid hx
                  have HSX := Lib.hid (sumC_le (f := polC d) hx)
                  have hka := (Only.alloc g wz (.cells #[.string x.id, .bool x.set, .int .i64 x.alg, .slice B1 j1 q1, .slice B2 j2 q2, .slice B3 j3 q3, .slice B4 j4 q4] 28)).kept HR.out
                  have pC := (ih d' hd) (HF5.out.alloc (.cells #[.string x.id, .bool x.set, .int .i64 x.alg, .slice B1 j1 q1, .slice B2 j2 q2, .slice B3 j3 q3, .slice B4 j4 q4] 28)) (by have := HS5.out; have := HSR.out; have := M4.out; have := HM.out; omega) HR.out xid (t1.keep hka (fun _ h _ => h)) (t2.keep hka (fun _ h _ => h)) (t3.keep hka (fun _ h _ => h)) (t4.keep hka (fun _ h _ => h))
                  unfold Taking at pC
                  rw [← hd] at pC
                  clear hx xid xalg t1 t2 t3 t4 hka
                  by_cases hp : polC d x ≤ m5
                  · rw [decide_eq_true hp] at pC
                    have PC := Lib.hid pC
                    have Pk := Lib.hid hp
                    clear hp pC
                    go_wp2_with (go_at_call 23; refine PC.out.mono ?_; rintro e v7 ⟨rfl, hb, hw⟩; have B7 := Lib.hid hb; have L7 := Lib.hid (hw Pk.out); clear hb hw)
                    go_roundw
                    case rel => exact ⟨k5 + 1, m5 - polC d x, by omega, by go_num, by rw [sumC_take HX.out]; have := HS5.out; have := Pk.out; omega, L7.out, HB5.out.trans ((Only.alloc _ _ _).trans B7.out)⟩
                    case measure => simp [intOf]; omega
                  · rw [decide_eq_false hp] at pC
                    have PC := Lib.hid pC
                    have Pn := Lib.hid hp
                    clear hp pC
                    go_wp2_with (go_at_call 23; refine PC.out.mono ?_; rintro e v7 ⟨rfl, hb, hw⟩; have B7 := Lib.hid hb; clear hb hw)
                    go_ret
                    have hbad : ¬ cc ≤ m := by have := HC.out; have := HSR.out; have := M4.out; have := HS5.out; have := HSX.out; have := Pn.out; omega
                    exact ⟨ret_bool (decide_eq_false hbad).symm, G5.out.trans (HB5.out.trans ((Only.alloc _ _ _).trans B7.out)), fun h => absurd h hbad⟩
                · obtain rfl : k5 = n3 := by omega
                  go_wp2
                  go_ret
                  have hs := HS5.out
                  rw [sumC_all HL3.out] at hs
                  have h1 := HC.out
                  have h2 := HSR.out
                  have h3 := M4.out
                  exact ⟨ret_bool (decide_eq_true (by omega)).symm, G5.out.trans HB5.out, fun _ => by rw [show m - cc = m5 by omega]; exact HF5.out⟩
        · have dd3 := decide_eq_false o3
          have No3 := Lib.hid o3
          clear o3
          go_enter Tryz.func23, Tryz.ntmps23
          go_wp2_with (first
            | (go_at_call 44; (with_reducible refine hC0.out.mono ?_); rintro e vh0 ⟨rfl, hb, hw⟩; have Bh0 := Lib.hid hb; have Lh0 := Lib.hid (hw Ok0.out); have Xh0 := Lib.hid (Xhs.out.keep (hb.heap Xhs.out.lt hgn)); have yh00 := Xh0.out.cell 0; have hC1 := Lib.hid (ktext_any p.id Lh0.out (by have := HM.out; omega) HID.out); unfold Taking at hC1; rw [dd1] at hC1; clear hb hw)
            | (go_at_call 45; (with_reducible refine hC1.out.mono ?_); rintro e vh1 ⟨rfl, hb, hw⟩; have Bh1 := Lib.hid hb; have Lh1 := Lib.hid (hw Ok1.out); have Xh1 := Lib.hid (Xh0.out.keep (hb.heap Xh0.out.lt hgn)); have yh13 := Xh1.out.cell 3; have hC2 := Lib.hid (ktarget_any Lh1.out (by have := HM.out; omega) HR.out (H1.out.keep ((((Only.alloc g w (.cells #[.string p.id, .bool p.set, .int .i64 p.alg, .slice A1 n1 k1, .slice A2 n2 k2, .slice A3 n3 k3, .slice A4 n4 k4] 28)).trans Bh0.out).trans Bh1.out).kept HR.out) (fun _ h _ => h))); unfold Taking at hC2; rw [dd2] at hC2; clear hb hw)
            | (go_at_call 46; (with_reducible refine hC2.out.mono ?_); rintro e vh2 ⟨rfl, hb, hw⟩; have Bh2 := Lib.hid hb; have Lh2 := Lib.hid (hw Ok2.out); have Xh2 := Lib.hid (Xh1.out.keep (hb.heap Xh1.out.lt hgn)); have yh26 := Xh2.out.cell 6; have hC3 := Lib.hid (kobls_any Lh2.out (by have := HM.out; omega) HR.out (H4.out.keep (((((Only.alloc g w (.cells #[.string p.id, .bool p.set, .int .i64 p.alg, .slice A1 n1 k1, .slice A2 n2 k2, .slice A3 n3 k3, .slice A4 n4 k4] 28)).trans Bh0.out).trans Bh1.out).trans Bh2.out).kept HR.out) (fun _ h _ => h))); unfold Taking at hC3; rw [dd3] at hC3; clear hb hw)
            | (go_at_call 47; (with_reducible refine hC3.out.mono ?_); rintro e vh3 ⟨rfl, hb, hw⟩; have Bh3 := Lib.hid hb; clear hb hw))
          go_ret
          have hbad : ¬ cc ≤ m := by have := HC.out; have := Ok0.out; have := Ok1.out; have := Ok2.out; have := No3.out; omega
          exact ⟨ret_bool (decide_eq_false hbad).symm, (((((Only.alloc g w (.cells #[.string p.id, .bool p.set, .int .i64 p.alg, .slice A1 n1 k1, .slice A2 n2 k2, .slice A3 n3 k3, .slice A4 n4 k4] 28)).trans Bh0.out).trans Bh1.out).trans Bh2.out).trans Bh3.out), fun h => absurd h hbad⟩
      · have dd2 := decide_eq_false o2
        have No2 := Lib.hid o2
        clear o2
        go_enter Tryz.func23, Tryz.ntmps23
        go_wp2_with (first
          | (go_at_call 44; (with_reducible refine hC0.out.mono ?_); rintro e vh0 ⟨rfl, hb, hw⟩; have Bh0 := Lib.hid hb; have Lh0 := Lib.hid (hw Ok0.out); have Xh0 := Lib.hid (Xhs.out.keep (hb.heap Xhs.out.lt hgn)); have yh00 := Xh0.out.cell 0; have hC1 := Lib.hid (ktext_any p.id Lh0.out (by have := HM.out; omega) HID.out); unfold Taking at hC1; rw [dd1] at hC1; clear hb hw)
          | (go_at_call 45; (with_reducible refine hC1.out.mono ?_); rintro e vh1 ⟨rfl, hb, hw⟩; have Bh1 := Lib.hid hb; have Lh1 := Lib.hid (hw Ok1.out); have Xh1 := Lib.hid (Xh0.out.keep (hb.heap Xh0.out.lt hgn)); have yh13 := Xh1.out.cell 3; have hC2 := Lib.hid (ktarget_any Lh1.out (by have := HM.out; omega) HR.out (H1.out.keep ((((Only.alloc g w (.cells #[.string p.id, .bool p.set, .int .i64 p.alg, .slice A1 n1 k1, .slice A2 n2 k2, .slice A3 n3 k3, .slice A4 n4 k4] 28)).trans Bh0.out).trans Bh1.out).kept HR.out) (fun _ h _ => h))); unfold Taking at hC2; rw [dd2] at hC2; clear hb hw)
          | (go_at_call 46; (with_reducible refine hC2.out.mono ?_); rintro e vh2 ⟨rfl, hb, hw⟩; have Bh2 := Lib.hid hb; clear hb hw))
        go_ret
        have hbad : ¬ cc ≤ m := by have := HC.out; have := Ok0.out; have := Ok1.out; have := No2.out; omega
        exact ⟨ret_bool (decide_eq_false hbad).symm, ((((Only.alloc g w (.cells #[.string p.id, .bool p.set, .int .i64 p.alg, .slice A1 n1 k1, .slice A2 n2 k2, .slice A3 n3 k3, .slice A4 n4 k4] 28)).trans Bh0.out).trans Bh1.out).trans Bh2.out), fun h => absurd h hbad⟩
    · have dd1 := decide_eq_false o1
      have No1 := Lib.hid o1
      clear o1
      go_enter Tryz.func23, Tryz.ntmps23
      go_wp2_with (first
        | (go_at_call 44; (with_reducible refine hC0.out.mono ?_); rintro e vh0 ⟨rfl, hb, hw⟩; have Bh0 := Lib.hid hb; have Lh0 := Lib.hid (hw Ok0.out); have Xh0 := Lib.hid (Xhs.out.keep (hb.heap Xhs.out.lt hgn)); have yh00 := Xh0.out.cell 0; have hC1 := Lib.hid (ktext_any p.id Lh0.out (by have := HM.out; omega) HID.out); unfold Taking at hC1; rw [dd1] at hC1; clear hb hw)
        | (go_at_call 45; (with_reducible refine hC1.out.mono ?_); rintro e vh1 ⟨rfl, hb, hw⟩; have Bh1 := Lib.hid hb; clear hb hw))
      go_ret
      have hbad : ¬ cc ≤ m := by have := HC.out; have := Ok0.out; have := No1.out; omega
      exact ⟨ret_bool (decide_eq_false hbad).symm, (((Only.alloc g w (.cells #[.string p.id, .bool p.set, .int .i64 p.alg, .slice A1 n1 k1, .slice A2 n2 k2, .slice A3 n3 k3, .slice A4 n4 k4] 28)).trans Bh0.out).trans Bh1.out), fun h => absurd h hbad⟩
  · rw [decide_eq_false o0] at hC0
    have No0 := Lib.hid o0
    clear o0
    go_enter Tryz.func23, Tryz.ntmps23
    go_wp2_with (first
      | (go_at_call 44; (with_reducible refine hC0.out.mono ?_); rintro e vh0 ⟨rfl, hb, hw⟩; have Bh0 := Lib.hid hb; clear hb hw))
    go_ret
    have hbad : ¬ cc ≤ m := by have := HC.out; have := No0.out; omega
    exact ⟨ret_bool (decide_eq_false hbad).symm, ((Only.alloc g w (.cells #[.string p.id, .bool p.set, .int .i64 p.alg, .slice A1 n1 k1, .slice A2 n2 k2, .slice A3 n3 k3, .slice A4 n4 k4] 28)).trans Bh0.out), fun h => absurd h hbad⟩
end Go.Proofs.YtdbnaaddocahpaaGreatDoor
/- bailiffkeep.Small: is a policy one that may be gone through in a while? -/
namespace Go.Proofs.YtdbnaaddocahpaaGreatDoor
set_option linter.unusedVariables false
open Go.RowKit

theorem kok_all : ∀ d, KOk d
  | 0 => kpol_step 0 fun d' h => by omega
  | d + 1 => kpol_step (d + 1) fun d' h => by
    obtain rfl : d' = d := by omega
    exact kok_all d'

set_option maxRecDepth 100000 in
theorem small_pol {w : World} {R : Nat → Prop} {d : Nat} {p : Pol} {A1 A2 A3 A4 : Option Addr} {n1 k1 n2 k2 n3 k3 n4 k4 : Nat} (hid : p.id.size ≤ maxLen) (h1 : Tg w R A1 n1 k1 p.tg) (h2 : Rus w R A2 n2 k2 p.rules) (h3 : Pls w R d A3 n3 k3 p.kids) (h4 : Dus w R A4 n4 k4 p.ob) :
    Calls Tryz.prog 7 #[.agg #[.string p.id, .bool p.set, .int .i64 p.alg, .slice A1 n1 k1, .slice A2 n2 k2, .slice A3 n3 k3, .slice A4 n4 k4]] w
      fun e w' => e = .returned (.bool (decide (polC (d + 1) p ≤ 3000))) ∧ Below w.heap.size w w' := by
  have hb0 : Below w.heap.size w ((w.alloc (.cells #[.string p.id, .bool p.set, .int .i64 p.alg, .slice A1 n1 k1, .slice A2 n2 k2, .slice A3 n3 k3, .slice A4 n4 k4] 28)).alloc (.cells #[.int .i64 3000] 58)) :=
    ((Below.refl _ _).alloc (Nat.le_refl _) _).alloc (by simp) _
  have hl : Lf ((w.alloc (.cells #[.string p.id, .bool p.set, .int .i64 p.alg, .slice A1 n1 k1, .slice A2 n2 k2, .slice A3 n3 k3, .slice A4 n4 k4] 28)).alloc (.cells #[.int .i64 3000] 58)) (w.heap.size + 1) 3000 := by
    have := Ob.made (w.alloc (.cells #[.string p.id, .bool p.set, .int .i64 p.alg, .slice A1 n1 k1, .slice A2 n2 k2, .slice A3 n3 k3, .slice A4 n4 k4] 28)) 58 #[.int .i64 3000]
    rwa [size_al] at this
  have hk := Kept.all hb0 R
  have HC := kok_all d (R := fun b => b < w.heap.size) hl (Nat.le_refl _) (fun b hb => by omega) hid (h1.keep hk (fun b _ hb => hb)) (h2.keep hk (fun b _ hb => hb)) (h3.keep hk (fun b _ hb => hb)) (h4.keep hk (fun b _ hb => hb))
  unfold Taking at HC
  have HCC := Lib.hid HC
  have HB0 := Lib.hid hb0
  clear HC hk hl hb0 h1 h2 h3 h4
  go_enter Tryz.func7, Tryz.ntmps7
  go_wp2_with (go_at_call 23; refine HCC.out.mono ?_; rintro e w1 ⟨rfl, hb, hw⟩)
  go_ret
  exact ⟨rfl, HB0.out.trans (hb.below (by simp only [size_al]; omega) (by omega))⟩
theorem small_tg {d : Nat} {p : Pol} (h : polC (d + 1) p ≤ 3000) : tgC p.tg ≤ 3000 := by
  unfold polC at h; omega
theorem tgC_len (t : Tgt) : t.length ≤ tgC t := by unfold tgC; omega
end Go.Proofs.YtdbnaaddocahpaaGreatDoor
/- What the rows of stage 10 lay: strconv's table and the words of package show. -/
namespace Go.Proofs.YtdbnaaddocahpaaGreatDoor
set_option linter.unusedVariables false
open Go.RowKit

theorem cells_of_words {H : Type} {enc : TypeId × Value → H} {P : Program} {w : World} {base : Nat} {sp : Nat → Bool} {held : Bool} {fuel : Nat} {t e : TypeId} {n : Nat} {cs : List Value} {zs : List (List UInt8)} {p : List MemPlace}
    (ht : P.underlying t = some (.array n e)) (he : P.underlying e = some .string) (hce : P.cellsOf e = 1) (hct : P.cellsOf t = n)
    (h : DataW.trod enc P w base sp held fuel t cs = some (.agg (zs.map fun z => (DataW.lit (.string z) : DataW H)), p)) : cs = zs.map fun l => Value.string ⟨l.toArray⟩ := by
  cases fuel with
  | zero => simp [DataW.trod] at h
  | succ fuel =>
    simp only [DataW.trod, ht, hce, hct, Nat.mul_one] at h
    split at h
    · rename_i hl
      obtain ⟨xs, hm, hx⟩ := Option.map_eq_some_iff.1 h
      have hxs : xs.map (·.1) = zs.map fun z => (DataW.lit (.string z) : DataW H) := by
        have := congrArg Prod.fst hx
        simpa using this
      have hxl : xs.length = n := by simpa using Lib.mapM_length hm
      have hzl : zs.length = n := by
        have := congrArg List.length hxs
        simp at this
        omega
      apply List.ext_getElem?
      intro i
      by_cases hi : i < n
      · obtain ⟨b, hb, hf⟩ := Lib.mapM_at hm i i (by simp [hi])
        obtain ⟨s, hc, hx2, _⟩ := DataW.trod_string he hf
        have h1 : cs[i]? = some (.string s) := by
          have := congrArg (·[0]?) hc
          simpa [List.getElem?_take, List.getElem?_drop] using this
        have h2 : (xs.map (·.1))[i]? = some (DataW.lit (.string s.data.toList) : DataW H) := by
          rw [List.getElem?_map, hb, hx2]
          rfl
        rw [hxs] at h2
        simp only [List.getElem?_map, Option.map_eq_some_iff] at h2
        obtain ⟨z', hz', hzz⟩ := h2
        injection hzz with hzz
        injection hzz with hzz
        rw [h1, List.getElem?_map, hz', hzz]
        show some (Value.string s) = some (Value.string ⟨(bl s).toArray⟩)
        obtain ⟨⟨l⟩⟩ := s
        rfl
      · rw [List.getElem?_eq_none (by omega), List.getElem?_eq_none (by simp; omega)]
    · cases h
theorem tbl_of_laid {W : World} (h : laidMetH Tryz.prog Rows.showReadsRow.laid W) : Tbl W := by
  rw [MakeChecks.laidMetH_plain _ _ _ (by kernel_rfl)] at h
  obtain ⟨ps, ⟨g0, t0, cs0, f0, p0, q0, hg0, ht0, hv0, hd0, ⟨g1, t1, cs1, f1, p1, q1, hg1, ht1, hv1, hd1, ⟨g2, t2, cs2, f2, p2, q2, hg2, ht2, hv2, hd2, ⟨g3, t3, cs3, f3, p3, q3, hg3, ht3, hv3, hd3, ⟨g4, t4, cs4, f4, p4, q4, hg4, ht4, hv4, hd4, ⟨g5, t5, cs5, f5, p5, q5, hg5, ht5, hv5, hd5, ⟨g6, t6, cs6, f6, p6, q6, hg6, ht6, hv6, hd6, ⟨g7, t7, cs7, f7, p7, q7, hg7, ht7, hv7, hd7, _, _⟩, _⟩, _⟩, _⟩, _⟩, _⟩, _⟩, _⟩, _, _⟩ := h
  obtain rfl := Option.some.inj ((show Tryz.prog.globalNamed "internal/strconv.uint64pow10" = some 6 by kernel_rfl).symm.trans hg2)
  obtain rfl := Option.some.inj ((show (Tryz.prog.globals[6]?).map (·.type) = some 204 by kernel_rfl).symm.trans ht2)
  have hc := Lib.cells_of_tab (k := .u64) (zs := Lib.pow10Tab) (n := 20) (e := 141) Tryz.underlying204 Tryz.underlying141 (by kernel_rfl) (by kernel_rfl) hd2
  obtain rfl := Option.some.inj ((show Tryz.prog.globalNamed "bailiff/show.algorithms" = some 1 by kernel_rfl).symm.trans hg3)
  obtain rfl := Option.some.inj ((show (Tryz.prog.globals[1]?).map (·.type) = some 105 by kernel_rfl).symm.trans ht3)
  have hc3 := cells_of_words (zs := algL) (n := 7) (e := 9) Tryz.underlying105 Tryz.underlying9 (by kernel_rfl) (by kernel_rfl) hd3
  obtain rfl := Option.some.inj ((show Tryz.prog.globalNamed "bailiff/show.categories" = some 0 by kernel_rfl).symm.trans hg4)
  obtain rfl := Option.some.inj ((show (Tryz.prog.globals[0]?).map (·.type) = some 77 by kernel_rfl).symm.trans ht4)
  have hc4 := cells_of_words (zs := catL) (n := 5) (e := 9) Tryz.underlying77 Tryz.underlying9 (by kernel_rfl) (by kernel_rfl) hd4
  obtain rfl := Option.some.inj ((show Tryz.prog.globalNamed "bailiff/show.functions" = some 2 by kernel_rfl).symm.trans hg5)
  obtain rfl := Option.some.inj ((show (Tryz.prog.globals[2]?).map (·.type) = some 121 by kernel_rfl).symm.trans ht5)
  have hc5 := cells_of_words (zs := fnL) (n := 14) (e := 9) Tryz.underlying121 Tryz.underlying9 (by kernel_rfl) (by kernel_rfl) hd5
  obtain rfl := Option.some.inj ((show Tryz.prog.globalNamed "bailiff/show.comparisons" = some 5 by kernel_rfl).symm.trans hg6)
  obtain rfl := Option.some.inj ((show (Tryz.prog.globals[5]?).map (·.type) = some 190 by kernel_rfl).symm.trans ht6)
  have hc6 := cells_of_words (zs := cmpL) (n := 4) (e := 9) Tryz.underlying190 Tryz.underlying9 (by kernel_rfl) (by kernel_rfl) hd6
  obtain rfl := Option.some.inj ((show Tryz.prog.globalNamed "bailiff/show.doings" = some 3 by kernel_rfl).symm.trans hg7)
  obtain rfl := Option.some.inj ((show (Tryz.prog.globals[3]?).map (·.type) = some 77 by kernel_rfl).symm.trans ht7)
  have hc7 := cells_of_words (zs := doL) (n := 5) (e := 9) Tryz.underlying77 Tryz.underlying9 (by kernel_rfl) (by kernel_rfl) hd7
  refine ⟨?_, ?_, ?_, ?_, ?_, ?_⟩
  · unfold Tab Lib.TabIs
    rw [hv2, ← hc]
  · unfold WordsIs
    rw [hv3, ← hc3]
  · unfold WordsIs
    rw [hv4, ← hc4]
  · unfold WordsIs
    rw [hv5, ← hc5]
  · unfold WordsIs
    rw [hv6, ← hc6]
  · unfold WordsIs
    rw [hv7, ← hc7]
end Go.Proofs.YtdbnaaddocahpaaGreatDoor
/- The rows' condition, met at the program's own start. -/
namespace Go.Proofs.YtdbnaaddocahpaaGreatDoor
open Go.ChangeShapes Go.WideShapes Go.ChangeAt Go.WideMaps Go.WideElems Go.RowKit

theorem own : ownKnob Tryz.prog.godebug = none := by kernel_rfl
theorem laidOut : laidOutB Tryz.prog = true := by kernel_rfl

/-- The door's own heap meets the condition. -/
theorem door_met (os : Os) (args : Array Value) : laidMetH Tryz.prog Rows.showReadsRow.laid ((World.doorLaid Tryz.prog 300 os).forCall (fun _ _ => 0) ⟨#[], args, []⟩).memory :=
  laidMetH_of_parts3 (fuel := 8) (laidMet_of_run' 8 (by kernel_rfl) (by kernel_rfl)) (by kernel_rfl) (by kernel_rfl)
end Go.Proofs.YtdbnaaddocahpaaGreatDoor
/- Arguments that come in: a slice of bytes as Sl. -/
namespace Go.Proofs.YtdbnaaddocahpaaGreatDoor
set_option linter.unusedVariables false
open Go.RowKit Go.ChangeShapes Go.WideShapes

theorem cell_lt {w : World} {p : Addr} {v : Value} (h : w.cell? p = some v) : p.block < w.heap.size := by
  rcases Nat.lt_or_ge p.block w.heap.size with hlt | hge
  · exact hlt
  · simp [World.cell?, Array.getElem?_eq_none hge] at h

theorem open_bytes {H : Type} {enc : TypeId × Value → H} {P : Program} {w : World} {base n c : Nat} {spare : Nat → Bool} {held : Bool} {t e : TypeId} {A : Option Addr} {d : DataW H} {p : List MemPlace}
    (ht : P.underlying t = some (.slice e)) (he : P.underlying e = some (.int .u8)) (hc : P.cellsOf e = 1) (h : DataW.Trod enc P w base spare held t (.slice A n c) d p) : ∃ l, Sl w w.heap.size A n c (bv l) := by
  obtain ⟨fuel, hf⟩ := h
  rcases open_ints ht he hc hf with ⟨hcs, _⟩ | ⟨a, len, cap, zs, hcs, _, hl, hm, hz, _, hcell, hwz⟩
  · simp [Value.cells] at hcs
    obtain ⟨rfl, rfl, rfl⟩ := hcs
    exact ⟨[], Sl.nil_ w _⟩
  · simp [Value.cells] at hcs
    obtain ⟨rfl, rfl, rfl⟩ := hcs
    have hzl : n ≤ zs.length := by rw [hz]; split <;> omega
    have hb : ∀ z ∈ zs, ((UInt8.ofNat z.toNat).toNat : Int) = z := by
      intro z hz'
      have := hwz z hz'
      simp only [Lit.wf, Bool.and_eq_true, decide_eq_true_eq] at this
      have h1 : (0 : Int) ≤ z := this.1
      have h2 : z ≤ 255 := this.2
      simp
      omega
    refine ⟨(zs.take n).map fun z => UInt8.ofNat z.toNat, by simp [bv]; omega, hl, hm, ?_⟩
    by_cases h0 : n = 0
    · exact .inl h0
    · right
      obtain ⟨b, o, spot⟩ := a
      have h00 := hcell 0 (by omega)
      have hspot : spot = none := by simpa [Addr.add] using World.cell?_spot h00
      subst hspot
      refine ⟨b, o, rfl, by have := cell_lt h00; simpa [Addr.add] using this, fun j u hj => ?_⟩
      have hjn : j < n := by
        rcases Nat.lt_or_ge j n with hlt | hge
        · exact hlt
        · rw [List.getElem?_eq_none (by simp [bv]; omega)] at hj; cases hj
      have hcj := hcell j (by omega)
      have ha : (⟨b, o, none⟩ : Addr).add j = ⟨b, o + j, none⟩ := by
        by_cases hj0 : j = 0 <;> simp [Addr.add, hj0]
      rw [ha] at hcj
      rw [hcj, ← hj]
      simp only [bv, List.map_map, List.getElem?_map, List.getElem?_take, hjn, if_true]
      rw [List.getElem?_eq_getElem (by omega : j < zs.length)]
      simp only [Option.map_some, Function.comp, List.getD, List.getElem?_eq_getElem (by omega : j < zs.length), Option.getD_some]
      rw [hb _ (List.getElem_mem _)]

theorem own_empty (w : World) (base e : Nat) (hb : base ≤ w.heap.size) : (w.alloc (.cells #[] e)).ownsRow base e 1 (.slice (some ⟨w.heap.size, 0, none⟩) 0 0) 0 [] :=
  ⟨rfl, .inr ⟨w.heap.size, 0, #[], rfl, hb, heap_alloc_new w _, Nat.le_refl _, by simp [maxLen], rfl, rfl⟩⟩

/-- An append whose run is known, under a guard that says yes. -/
theorem wpList_append_want {P : Program} {w w' : World} {ops : Array Oper} {rest : List Oper} {o : Oper} {a : Act} {Q : Exit → Act → World → Prop} (hgd : Region.wanted o (yielded ops a.tmps) = true) (s x : Operand) (t u : TypeId)
    (ho : o.op = .call { callee := .builtin .append, args := #[s, x], argTypes := #[t, u] }) {sv xv v' : Value} (hs : a.eval s = sv) (hx : a.eval x = xv)
    (hrun : (Builtin.append_ #[t, u] o.type #[sv, xv]).run P w = .ok v' w') (h : wpList P ops Q rest (a.put o.dst v') w') : wpList P ops Q (o :: rest) a w := by
  refine BigFrame.wpList_want hgd fun K hK => ?_
  unfold Oper.wp execOp
  simp only [ho, resolve, invoke, builtin, Sem.run_bind, Sem.run_pure, Result.andThen_ok, List.map_toArray, List.map_cons, List.map_nil, hs, hx, hrun]
  exact hK _ _ h
end Go.Proofs.YtdbnaaddocahpaaGreatDoor
