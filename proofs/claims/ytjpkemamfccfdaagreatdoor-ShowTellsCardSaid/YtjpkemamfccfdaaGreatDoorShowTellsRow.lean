/- ShowTells: the last of what it stands on, the walk, the row and its tied card. -/
import Derived.Test.YtjpkemamfccfdaaGreatDoorPolRight
import Derived.Laws.StructEq
import Derived.Laws.Tables
import Derived.Laws.Cover2
import Derived.Lib.QuietBelow
import Derived.Deep.CutRange
import Derived.Test.YtjpkemamfccfdaaGreatDoorHTail
import Derived.Test.YtjpkemamfccfdaaGreatDoorTelA
import Derived.ProofKit
import Derived.LaidMore
import Derived.OpenShut
import Derived.Stop.Joined
import Derived.Test.YtjpkemamfccfdaaGreatDoorTelC
import Derived.Test.YtjpkemamfccfdaaGreatDoorPolOw
import Derived.Test.YtjpkemamfccfdaaGreatDoorKeepIs
import Derived.Test.YtjpkemamfccfdaaGreatDoorKeepCopy
import Derived.Test.YtjpkemamfccfdaaGreatDoorTie
import Derived.Test.YtjpkemamfccfdaaGreatDoorCards
import Derived.SevenTiedAt
import Derived.ShutString
import Derived.ChangeOld
import Derived.Below
import Derived.SizedLaws
/- bailiffkeep: two policies that are the same. -/
namespace Go.Proofs.YtjpkemamfccfdaaGreatDoor
set_option linter.unusedVariables false
open Go.RowKit Go.Sort

section
variable {w : World} {R R' : Nat → Prop} {A A' : Option Addr} {n c n' c' : Nat}
theorem Rw.same_len {α : Type} {k k' : Nat} {P P' : List Value → α → Prop} {w : World} {R R' : Nat → Prop} {A A' : Option Addr} {n n' c c' : Nat} {l : List α} (h : Rw k P w R A n c l) (h' : Rw k' P' w R' A' n' c' l) : n = n' := by rw [← h.len, ← h'.len]
set_option maxHeartbeats 800000 in
theorem same_dut {l : List Dut} (h : Dus w R A n c l) (h' : Dus w R' A' n c' l) : Calls Tryz.prog 33 #[.slice A n c, .slice A' n c'] w fun e w' => e = .returned (.bool true) ∧ Below w.heap.size w w' := by
  have hcap := h.cap
  have hle := h.le
  have hle' := h'.le
  unfold maxLen at hcap
  have H := Lib.hid h
  have H' := Lib.hid h'
  clear h h'
  go_enter Tryz.func33, Tryz.ntmps33
  go_wp2
  go_loopw [5] (fun i wr => ∃ k : Nat, k ≤ n ∧ i = .int .i64 k ∧ ∃ q, wr = w.drewN q) (fun i _ => n - (intOf i).toNat)
  case atStart => exact ⟨0, Nat.zero_le _, rfl, 0, rfl⟩
  case round =>
    obtain ⟨k, hk, rfl, q, rfl⟩ := hrel
    by_cases hlt : k < n
    · obtain ⟨b, o, x, rfl, _, _, hx, _, ⟨x0, x1, x2⟩⟩ := H.out.at_ hlt
      obtain ⟨b', o', y, rfl, _, _, hy, _, ⟨y0, y1, y2⟩⟩ := H'.out.at_ hlt
      obtain rfl := Option.some.inj (hx.symm.trans hy)
      have hve := dut_eq x x
      simp only [decide_true] at hve
      clear hx hy
      go_wp2_with fail
      go_quiet (fail)
      go_wp2
      go_roundw
      case rel => exact ⟨k + 1, by omega, by go_num, _, rfl⟩
      case measure => simp [intOf]; omega
    · obtain rfl : k = n := by omega
      go_wp2
      go_ret
      exact ⟨rfl, below_drewN (Below.refl _ _) _⟩
set_option maxHeartbeats 800000 in
theorem same_nod {l : List Nod} (h : Nds w R A n c l) (h' : Nds w R' A' n c' l) : Calls Tryz.prog 34 #[.slice A n c, .slice A' n c'] w fun e w' => e = .returned (.bool true) ∧ Below w.heap.size w w' := by
  have hcap := h.cap
  have hle := h.le
  have hle' := h'.le
  unfold maxLen at hcap
  have H := Lib.hid h
  have H' := Lib.hid h'
  clear h h'
  go_enter Tryz.func34, Tryz.ntmps34
  go_wp2
  go_loopw [5] (fun i wr => ∃ k : Nat, k ≤ n ∧ i = .int .i64 k ∧ ∃ q, wr = w.drewN q) (fun i _ => n - (intOf i).toNat)
  case atStart => exact ⟨0, Nat.zero_le _, rfl, 0, rfl⟩
  case round =>
    obtain ⟨k, hk, rfl, q, rfl⟩ := hrel
    by_cases hlt : k < n
    · obtain ⟨b, o, x, rfl, _, _, hx, _, ⟨x0, x1, x2, x3, x4, x5, x6⟩⟩ := H.out.at_ hlt
      obtain ⟨b', o', y, rfl, _, _, hy, _, ⟨y0, y1, y2, y3, y4, y5, y6⟩⟩ := H'.out.at_ hlt
      obtain rfl := Option.some.inj (hx.symm.trans hy)
      have hve := nod_eq x x
      simp only [decide_true] at hve
      clear hx hy
      go_wp2_with fail
      go_quiet (fail)
      go_wp2
      go_roundw
      case rel => exact ⟨k + 1, by omega, by go_num, _, rfl⟩
      case measure => simp [intOf]; omega
    · obtain rfl : k = n := by omega
      go_wp2
      go_ret
      exact ⟨rfl, below_drewN (Below.refl _ _) _⟩
set_option maxHeartbeats 800000 in
theorem same_mat {l : List Mat} (h : Ms w R A n c l) (h' : Ms w R' A' n c' l) : Calls Tryz.prog 58 #[.slice A n c, .slice A' n c'] w fun e w' => e = .returned (.bool true) ∧ Below w.heap.size w w' := by
  have hcap := h.cap
  have hle := h.le
  have hle' := h'.le
  unfold maxLen at hcap
  have H := Lib.hid h
  have H' := Lib.hid h'
  clear h h'
  go_enter Tryz.func58, Tryz.ntmps58
  go_wp2
  go_loopw [5] (fun i wr => ∃ k : Nat, k ≤ n ∧ i = .int .i64 k ∧ ∃ q, wr = w.drewN q) (fun i _ => n - (intOf i).toNat)
  case atStart => exact ⟨0, Nat.zero_le _, rfl, 0, rfl⟩
  case round =>
    obtain ⟨k, hk, rfl, q, rfl⟩ := hrel
    by_cases hlt : k < n
    · obtain ⟨b, o, x, rfl, _, _, hx, _, ⟨x0, x1, x2, x3, x4, x5, x6⟩⟩ := H.out.at_ hlt
      obtain ⟨b', o', y, rfl, _, _, hy, _, ⟨y0, y1, y2, y3, y4, y5, y6⟩⟩ := H'.out.at_ hlt
      obtain rfl := Option.some.inj (hx.symm.trans hy)
      have hve := mat_eq x x
      simp only [decide_true] at hve
      clear hx hy
      go_wp2_with fail
      go_quiet (fail)
      go_wp2
      go_roundw
      case rel => exact ⟨k + 1, by omega, by go_num, _, rfl⟩
      case measure => simp [intOf]; omega
    · obtain rfl : k = n := by omega
      go_wp2
      go_ret
      exact ⟨rfl, below_drewN (Below.refl _ _) _⟩
theorem same_dut_q {l : List Dut} (h : Dus w R A n c l) (h' : Dus w R' A' n' c' l) (d : Nat) (os : Array Obj) : Calls Tryz.prog 33 #[.slice A n c, .slice A' n' c'] (grow (redrawn w d) os) fun e w'' => e = .returned (.bool true) ∧ ∃ p : Regrown, w'' = grow (redrawn w p.d) p.os := by
  obtain rfl := Rw.same_len h h'
  exact Calls.regrown_of (same_dut (R := R) (R' := R') (h.keep (Kept.all (below_regrown w d os) R) (fun _ h _ => h)) (h'.keep (Kept.all (below_regrown w d os) R') (fun _ h _ => h)))
theorem same_nod_q {l : List Nod} (h : Nds w R A n c l) (h' : Nds w R' A' n' c' l) (d : Nat) (os : Array Obj) : Calls Tryz.prog 34 #[.slice A n c, .slice A' n' c'] (grow (redrawn w d) os) fun e w'' => e = .returned (.bool true) ∧ ∃ p : Regrown, w'' = grow (redrawn w p.d) p.os := by
  obtain rfl := Rw.same_len h h'
  exact Calls.regrown_of (same_nod (R := R) (R' := R') (h.keep (Kept.all (below_regrown w d os) R) (fun _ h _ => h)) (h'.keep (Kept.all (below_regrown w d os) R') (fun _ h _ => h)))
theorem same_mat_q {l : List Mat} (h : Ms w R A n c l) (h' : Ms w R' A' n' c' l) (d : Nat) (os : Array Obj) : Calls Tryz.prog 58 #[.slice A n c, .slice A' n' c'] (grow (redrawn w d) os) fun e w'' => e = .returned (.bool true) ∧ ∃ p : Regrown, w'' = grow (redrawn w p.d) p.os := by
  obtain rfl := Rw.same_len h h'
  exact Calls.regrown_of (same_mat (R := R) (R' := R') (h.keep (Kept.all (below_regrown w d os) R) (fun _ h _ => h)) (h'.keep (Kept.all (below_regrown w d os) R') (fun _ h _ => h)))
set_option maxRecDepth 100000 in
set_option maxHeartbeats 1600000 in
theorem same_tgt {l : Tgt} (h : Tg w R A n c l) (h' : Tg w R' A' n c' l) : Calls Tryz.prog 32 #[.slice A n c, .slice A' n c'] w fun e w' => e = .returned (.bool true) ∧ Below w.heap.size w w' := by
  have hcap := h.cap
  have hle := h.le
  have hle' := h'.le
  unfold maxLen at hcap
  have H := Lib.hid h
  have H' := Lib.hid h'
  clear h h'
  go_enter Tryz.func32, Tryz.ntmps32
  go_wp2
  go_loopw [14] (fun i wr => ∃ k : Nat, k ≤ n ∧ i = .int .i64 k ∧ Below w.heap.size w wr) (fun i _ => n - (intOf i).toNat)
  case atStart => exact ⟨0, Nat.zero_le _, rfl, Below.refl _ _⟩
  case round =>
    obtain ⟨k, hk, rfl, hb⟩ := hrel
    have HB := Lib.hid hb
    have T1 := Lib.hid (H.out.keep (Kept.all hb R) (fun _ h _ => h))
    have T2 := Lib.hid (H'.out.keep (Kept.all hb R') (fun _ h _ => h))
    clear hb
    by_cases hlt : k < n
    · obtain ⟨b, o, x, A1, n1, c1, rfl, _, _, hx, x0, hA⟩ := T1.out.at_ hlt
      obtain ⟨b', o', y, A2, n2, c2, rfl, _, _, hy, y0, hA'⟩ := T2.out.at_ hlt
      obtain rfl := Option.some.inj (hx.symm.trans hy)
      obtain rfl := Rw.same_len hA hA'
      have hcap1 := Rw.cap hA
      have hle1 := Rw.le hA
      have hle2 := Rw.le hA'
      unfold maxLen at hcap1
      have G1 := Lib.hid hA
      have G2 := Lib.hid hA'
      clear hx hy hA hA'
      go_wp2_with fail
      have x0' := fun d os => cell_regrown x0 d os
      have y0' := fun d os => cell_regrown y0 d os
      refine wp_region_quiet_below (by kernel_rfl) (by kernel_rfl) ?_
      repeat (go_big_quiet_step (fail))
      refine wpQuiet_nil ?_
      intro _ hw'
      obtain ⟨⟨dq, osq⟩, hw''⟩ := hw'
      subst hw''
      have BQ := Lib.hid (below_regrown wr dq osq)
      have c1x := x0' dq osq
      clear x0' y0'
      generalize grow (redrawn wr dq) osq = w2 at *
      have HB2 := Lib.hid (HB.out.trans (BQ.out.mono HB.out.size))
      have S1 := Lib.hid (G1.out.keep (Kept.all BQ.out R) (fun _ h _ => h))
      have S2 := Lib.hid (G2.out.keep (Kept.all BQ.out R') (fun _ h _ => h))
      have xw := c1x
      have yw := (show w2.cell? _ = some _ from (BQ.out.cell (block_lt_of_cell y0)).trans y0)
      clear c1x
      go_wp2_with fail
      obtain ⟨wo, hwo⟩ : ∃ wo, wo = wr := ⟨wr, rfl⟩
      subst hwo
      go_loopw [33] (fun i wq => ∃ j : Nat, j ≤ n1 ∧ i = .int .i64 j ∧ Below w2.heap.size w2 wq) (fun i _ => n1 - (intOf i).toNat)
      case atStart => exact ⟨0, Nat.zero_le _, rfl, Below.refl _ _⟩
      case round =>
        obtain ⟨j, hj, rfl, hb⟩ := hrel
        have HB3 := Lib.hid (HB2.out.trans (hb.mono HB2.out.size))
        have HBJ := Lib.hid hb
        have T1j := Lib.hid (S1.out.keep (Kept.all hb R) (fun _ h _ => h))
        have T2j := Lib.hid (S2.out.keep (Kept.all hb R') (fun _ h _ => h))
        have X0 := Lib.hid ((hb.cell (block_lt_of_cell xw)).trans xw)
        have Y0 := Lib.hid ((hb.cell (block_lt_of_cell yw)).trans yw)
        clear hb
        by_cases hlt2 : j < n1
        · obtain ⟨b1, o1, u, A3, n3, c3, rfl, _, _, hu, u0, hM⟩ := T1j.out.at_ hlt2
          obtain ⟨b2, o2, v, A4, n4, c4, rfl, _, _, hv, v0, hM'⟩ := T2j.out.at_ hlt2
          obtain rfl := Option.some.inj (hu.symm.trans hv)
          have M1 := Lib.hid hM
          have M2 := Lib.hid hM'
          have KK := Lib.hid (below_regrown wr)
          have Q1 : Hid (∀ d os, Calls Tryz.prog 58 #[.slice A3 n3 c3, .slice A4 n4 c4] (grow (redrawn wr d) os) fun e w'' => e = .returned (.bool true) ∧ ∃ p : Regrown, w'' = grow (redrawn wr p.d) p.os) := fun d os => same_mat_q M1.out M2.out d os
          have x1 := fun d os => cell_regrown X0.out d os
          have y1 := fun d os => cell_regrown Y0.out d os
          have u1 := fun d os => cell_regrown u0 d os
          have v1 := fun d os => cell_regrown v0 d os
          clear hu hv hM hM' x0 y0 u0 v0 xw yw
          go_wp2_with fail
          refine wp_region_quiet_below (by kernel_rfl) (by kernel_rfl) ?_
          repeat (go_big_quiet_step ((go_at_call 58; exact Q1.out _ _)))
          refine wpQuiet_nil ?_
          intro _ hw'
          obtain ⟨⟨dq, osq⟩, hw''⟩ := hw'
          subst hw''
          have BQ2 := Lib.hid (below_regrown wr dq osq)
          clear x1 y1 u1 v1 Q1 KK
          generalize grow (redrawn wr dq) osq = w5 at *
          go_wp2_with fail
          go_roundw
          case rel => exact ⟨j + 1, by omega, by go_num, HBJ.out.trans (BQ2.out.mono HBJ.out.size)⟩
          case measure => simp [intOf]; omega
        · obtain rfl : j = n1 := by omega
          clear x0 y0 xw yw
          go_wp2_with fail
          go_roundw
          case rel => exact ⟨k + 1, by omega, by go_num, HB3.out⟩
          case measure => simp [intOf]; omega
    · obtain rfl : k = n := by omega
      go_wp2
      go_ret
      exact ⟨rfl, HB.out⟩
/-- Two policies in memory that are the same. -/
def PSame (d : Nat) : Prop := ∀ {w : World} {R R' : Nat → Prop} {m : Nat} {p : Pol} {A1 A2 A3 A4 B1 B2 B3 B4 : Option Addr} {n1 n2 n3 n4 ak1 ak2 ak3 ak4 bk1 bk2 bk3 bk4 : Nat},
  p.id.size ≤ maxLen → (Tg w R A1 n1 ak1 p.tg ∧ Rus w R A2 n2 ak2 p.rules ∧ Pls w R d A3 n3 ak3 p.kids ∧ Dus w R A4 n4 ak4 p.ob) → (Tg w R' B1 n1 bk1 p.tg ∧ Rus w R' B2 n2 bk2 p.rules ∧ Pls w R' m B3 n3 bk3 p.kids ∧ Dus w R' B4 n4 bk4 p.ob) →
  Calls Tryz.prog 15 #[.agg #[.string p.id, .bool p.set, .int .i64 p.alg, .slice A1 n1 ak1, .slice A2 n2 ak2, .slice A3 n3 ak3, .slice A4 n4 ak4], .agg #[.string p.id, .bool p.set, .int .i64 p.alg, .slice B1 n1 bk1, .slice B2 n2 bk2, .slice B3 n3 bk3, .slice B4 n4 bk4]] w fun e w' => e = .returned (.bool true) ∧ Below w.heap.size w w'
theorem same_q {d m : Nat} (ih : PSame d) {p : Pol} {A1 A2 A3 A4 B1 B2 B3 B4 : Option Addr} {n1 n2 n3 n4 ak1 ak2 ak3 ak4 bk1 bk2 bk3 bk4 : Nat}
    (hid : p.id.size ≤ maxLen) (hA : Tg w R A1 n1 ak1 p.tg ∧ Rus w R A2 n2 ak2 p.rules ∧ Pls w R d A3 n3 ak3 p.kids ∧ Dus w R A4 n4 ak4 p.ob) (hB : Tg w R' B1 n1 bk1 p.tg ∧ Rus w R' B2 n2 bk2 p.rules ∧ Pls w R' m B3 n3 bk3 p.kids ∧ Dus w R' B4 n4 bk4 p.ob) (dd : Nat) (os : Array Obj) :
    Calls Tryz.prog 15 #[.agg #[.string p.id, .bool p.set, .int .i64 p.alg, .slice A1 n1 ak1, .slice A2 n2 ak2, .slice A3 n3 ak3, .slice A4 n4 ak4], .agg #[.string p.id, .bool p.set, .int .i64 p.alg, .slice B1 n1 bk1, .slice B2 n2 bk2, .slice B3 n3 bk3, .slice B4 n4 bk4]] (grow (redrawn w dd) os) fun e w'' => e = .returned (.bool true) ∧ ∃ p : Regrown, w'' = grow (redrawn w p.d) p.os := by
  have k1 := Kept.all (below_regrown w dd os) R
  have k2 := Kept.all (below_regrown w dd os) R'
  exact Calls.regrown_of (ih (R := R) (R' := R') hid ⟨hA.1.keep k1 (fun _ h _ => h), hA.2.1.keep k1 (fun _ h _ => h), hA.2.2.1.keep k1 (fun _ h _ => h), hA.2.2.2.keep k1 (fun _ h _ => h)⟩ ⟨hB.1.keep k2 (fun _ h _ => h), hB.2.1.keep k2 (fun _ h _ => h), hB.2.2.1.keep k2 (fun _ h _ => h), hB.2.2.2.keep k2 (fun _ h _ => h)⟩)
set_option maxRecDepth 100000 in
set_option maxHeartbeats 3200000 in
theorem same_step (d : Nat) (ih : ∀ d', d = d' + 1 → PSame d') : PSame d := by
  intro w R R' m p A1 A2 A3 A4 B1 B2 B3 B4 n1 n2 n3 n4 ak1 ak2 ak3 ak4 bk1 bk2 bk3 bk4 hid hA hB
  have HA := Lib.hid hA
  have HB := Lib.hid hB
  have BA : Hid (Below w.heap.size w ((w.alloc (.cells #[.string p.id, .bool p.set, .int .i64 p.alg, .slice A1 n1 ak1, .slice A2 n2 ak2, .slice A3 n3 ak3, .slice A4 n4 ak4] 28)).alloc (.cells #[.string p.id, .bool p.set, .int .i64 p.alg, .slice B1 n1 bk1, .slice B2 n2 bk2, .slice B3 n3 bk3, .slice B4 n4 bk4] 28))) := (((Below.refl _ _).alloc (Nat.le_refl _) _).alloc (by rw [size_al]; omega) _)
  have PA : Hid (Ob ((w.alloc (.cells #[.string p.id, .bool p.set, .int .i64 p.alg, .slice A1 n1 ak1, .slice A2 n2 ak2, .slice A3 n3 ak3, .slice A4 n4 ak4] 28)).alloc (.cells #[.string p.id, .bool p.set, .int .i64 p.alg, .slice B1 n1 bk1, .slice B2 n2 bk2, .slice B3 n3 bk3, .slice B4 n4 bk4] 28)) w.heap.size 28 #[.string p.id, .bool p.set, .int .i64 p.alg, .slice A1 n1 ak1, .slice A2 n2 ak2, .slice A3 n3 ak3, .slice A4 n4 ak4]) := (Ob.made _ _ _).keep (Below.heap_alloc _ _ _ (by rw [size_al]; omega))
  have PB : Hid (Ob ((w.alloc (.cells #[.string p.id, .bool p.set, .int .i64 p.alg, .slice A1 n1 ak1, .slice A2 n2 ak2, .slice A3 n3 ak3, .slice A4 n4 ak4] 28)).alloc (.cells #[.string p.id, .bool p.set, .int .i64 p.alg, .slice B1 n1 bk1, .slice B2 n2 bk2, .slice B3 n3 bk3, .slice B4 n4 bk4] 28)) (w.heap.size + 1) 28 #[.string p.id, .bool p.set, .int .i64 p.alg, .slice B1 n1 bk1, .slice B2 n2 bk2, .slice B3 n3 bk3, .slice B4 n4 bk4]) := Lib.hid (by have := Ob.made (w.alloc (.cells #[.string p.id, .bool p.set, .int .i64 p.alg, .slice A1 n1 ak1, .slice A2 n2 ak2, .slice A3 n3 ak3, .slice A4 n4 ak4] 28)) 28 #[.string p.id, .bool p.set, .int .i64 p.alg, .slice B1 n1 bk1, .slice B2 n2 bk2, .slice B3 n3 bk3, .slice B4 n4 bk4]; simpa using this)
  have HID := Lib.hid hid
  clear hid hA hB
  have T1 := Lib.hid (HA.out.1.keep (Kept.all BA.out R) (fun _ h _ => h))
  have T2 := Lib.hid (HB.out.1.keep (Kept.all BA.out R') (fun _ h _ => h))
  have hlt1 : n1 ≤ 1000000000000000 := by have := T1.out.big; omega
  go_enter Tryz.func15, Tryz.ntmps15
  have pa0 := PA.out.cell 0
  have pb0 := PB.out.cell 0
  have pa1 := PA.out.cell 1
  have pb1 := PB.out.cell 1
  have pa2 := PA.out.cell 2
  have pb2 := PB.out.cell 2
  have pa3 := PA.out.cell 3
  have pb3 := PB.out.cell 3
  have pa4 := PA.out.cell 4
  have pb4 := PB.out.cell 4
  have pa5 := PA.out.cell 5
  have pb5 := PB.out.cell 5
  have pa6 := PA.out.cell 6
  have pb6 := PB.out.cell 6
  go_wp2_with fail
  go_at_call 32
  refine (same_tgt T1.out T2.out).mono ?_
  rintro e w1 ⟨rfl, hb⟩
  have BA1 := Lib.hid (below_step BA.out hb)
  have PA1 := Lib.hid (PA.out.below hb PA.out.lt)
  have PB1 := Lib.hid (PB.out.below hb PB.out.lt)
  clear hb
  have T3 := Lib.hid (HA.out.2.2.2.keep (Kept.all BA1.out R) (fun _ h _ => h))
  have T4 := Lib.hid (HB.out.2.2.2.keep (Kept.all BA1.out R') (fun _ h _ => h))
  have pa10 := PA1.out.cell 0
  have pb10 := PB1.out.cell 0
  have pa11 := PA1.out.cell 1
  have pb11 := PB1.out.cell 1
  have pa12 := PA1.out.cell 2
  have pb12 := PB1.out.cell 2
  have pa13 := PA1.out.cell 3
  have pb13 := PB1.out.cell 3
  have pa14 := PA1.out.cell 4
  have pb14 := PB1.out.cell 4
  have pa15 := PA1.out.cell 5
  have pb15 := PB1.out.cell 5
  have pa16 := PA1.out.cell 6
  have pb16 := PB1.out.cell 6
  go_wp2_with fail
  go_at_call 33
  refine (same_dut T3.out T4.out).mono ?_
  rintro e w2 ⟨rfl, hb⟩
  have BA2 := Lib.hid (below_step BA1.out hb)
  have PA2 := Lib.hid (PA1.out.below hb PA1.out.lt)
  have PB2 := Lib.hid (PB1.out.below hb PB1.out.lt)
  clear hb BA1 PA1 PB1 BA PA PB T1 T2 T3 T4
  have hcap2 := Rw.cap HA.out.2.1
  have hcap3 := Rw.cap HA.out.2.2.1
  have hle2 := Rw.le HA.out.2.1
  have hle2' := Rw.le HB.out.2.1
  have hle3 := Rw.le HA.out.2.2.1
  have hle3' := Rw.le HB.out.2.2.1
  unfold maxLen at hcap2 hcap3
  have pa20 := PA2.out.cell 0
  have pb20 := PB2.out.cell 0
  have pa21 := PA2.out.cell 1
  have pb21 := PB2.out.cell 1
  have pa22 := PA2.out.cell 2
  have pb22 := PB2.out.cell 2
  have pa23 := PA2.out.cell 3
  have pb23 := PB2.out.cell 3
  have pa24 := PA2.out.cell 4
  have pb24 := PB2.out.cell 4
  have pa25 := PA2.out.cell 5
  have pb25 := PB2.out.cell 5
  have pa26 := PA2.out.cell 6
  have pb26 := PB2.out.cell 6
  go_wp2_with fail
  go_loopw [65] (fun i wr => ∃ k : Nat, k ≤ n2 ∧ i = .int .i64 k ∧ Below w2.heap.size w2 wr) (fun i _ => n2 - (intOf i).toNat)
  case atStart => exact ⟨0, Nat.zero_le _, rfl, Below.refl _ _⟩
  case round =>
    obtain ⟨k, hk, rfl, hb⟩ := hrel
    have HBR := Lib.hid hb
    have PA3 := Lib.hid (PA2.out.below hb PA2.out.lt)
    have PB3 := Lib.hid (PB2.out.below hb PB2.out.lt)
    have BA3 := Lib.hid (below_step BA2.out hb)
    clear hb
    by_cases hlt : k < n2
    · obtain ⟨b, o, r, C1, m1, c1, C2, m2, c2, C3, m3, c3, rfl, _, _, hr, hid, ⟨x0, x1, x2, x3, x4⟩, ht, hn, hd⟩ := (Rus.keep HA.out.2.1 (Kept.all BA3.out R) (fun _ h _ => h)).at_ hlt
      obtain ⟨b', o', r', D1, q1, d1, D2, q2, d2, D3, q3, d3, rfl, _, _, hr', _, ⟨y0, y1, y2, y3, y4⟩, ht', hn', hd'⟩ := (Rus.keep HB.out.2.1 (Kept.all BA3.out R') (fun _ h _ => h)).at_ hlt
      obtain rfl := Option.some.inj (hr.symm.trans hr')
      obtain rfl := Rw.same_len ht ht'
      obtain rfl := Rw.same_len hn hn'
      obtain rfl := Rw.same_len hd hd'
      have L1 := Lib.hid ht
      have L2 := Lib.hid hn
      have L3 := Lib.hid hd
      have L1' := Lib.hid ht'
      have L2' := Lib.hid hn'
      have L3' := Lib.hid hd'
      have z4 := PA3.out.cell 4
      have z4' := PB3.out.cell 4
      have KF : Hid (∀ V : World, Below wr.heap.size wr V → V.cell? ⟨w.heap.size, 4, none⟩ = some (.slice (some ⟨b, o, none⟩) n2 ak2) ∧ V.cell? ⟨w.heap.size + 1, 4, none⟩ = some (.slice (some ⟨b', o', none⟩) n2 bk2) ∧
          V.cell? ⟨b, o + k * 5, none⟩ = some (.string r.id) ∧ V.cell? ⟨b, o + k * 5 + 1, none⟩ = some (.bool r.deny) ∧ V.cell? ⟨b, o + k * 5 + 2, none⟩ = some (.slice C1 m1 c1) ∧ V.cell? ⟨b, o + k * 5 + 3, none⟩ = some (.slice C2 m2 c2) ∧ V.cell? ⟨b, o + k * 5 + 4, none⟩ = some (.slice C3 m3 c3) ∧
          V.cell? ⟨b', o' + k * 5, none⟩ = some (.string r.id) ∧ V.cell? ⟨b', o' + k * 5 + 1, none⟩ = some (.bool r.deny) ∧ V.cell? ⟨b', o' + k * 5 + 2, none⟩ = some (.slice D1 m1 d1) ∧ V.cell? ⟨b', o' + k * 5 + 3, none⟩ = some (.slice D2 m2 d2) ∧ V.cell? ⟨b', o' + k * 5 + 4, none⟩ = some (.slice D3 m3 d3)) := fun V hV => by
        have e : ∀ {a : Addr} {v : Value}, wr.cell? a = some v → V.cell? a = some v := fun h => (hV.cell (block_lt_of_cell h)).trans h
        exact ⟨e z4, e z4', e x0, e x1, e x2, e x3, e x4, e y0, e y1, e y2, e y3, e y4⟩
      clear hr hr' hid ht hn hd ht' hn' hd' z4 z4' x0 x1 x2 x3 x4 y0 y1 y2 y3 y4
      go_wp2_with fail
      go_cut [6, 7] from 68 to 77 (fun u v wx => ∃ g1 g2, u = .pointer (some ⟨g1, 0, none⟩) ∧ v = .pointer (some ⟨g2, 0, none⟩) ∧ Ob wx g1 54 #[.string r.id, .bool r.deny, .slice C1 m1 c1, .slice C2 m2 c2, .slice C3 m3 c3] ∧ Ob wx g2 54 #[.string r.id, .bool r.deny, .slice D1 m1 d1, .slice D2 m2 d2, .slice D3 m3 d3] ∧ Below wr.heap.size wr wx)
      case first =>
        refine wp_region_held_tail (fun w' => Below wr.heap.size wr w') 13 (by kernel_rfl) (by kernel_rfl) ?_
        intro G
        change HeadW _ _ _ _ _ _ _ _ _ _ (wr.drewN 1)
        have S0 := Lib.hid (below_drewN (Below.refl wr.heap.size wr) 1)
        have LB0 : wr.heap.size ≤ (wr.drewN 1).heap.size := Nat.le_refl _
        generalize wr.drewN 1 = v0 at *
        refine HeadW_take (i := 0) (v := ?_) G rfl (by kernel_rfl) (by kernel_rfl) (by kernel_rfl) (fun _ _ _ h => h) (Or.inl ⟨by rfl, ?_⟩) S0.out ?_
        rotate_left
        · intro wz hS
          obtain ⟨z4, z4', x0, x1, x2, x3, x4, y0, y1, y2, y3, y4⟩ := KF.out _ hS
          go_simp
          try with_reducible rfl
        refine HeadW_take (i := 1) (v := ?_) G rfl (by kernel_rfl) (by kernel_rfl) (by kernel_rfl) (fun _ _ _ h => h) (Or.inl ⟨by rfl, ?_⟩) S0.out ?_
        rotate_left
        · intro wz hS
          obtain ⟨z4, z4', x0, x1, x2, x3, x4, y0, y1, y2, y3, y4⟩ := KF.out _ hS
          go_simp
          try with_reducible rfl
        refine HeadW_take (i := 2) (v := ?_) G rfl (by kernel_rfl) (by kernel_rfl) (by kernel_rfl) (fun _ _ _ h => h) (Or.inl ⟨by rfl, ?_⟩) S0.out ?_
        rotate_left
        · intro wz hS
          obtain ⟨z4, z4', x0, x1, x2, x3, x4, y0, y1, y2, y3, y4⟩ := KF.out _ hS
          go_simp
          try with_reducible rfl
        refine HeadW_take (i := 3) (v := ?_) G rfl (by kernel_rfl) (by kernel_rfl) (by kernel_rfl) (fun _ _ _ h => h) (Or.inl ⟨by rfl, ?_⟩) S0.out ?_
        rotate_left
        · intro wz hS
          obtain ⟨z4, z4', x0, x1, x2, x3, x4, y0, y1, y2, y3, y4⟩ := KF.out _ hS
          go_simp
          try with_reducible rfl
        refine HeadW_take (i := 4) (v := ?_) G rfl (by kernel_rfl) (by kernel_rfl) (by kernel_rfl) (fun _ _ _ h => h) (Or.inl ⟨by rfl, ?_⟩) S0.out ?_
        rotate_left
        · intro wz hS
          obtain ⟨z4, z4', x0, x1, x2, x3, x4, y0, y1, y2, y3, y4⟩ := KF.out _ hS
          go_simp
          try with_reducible rfl
        refine HeadW_take (i := 5) (v := ?_) G rfl (by kernel_rfl) (by kernel_rfl) (by kernel_rfl) (fun _ _ _ h => h) (Or.inl ⟨by rfl, ?_⟩) S0.out ?_
        rotate_left
        · intro wz hS
          obtain ⟨z4, z4', x0, x1, x2, x3, x4, y0, y1, y2, y3, y4⟩ := KF.out _ hS
          go_simp
          try with_reducible rfl
        refine HeadW_take (i := 6) (v := ?_) G rfl (by kernel_rfl) (by kernel_rfl) (by kernel_rfl) (fun _ _ _ h => h) (Or.inl ⟨by rfl, ?_⟩) S0.out ?_
        rotate_left
        · intro wz hS
          obtain ⟨z4, z4', x0, x1, x2, x3, x4, y0, y1, y2, y3, y4⟩ := KF.out _ hS
          go_simp
          try with_reducible rfl
        refine HeadW_take (i := 7) (v := ?_) G rfl (by kernel_rfl) (by kernel_rfl) (by kernel_rfl) (fun _ _ _ h => h) (Or.inl ⟨by rfl, ?_⟩) S0.out ?_
        rotate_left
        · intro wz hS
          obtain ⟨z4, z4', x0, x1, x2, x3, x4, y0, y1, y2, y3, y4⟩ := KF.out _ hS
          go_simp
          try with_reducible rfl
        refine HeadW_take (i := 8) (v := ?_) G rfl (by kernel_rfl) (by kernel_rfl) (by kernel_rfl) (fun _ _ _ h => h) (Or.inl ⟨by rfl, ?_⟩) S0.out ?_
        rotate_left
        · intro wz hS
          obtain ⟨z4, z4', x0, x1, x2, x3, x4, y0, y1, y2, y3, y4⟩ := KF.out _ hS
          go_simp
          try with_reducible rfl
        refine HeadW_take (i := 9) (v := ?_) G rfl (by kernel_rfl) (by kernel_rfl) (by kernel_rfl) (fun _ _ _ h => h) (Or.inl ⟨by rfl, ?_⟩) S0.out ?_
        rotate_left
        · intro wz hS
          obtain ⟨z4, z4', x0, x1, x2, x3, x4, y0, y1, y2, y3, y4⟩ := KF.out _ hS
          go_simp
          try with_reducible rfl
        refine HeadW_ready (rs := [10, 11]) (by kernel_rfl) rfl rfl ?_
        refine AllW.cons rfl (fun K hK => ?_) (AllW.cons rfl (fun K hK => ?_) AllW.nil)
        · go_simp
          have hb : Below v0.heap.size v0 (v0.alloc (.cells #[.string ⟨#[]⟩, .bool false, .slice none 0 0, .slice none 0 0, .slice none 0 0] 54)) := (Below.refl _ _).alloc (Nat.le_refl _) _
          have S1 := Lib.hid (S0.out.trans (hb.mono LB0))
          have Ea := Lib.hid (Ob.made v0 54 #[.string ⟨#[]⟩, .bool false, .slice none 0 0, .slice none 0 0, .slice none 0 0])
          have Xa : v0.heap.size < (v0.alloc (.cells #[.string ⟨#[]⟩, .bool false, .slice none 0 0, .slice none 0 0, .slice none 0 0] 54)).heap.size := by rw [size_al]; omega
          refine hK _ _ S1.out ?_
          clear hK K hb
          generalize v0.alloc (.cells #[.string ⟨#[]⟩, .bool false, .slice none 0 0, .slice none 0 0, .slice none 0 0] 54) = v1 at *
          have LB1 : wr.heap.size ≤ v1.heap.size := by omega
          refine HeadW_ready (rs := [11]) (by kernel_rfl) rfl rfl ?_
          refine AllW.cons rfl (fun K hK => ?_) AllW.nil
          go_simp
          have hb : Below v1.heap.size v1 (v1.alloc (.cells #[.string ⟨#[]⟩, .bool false, .slice none 0 0, .slice none 0 0, .slice none 0 0] 54)) := (Below.refl _ _).alloc (Nat.le_refl _) _
          have S2 := Lib.hid (S1.out.trans (hb.mono LB1))
          have E1 := Lib.hid (Ea.out.below hb Ea.out.lt)
          have E2 := Lib.hid (Ob.made v1 54 #[.string ⟨#[]⟩, .bool false, .slice none 0 0, .slice none 0 0, .slice none 0 0])
          refine hK _ _ S2.out ?_
          clear hK K hb
          generalize v1.alloc (.cells #[.string ⟨#[]⟩, .bool false, .slice none 0 0, .slice none 0 0, .slice none 0 0] 54) = v2 at *
          have sc1 := E1.out.cell 0
          have sf1 := E1.out.frozen 0
          have me1 : Hid (Ob (v2.setCell ⟨v0.heap.size, 0, none⟩ (.string r.id)) (v0.heap.size) 54 #[.string r.id, .bool false, .slice none 0 0, .slice none 0 0, .slice none 0 0]) := Lib.hid (by have := E1.out.put 0 (.string r.id); simpa using this)
          have ot1 := Lib.hid (E2.out.keep (Below.heap_setCell v2 ⟨v0.heap.size, 0, none⟩ (.string r.id) _ (by show v1.heap.size ≠ v0.heap.size; omega)))
          have bb1 := Lib.hid (S2.out.setCell (p := ⟨v0.heap.size, 0, none⟩) (by show wr.heap.size ≤ v0.heap.size; omega) (.string r.id))
          have sc2 := me1.out.cell 1
          have sf2 := me1.out.frozen 1
          have me2 : Hid (Ob ((v2.setCell ⟨v0.heap.size, 0, none⟩ (.string r.id)).setCell ⟨v0.heap.size, 1, none⟩ (.bool r.deny)) (v0.heap.size) 54 #[.string r.id, .bool r.deny, .slice none 0 0, .slice none 0 0, .slice none 0 0]) := Lib.hid (by have := me1.out.put 1 (.bool r.deny); simpa using this)
          have ot2 := Lib.hid (ot1.out.keep (Below.heap_setCell (v2.setCell ⟨v0.heap.size, 0, none⟩ (.string r.id)) ⟨v0.heap.size, 1, none⟩ (.bool r.deny) _ (by show v1.heap.size ≠ v0.heap.size; omega)))
          have bb2 := Lib.hid (bb1.out.setCell (p := ⟨v0.heap.size, 1, none⟩) (by show wr.heap.size ≤ v0.heap.size; omega) (.bool r.deny))
          have sc3 := me2.out.cell 2
          have sf3 := me2.out.frozen 2
          have me3 : Hid (Ob (((v2.setCell ⟨v0.heap.size, 0, none⟩ (.string r.id)).setCell ⟨v0.heap.size, 1, none⟩ (.bool r.deny)).setCell ⟨v0.heap.size, 2, none⟩ (.slice C1 m1 c1)) (v0.heap.size) 54 #[.string r.id, .bool r.deny, .slice C1 m1 c1, .slice none 0 0, .slice none 0 0]) := Lib.hid (by have := me2.out.put 2 (.slice C1 m1 c1); simpa using this)
          have ot3 := Lib.hid (ot2.out.keep (Below.heap_setCell ((v2.setCell ⟨v0.heap.size, 0, none⟩ (.string r.id)).setCell ⟨v0.heap.size, 1, none⟩ (.bool r.deny)) ⟨v0.heap.size, 2, none⟩ (.slice C1 m1 c1) _ (by show v1.heap.size ≠ v0.heap.size; omega)))
          have bb3 := Lib.hid (bb2.out.setCell (p := ⟨v0.heap.size, 2, none⟩) (by show wr.heap.size ≤ v0.heap.size; omega) (.slice C1 m1 c1))
          have sc4 := me3.out.cell 3
          have sf4 := me3.out.frozen 3
          have me4 : Hid (Ob ((((v2.setCell ⟨v0.heap.size, 0, none⟩ (.string r.id)).setCell ⟨v0.heap.size, 1, none⟩ (.bool r.deny)).setCell ⟨v0.heap.size, 2, none⟩ (.slice C1 m1 c1)).setCell ⟨v0.heap.size, 3, none⟩ (.slice C2 m2 c2)) (v0.heap.size) 54 #[.string r.id, .bool r.deny, .slice C1 m1 c1, .slice C2 m2 c2, .slice none 0 0]) := Lib.hid (by have := me3.out.put 3 (.slice C2 m2 c2); simpa using this)
          have ot4 := Lib.hid (ot3.out.keep (Below.heap_setCell (((v2.setCell ⟨v0.heap.size, 0, none⟩ (.string r.id)).setCell ⟨v0.heap.size, 1, none⟩ (.bool r.deny)).setCell ⟨v0.heap.size, 2, none⟩ (.slice C1 m1 c1)) ⟨v0.heap.size, 3, none⟩ (.slice C2 m2 c2) _ (by show v1.heap.size ≠ v0.heap.size; omega)))
          have bb4 := Lib.hid (bb3.out.setCell (p := ⟨v0.heap.size, 3, none⟩) (by show wr.heap.size ≤ v0.heap.size; omega) (.slice C2 m2 c2))
          have sc5 := me4.out.cell 4
          have sf5 := me4.out.frozen 4
          have me5 : Hid (Ob (((((v2.setCell ⟨v0.heap.size, 0, none⟩ (.string r.id)).setCell ⟨v0.heap.size, 1, none⟩ (.bool r.deny)).setCell ⟨v0.heap.size, 2, none⟩ (.slice C1 m1 c1)).setCell ⟨v0.heap.size, 3, none⟩ (.slice C2 m2 c2)).setCell ⟨v0.heap.size, 4, none⟩ (.slice C3 m3 c3)) (v0.heap.size) 54 #[.string r.id, .bool r.deny, .slice C1 m1 c1, .slice C2 m2 c2, .slice C3 m3 c3]) := Lib.hid (by have := me4.out.put 4 (.slice C3 m3 c3); simpa using this)
          have ot5 := Lib.hid (ot4.out.keep (Below.heap_setCell ((((v2.setCell ⟨v0.heap.size, 0, none⟩ (.string r.id)).setCell ⟨v0.heap.size, 1, none⟩ (.bool r.deny)).setCell ⟨v0.heap.size, 2, none⟩ (.slice C1 m1 c1)).setCell ⟨v0.heap.size, 3, none⟩ (.slice C2 m2 c2)) ⟨v0.heap.size, 4, none⟩ (.slice C3 m3 c3) _ (by show v1.heap.size ≠ v0.heap.size; omega)))
          have bb5 := Lib.hid (bb4.out.setCell (p := ⟨v0.heap.size, 4, none⟩) (by show wr.heap.size ≤ v0.heap.size; omega) (.slice C3 m3 c3))
          refine HeadW_ready (rs := [12]) (by kernel_rfl) rfl rfl ?_
          refine AllW.cons rfl (fun K hK => ?_) AllW.nil
          go_simp
          refine hK _ _ bb5.out ?_
          clear hK K
          intro _
          refine ⟨by kernel_rfl, ?_⟩
          simp only [List.drop_succ_cons, List.drop_zero]
          have sc6 := ot5.out.cell 0
          have sf6 := ot5.out.frozen 0
          have me6 : Hid (Ob ((((((v2.setCell ⟨v0.heap.size, 0, none⟩ (.string r.id)).setCell ⟨v0.heap.size, 1, none⟩ (.bool r.deny)).setCell ⟨v0.heap.size, 2, none⟩ (.slice C1 m1 c1)).setCell ⟨v0.heap.size, 3, none⟩ (.slice C2 m2 c2)).setCell ⟨v0.heap.size, 4, none⟩ (.slice C3 m3 c3)).setCell ⟨v1.heap.size, 0, none⟩ (.string r.id)) (v1.heap.size) 54 #[.string r.id, .bool false, .slice none 0 0, .slice none 0 0, .slice none 0 0]) := Lib.hid (by have := ot5.out.put 0 (.string r.id); simpa using this)
          have ot6 := Lib.hid (me5.out.keep (Below.heap_setCell (((((v2.setCell ⟨v0.heap.size, 0, none⟩ (.string r.id)).setCell ⟨v0.heap.size, 1, none⟩ (.bool r.deny)).setCell ⟨v0.heap.size, 2, none⟩ (.slice C1 m1 c1)).setCell ⟨v0.heap.size, 3, none⟩ (.slice C2 m2 c2)).setCell ⟨v0.heap.size, 4, none⟩ (.slice C3 m3 c3)) ⟨v1.heap.size, 0, none⟩ (.string r.id) _ (by show v0.heap.size ≠ v1.heap.size; omega)))
          have bb6 := Lib.hid (bb5.out.setCell (p := ⟨v1.heap.size, 0, none⟩) (by show wr.heap.size ≤ v1.heap.size; omega) (.string r.id))
          have sc7 := me6.out.cell 1
          have sf7 := me6.out.frozen 1
          have me7 : Hid (Ob (((((((v2.setCell ⟨v0.heap.size, 0, none⟩ (.string r.id)).setCell ⟨v0.heap.size, 1, none⟩ (.bool r.deny)).setCell ⟨v0.heap.size, 2, none⟩ (.slice C1 m1 c1)).setCell ⟨v0.heap.size, 3, none⟩ (.slice C2 m2 c2)).setCell ⟨v0.heap.size, 4, none⟩ (.slice C3 m3 c3)).setCell ⟨v1.heap.size, 0, none⟩ (.string r.id)).setCell ⟨v1.heap.size, 1, none⟩ (.bool r.deny)) (v1.heap.size) 54 #[.string r.id, .bool r.deny, .slice none 0 0, .slice none 0 0, .slice none 0 0]) := Lib.hid (by have := me6.out.put 1 (.bool r.deny); simpa using this)
          have ot7 := Lib.hid (ot6.out.keep (Below.heap_setCell ((((((v2.setCell ⟨v0.heap.size, 0, none⟩ (.string r.id)).setCell ⟨v0.heap.size, 1, none⟩ (.bool r.deny)).setCell ⟨v0.heap.size, 2, none⟩ (.slice C1 m1 c1)).setCell ⟨v0.heap.size, 3, none⟩ (.slice C2 m2 c2)).setCell ⟨v0.heap.size, 4, none⟩ (.slice C3 m3 c3)).setCell ⟨v1.heap.size, 0, none⟩ (.string r.id)) ⟨v1.heap.size, 1, none⟩ (.bool r.deny) _ (by show v0.heap.size ≠ v1.heap.size; omega)))
          have bb7 := Lib.hid (bb6.out.setCell (p := ⟨v1.heap.size, 1, none⟩) (by show wr.heap.size ≤ v1.heap.size; omega) (.bool r.deny))
          have sc8 := me7.out.cell 2
          have sf8 := me7.out.frozen 2
          have me8 : Hid (Ob ((((((((v2.setCell ⟨v0.heap.size, 0, none⟩ (.string r.id)).setCell ⟨v0.heap.size, 1, none⟩ (.bool r.deny)).setCell ⟨v0.heap.size, 2, none⟩ (.slice C1 m1 c1)).setCell ⟨v0.heap.size, 3, none⟩ (.slice C2 m2 c2)).setCell ⟨v0.heap.size, 4, none⟩ (.slice C3 m3 c3)).setCell ⟨v1.heap.size, 0, none⟩ (.string r.id)).setCell ⟨v1.heap.size, 1, none⟩ (.bool r.deny)).setCell ⟨v1.heap.size, 2, none⟩ (.slice D1 m1 d1)) (v1.heap.size) 54 #[.string r.id, .bool r.deny, .slice D1 m1 d1, .slice none 0 0, .slice none 0 0]) := Lib.hid (by have := me7.out.put 2 (.slice D1 m1 d1); simpa using this)
          have ot8 := Lib.hid (ot7.out.keep (Below.heap_setCell (((((((v2.setCell ⟨v0.heap.size, 0, none⟩ (.string r.id)).setCell ⟨v0.heap.size, 1, none⟩ (.bool r.deny)).setCell ⟨v0.heap.size, 2, none⟩ (.slice C1 m1 c1)).setCell ⟨v0.heap.size, 3, none⟩ (.slice C2 m2 c2)).setCell ⟨v0.heap.size, 4, none⟩ (.slice C3 m3 c3)).setCell ⟨v1.heap.size, 0, none⟩ (.string r.id)).setCell ⟨v1.heap.size, 1, none⟩ (.bool r.deny)) ⟨v1.heap.size, 2, none⟩ (.slice D1 m1 d1) _ (by show v0.heap.size ≠ v1.heap.size; omega)))
          have bb8 := Lib.hid (bb7.out.setCell (p := ⟨v1.heap.size, 2, none⟩) (by show wr.heap.size ≤ v1.heap.size; omega) (.slice D1 m1 d1))
          have sc9 := me8.out.cell 3
          have sf9 := me8.out.frozen 3
          have me9 : Hid (Ob (((((((((v2.setCell ⟨v0.heap.size, 0, none⟩ (.string r.id)).setCell ⟨v0.heap.size, 1, none⟩ (.bool r.deny)).setCell ⟨v0.heap.size, 2, none⟩ (.slice C1 m1 c1)).setCell ⟨v0.heap.size, 3, none⟩ (.slice C2 m2 c2)).setCell ⟨v0.heap.size, 4, none⟩ (.slice C3 m3 c3)).setCell ⟨v1.heap.size, 0, none⟩ (.string r.id)).setCell ⟨v1.heap.size, 1, none⟩ (.bool r.deny)).setCell ⟨v1.heap.size, 2, none⟩ (.slice D1 m1 d1)).setCell ⟨v1.heap.size, 3, none⟩ (.slice D2 m2 d2)) (v1.heap.size) 54 #[.string r.id, .bool r.deny, .slice D1 m1 d1, .slice D2 m2 d2, .slice none 0 0]) := Lib.hid (by have := me8.out.put 3 (.slice D2 m2 d2); simpa using this)
          have ot9 := Lib.hid (ot8.out.keep (Below.heap_setCell ((((((((v2.setCell ⟨v0.heap.size, 0, none⟩ (.string r.id)).setCell ⟨v0.heap.size, 1, none⟩ (.bool r.deny)).setCell ⟨v0.heap.size, 2, none⟩ (.slice C1 m1 c1)).setCell ⟨v0.heap.size, 3, none⟩ (.slice C2 m2 c2)).setCell ⟨v0.heap.size, 4, none⟩ (.slice C3 m3 c3)).setCell ⟨v1.heap.size, 0, none⟩ (.string r.id)).setCell ⟨v1.heap.size, 1, none⟩ (.bool r.deny)).setCell ⟨v1.heap.size, 2, none⟩ (.slice D1 m1 d1)) ⟨v1.heap.size, 3, none⟩ (.slice D2 m2 d2) _ (by show v0.heap.size ≠ v1.heap.size; omega)))
          have bb9 := Lib.hid (bb8.out.setCell (p := ⟨v1.heap.size, 3, none⟩) (by show wr.heap.size ≤ v1.heap.size; omega) (.slice D2 m2 d2))
          have sc10 := me9.out.cell 4
          have sf10 := me9.out.frozen 4
          have me10 : Hid (Ob ((((((((((v2.setCell ⟨v0.heap.size, 0, none⟩ (.string r.id)).setCell ⟨v0.heap.size, 1, none⟩ (.bool r.deny)).setCell ⟨v0.heap.size, 2, none⟩ (.slice C1 m1 c1)).setCell ⟨v0.heap.size, 3, none⟩ (.slice C2 m2 c2)).setCell ⟨v0.heap.size, 4, none⟩ (.slice C3 m3 c3)).setCell ⟨v1.heap.size, 0, none⟩ (.string r.id)).setCell ⟨v1.heap.size, 1, none⟩ (.bool r.deny)).setCell ⟨v1.heap.size, 2, none⟩ (.slice D1 m1 d1)).setCell ⟨v1.heap.size, 3, none⟩ (.slice D2 m2 d2)).setCell ⟨v1.heap.size, 4, none⟩ (.slice D3 m3 d3)) (v1.heap.size) 54 #[.string r.id, .bool r.deny, .slice D1 m1 d1, .slice D2 m2 d2, .slice D3 m3 d3]) := Lib.hid (by have := me9.out.put 4 (.slice D3 m3 d3); simpa using this)
          have ot10 := Lib.hid (ot9.out.keep (Below.heap_setCell (((((((((v2.setCell ⟨v0.heap.size, 0, none⟩ (.string r.id)).setCell ⟨v0.heap.size, 1, none⟩ (.bool r.deny)).setCell ⟨v0.heap.size, 2, none⟩ (.slice C1 m1 c1)).setCell ⟨v0.heap.size, 3, none⟩ (.slice C2 m2 c2)).setCell ⟨v0.heap.size, 4, none⟩ (.slice C3 m3 c3)).setCell ⟨v1.heap.size, 0, none⟩ (.string r.id)).setCell ⟨v1.heap.size, 1, none⟩ (.bool r.deny)).setCell ⟨v1.heap.size, 2, none⟩ (.slice D1 m1 d1)).setCell ⟨v1.heap.size, 3, none⟩ (.slice D2 m2 d2)) ⟨v1.heap.size, 4, none⟩ (.slice D3 m3 d3) _ (by show v0.heap.size ≠ v1.heap.size; omega)))
          have bb10 := Lib.hid (bb9.out.setCell (p := ⟨v1.heap.size, 4, none⟩) (by show wr.heap.size ≤ v1.heap.size; omega) (.slice D3 m3 d3))
          go_wp2_with fail
          go_meet
          case rel => exact ⟨_, _, rfl, rfl, ot10.out, me10.out, bb10.out⟩
        · go_simp
          have hb : Below v0.heap.size v0 (v0.alloc (.cells #[.string ⟨#[]⟩, .bool false, .slice none 0 0, .slice none 0 0, .slice none 0 0] 54)) := (Below.refl _ _).alloc (Nat.le_refl _) _
          have S1 := Lib.hid (S0.out.trans (hb.mono LB0))
          have Ea := Lib.hid (Ob.made v0 54 #[.string ⟨#[]⟩, .bool false, .slice none 0 0, .slice none 0 0, .slice none 0 0])
          have Xa : v0.heap.size < (v0.alloc (.cells #[.string ⟨#[]⟩, .bool false, .slice none 0 0, .slice none 0 0, .slice none 0 0] 54)).heap.size := by rw [size_al]; omega
          refine hK _ _ S1.out ?_
          clear hK K hb
          generalize v0.alloc (.cells #[.string ⟨#[]⟩, .bool false, .slice none 0 0, .slice none 0 0, .slice none 0 0] 54) = v1 at *
          have LB1 : wr.heap.size ≤ v1.heap.size := by omega
          refine HeadW_ready (rs := [10]) (by kernel_rfl) rfl rfl ?_
          refine AllW.cons rfl (fun K hK => ?_) AllW.nil
          go_simp
          have hb : Below v1.heap.size v1 (v1.alloc (.cells #[.string ⟨#[]⟩, .bool false, .slice none 0 0, .slice none 0 0, .slice none 0 0] 54)) := (Below.refl _ _).alloc (Nat.le_refl _) _
          have S2 := Lib.hid (S1.out.trans (hb.mono LB1))
          have E2 := Lib.hid (Ea.out.below hb Ea.out.lt)
          have E1 := Lib.hid (Ob.made v1 54 #[.string ⟨#[]⟩, .bool false, .slice none 0 0, .slice none 0 0, .slice none 0 0])
          refine hK _ _ S2.out ?_
          clear hK K hb
          generalize v1.alloc (.cells #[.string ⟨#[]⟩, .bool false, .slice none 0 0, .slice none 0 0, .slice none 0 0] 54) = v2 at *
          have sc1 := E1.out.cell 0
          have sf1 := E1.out.frozen 0
          have me1 : Hid (Ob (v2.setCell ⟨v1.heap.size, 0, none⟩ (.string r.id)) (v1.heap.size) 54 #[.string r.id, .bool false, .slice none 0 0, .slice none 0 0, .slice none 0 0]) := Lib.hid (by have := E1.out.put 0 (.string r.id); simpa using this)
          have ot1 := Lib.hid (E2.out.keep (Below.heap_setCell v2 ⟨v1.heap.size, 0, none⟩ (.string r.id) _ (by show v0.heap.size ≠ v1.heap.size; omega)))
          have bb1 := Lib.hid (S2.out.setCell (p := ⟨v1.heap.size, 0, none⟩) (by show wr.heap.size ≤ v1.heap.size; omega) (.string r.id))
          have sc2 := me1.out.cell 1
          have sf2 := me1.out.frozen 1
          have me2 : Hid (Ob ((v2.setCell ⟨v1.heap.size, 0, none⟩ (.string r.id)).setCell ⟨v1.heap.size, 1, none⟩ (.bool r.deny)) (v1.heap.size) 54 #[.string r.id, .bool r.deny, .slice none 0 0, .slice none 0 0, .slice none 0 0]) := Lib.hid (by have := me1.out.put 1 (.bool r.deny); simpa using this)
          have ot2 := Lib.hid (ot1.out.keep (Below.heap_setCell (v2.setCell ⟨v1.heap.size, 0, none⟩ (.string r.id)) ⟨v1.heap.size, 1, none⟩ (.bool r.deny) _ (by show v0.heap.size ≠ v1.heap.size; omega)))
          have bb2 := Lib.hid (bb1.out.setCell (p := ⟨v1.heap.size, 1, none⟩) (by show wr.heap.size ≤ v1.heap.size; omega) (.bool r.deny))
          have sc3 := me2.out.cell 2
          have sf3 := me2.out.frozen 2
          have me3 : Hid (Ob (((v2.setCell ⟨v1.heap.size, 0, none⟩ (.string r.id)).setCell ⟨v1.heap.size, 1, none⟩ (.bool r.deny)).setCell ⟨v1.heap.size, 2, none⟩ (.slice C1 m1 c1)) (v1.heap.size) 54 #[.string r.id, .bool r.deny, .slice C1 m1 c1, .slice none 0 0, .slice none 0 0]) := Lib.hid (by have := me2.out.put 2 (.slice C1 m1 c1); simpa using this)
          have ot3 := Lib.hid (ot2.out.keep (Below.heap_setCell ((v2.setCell ⟨v1.heap.size, 0, none⟩ (.string r.id)).setCell ⟨v1.heap.size, 1, none⟩ (.bool r.deny)) ⟨v1.heap.size, 2, none⟩ (.slice C1 m1 c1) _ (by show v0.heap.size ≠ v1.heap.size; omega)))
          have bb3 := Lib.hid (bb2.out.setCell (p := ⟨v1.heap.size, 2, none⟩) (by show wr.heap.size ≤ v1.heap.size; omega) (.slice C1 m1 c1))
          have sc4 := me3.out.cell 3
          have sf4 := me3.out.frozen 3
          have me4 : Hid (Ob ((((v2.setCell ⟨v1.heap.size, 0, none⟩ (.string r.id)).setCell ⟨v1.heap.size, 1, none⟩ (.bool r.deny)).setCell ⟨v1.heap.size, 2, none⟩ (.slice C1 m1 c1)).setCell ⟨v1.heap.size, 3, none⟩ (.slice C2 m2 c2)) (v1.heap.size) 54 #[.string r.id, .bool r.deny, .slice C1 m1 c1, .slice C2 m2 c2, .slice none 0 0]) := Lib.hid (by have := me3.out.put 3 (.slice C2 m2 c2); simpa using this)
          have ot4 := Lib.hid (ot3.out.keep (Below.heap_setCell (((v2.setCell ⟨v1.heap.size, 0, none⟩ (.string r.id)).setCell ⟨v1.heap.size, 1, none⟩ (.bool r.deny)).setCell ⟨v1.heap.size, 2, none⟩ (.slice C1 m1 c1)) ⟨v1.heap.size, 3, none⟩ (.slice C2 m2 c2) _ (by show v0.heap.size ≠ v1.heap.size; omega)))
          have bb4 := Lib.hid (bb3.out.setCell (p := ⟨v1.heap.size, 3, none⟩) (by show wr.heap.size ≤ v1.heap.size; omega) (.slice C2 m2 c2))
          have sc5 := me4.out.cell 4
          have sf5 := me4.out.frozen 4
          have me5 : Hid (Ob (((((v2.setCell ⟨v1.heap.size, 0, none⟩ (.string r.id)).setCell ⟨v1.heap.size, 1, none⟩ (.bool r.deny)).setCell ⟨v1.heap.size, 2, none⟩ (.slice C1 m1 c1)).setCell ⟨v1.heap.size, 3, none⟩ (.slice C2 m2 c2)).setCell ⟨v1.heap.size, 4, none⟩ (.slice C3 m3 c3)) (v1.heap.size) 54 #[.string r.id, .bool r.deny, .slice C1 m1 c1, .slice C2 m2 c2, .slice C3 m3 c3]) := Lib.hid (by have := me4.out.put 4 (.slice C3 m3 c3); simpa using this)
          have ot5 := Lib.hid (ot4.out.keep (Below.heap_setCell ((((v2.setCell ⟨v1.heap.size, 0, none⟩ (.string r.id)).setCell ⟨v1.heap.size, 1, none⟩ (.bool r.deny)).setCell ⟨v1.heap.size, 2, none⟩ (.slice C1 m1 c1)).setCell ⟨v1.heap.size, 3, none⟩ (.slice C2 m2 c2)) ⟨v1.heap.size, 4, none⟩ (.slice C3 m3 c3) _ (by show v0.heap.size ≠ v1.heap.size; omega)))
          have bb5 := Lib.hid (bb4.out.setCell (p := ⟨v1.heap.size, 4, none⟩) (by show wr.heap.size ≤ v1.heap.size; omega) (.slice C3 m3 c3))
          refine HeadW_ready (rs := [12]) (by kernel_rfl) rfl rfl ?_
          refine AllW.cons rfl (fun K hK => ?_) AllW.nil
          go_simp
          refine hK _ _ bb5.out ?_
          clear hK K
          intro _
          refine ⟨by kernel_rfl, ?_⟩
          simp only [List.drop_succ_cons, List.drop_zero]
          have sc6 := ot5.out.cell 0
          have sf6 := ot5.out.frozen 0
          have me6 : Hid (Ob ((((((v2.setCell ⟨v1.heap.size, 0, none⟩ (.string r.id)).setCell ⟨v1.heap.size, 1, none⟩ (.bool r.deny)).setCell ⟨v1.heap.size, 2, none⟩ (.slice C1 m1 c1)).setCell ⟨v1.heap.size, 3, none⟩ (.slice C2 m2 c2)).setCell ⟨v1.heap.size, 4, none⟩ (.slice C3 m3 c3)).setCell ⟨v0.heap.size, 0, none⟩ (.string r.id)) (v0.heap.size) 54 #[.string r.id, .bool false, .slice none 0 0, .slice none 0 0, .slice none 0 0]) := Lib.hid (by have := ot5.out.put 0 (.string r.id); simpa using this)
          have ot6 := Lib.hid (me5.out.keep (Below.heap_setCell (((((v2.setCell ⟨v1.heap.size, 0, none⟩ (.string r.id)).setCell ⟨v1.heap.size, 1, none⟩ (.bool r.deny)).setCell ⟨v1.heap.size, 2, none⟩ (.slice C1 m1 c1)).setCell ⟨v1.heap.size, 3, none⟩ (.slice C2 m2 c2)).setCell ⟨v1.heap.size, 4, none⟩ (.slice C3 m3 c3)) ⟨v0.heap.size, 0, none⟩ (.string r.id) _ (by show v1.heap.size ≠ v0.heap.size; omega)))
          have bb6 := Lib.hid (bb5.out.setCell (p := ⟨v0.heap.size, 0, none⟩) (by show wr.heap.size ≤ v0.heap.size; omega) (.string r.id))
          have sc7 := me6.out.cell 1
          have sf7 := me6.out.frozen 1
          have me7 : Hid (Ob (((((((v2.setCell ⟨v1.heap.size, 0, none⟩ (.string r.id)).setCell ⟨v1.heap.size, 1, none⟩ (.bool r.deny)).setCell ⟨v1.heap.size, 2, none⟩ (.slice C1 m1 c1)).setCell ⟨v1.heap.size, 3, none⟩ (.slice C2 m2 c2)).setCell ⟨v1.heap.size, 4, none⟩ (.slice C3 m3 c3)).setCell ⟨v0.heap.size, 0, none⟩ (.string r.id)).setCell ⟨v0.heap.size, 1, none⟩ (.bool r.deny)) (v0.heap.size) 54 #[.string r.id, .bool r.deny, .slice none 0 0, .slice none 0 0, .slice none 0 0]) := Lib.hid (by have := me6.out.put 1 (.bool r.deny); simpa using this)
          have ot7 := Lib.hid (ot6.out.keep (Below.heap_setCell ((((((v2.setCell ⟨v1.heap.size, 0, none⟩ (.string r.id)).setCell ⟨v1.heap.size, 1, none⟩ (.bool r.deny)).setCell ⟨v1.heap.size, 2, none⟩ (.slice C1 m1 c1)).setCell ⟨v1.heap.size, 3, none⟩ (.slice C2 m2 c2)).setCell ⟨v1.heap.size, 4, none⟩ (.slice C3 m3 c3)).setCell ⟨v0.heap.size, 0, none⟩ (.string r.id)) ⟨v0.heap.size, 1, none⟩ (.bool r.deny) _ (by show v1.heap.size ≠ v0.heap.size; omega)))
          have bb7 := Lib.hid (bb6.out.setCell (p := ⟨v0.heap.size, 1, none⟩) (by show wr.heap.size ≤ v0.heap.size; omega) (.bool r.deny))
          have sc8 := me7.out.cell 2
          have sf8 := me7.out.frozen 2
          have me8 : Hid (Ob ((((((((v2.setCell ⟨v1.heap.size, 0, none⟩ (.string r.id)).setCell ⟨v1.heap.size, 1, none⟩ (.bool r.deny)).setCell ⟨v1.heap.size, 2, none⟩ (.slice C1 m1 c1)).setCell ⟨v1.heap.size, 3, none⟩ (.slice C2 m2 c2)).setCell ⟨v1.heap.size, 4, none⟩ (.slice C3 m3 c3)).setCell ⟨v0.heap.size, 0, none⟩ (.string r.id)).setCell ⟨v0.heap.size, 1, none⟩ (.bool r.deny)).setCell ⟨v0.heap.size, 2, none⟩ (.slice D1 m1 d1)) (v0.heap.size) 54 #[.string r.id, .bool r.deny, .slice D1 m1 d1, .slice none 0 0, .slice none 0 0]) := Lib.hid (by have := me7.out.put 2 (.slice D1 m1 d1); simpa using this)
          have ot8 := Lib.hid (ot7.out.keep (Below.heap_setCell (((((((v2.setCell ⟨v1.heap.size, 0, none⟩ (.string r.id)).setCell ⟨v1.heap.size, 1, none⟩ (.bool r.deny)).setCell ⟨v1.heap.size, 2, none⟩ (.slice C1 m1 c1)).setCell ⟨v1.heap.size, 3, none⟩ (.slice C2 m2 c2)).setCell ⟨v1.heap.size, 4, none⟩ (.slice C3 m3 c3)).setCell ⟨v0.heap.size, 0, none⟩ (.string r.id)).setCell ⟨v0.heap.size, 1, none⟩ (.bool r.deny)) ⟨v0.heap.size, 2, none⟩ (.slice D1 m1 d1) _ (by show v1.heap.size ≠ v0.heap.size; omega)))
          have bb8 := Lib.hid (bb7.out.setCell (p := ⟨v0.heap.size, 2, none⟩) (by show wr.heap.size ≤ v0.heap.size; omega) (.slice D1 m1 d1))
          have sc9 := me8.out.cell 3
          have sf9 := me8.out.frozen 3
          have me9 : Hid (Ob (((((((((v2.setCell ⟨v1.heap.size, 0, none⟩ (.string r.id)).setCell ⟨v1.heap.size, 1, none⟩ (.bool r.deny)).setCell ⟨v1.heap.size, 2, none⟩ (.slice C1 m1 c1)).setCell ⟨v1.heap.size, 3, none⟩ (.slice C2 m2 c2)).setCell ⟨v1.heap.size, 4, none⟩ (.slice C3 m3 c3)).setCell ⟨v0.heap.size, 0, none⟩ (.string r.id)).setCell ⟨v0.heap.size, 1, none⟩ (.bool r.deny)).setCell ⟨v0.heap.size, 2, none⟩ (.slice D1 m1 d1)).setCell ⟨v0.heap.size, 3, none⟩ (.slice D2 m2 d2)) (v0.heap.size) 54 #[.string r.id, .bool r.deny, .slice D1 m1 d1, .slice D2 m2 d2, .slice none 0 0]) := Lib.hid (by have := me8.out.put 3 (.slice D2 m2 d2); simpa using this)
          have ot9 := Lib.hid (ot8.out.keep (Below.heap_setCell ((((((((v2.setCell ⟨v1.heap.size, 0, none⟩ (.string r.id)).setCell ⟨v1.heap.size, 1, none⟩ (.bool r.deny)).setCell ⟨v1.heap.size, 2, none⟩ (.slice C1 m1 c1)).setCell ⟨v1.heap.size, 3, none⟩ (.slice C2 m2 c2)).setCell ⟨v1.heap.size, 4, none⟩ (.slice C3 m3 c3)).setCell ⟨v0.heap.size, 0, none⟩ (.string r.id)).setCell ⟨v0.heap.size, 1, none⟩ (.bool r.deny)).setCell ⟨v0.heap.size, 2, none⟩ (.slice D1 m1 d1)) ⟨v0.heap.size, 3, none⟩ (.slice D2 m2 d2) _ (by show v1.heap.size ≠ v0.heap.size; omega)))
          have bb9 := Lib.hid (bb8.out.setCell (p := ⟨v0.heap.size, 3, none⟩) (by show wr.heap.size ≤ v0.heap.size; omega) (.slice D2 m2 d2))
          have sc10 := me9.out.cell 4
          have sf10 := me9.out.frozen 4
          have me10 : Hid (Ob ((((((((((v2.setCell ⟨v1.heap.size, 0, none⟩ (.string r.id)).setCell ⟨v1.heap.size, 1, none⟩ (.bool r.deny)).setCell ⟨v1.heap.size, 2, none⟩ (.slice C1 m1 c1)).setCell ⟨v1.heap.size, 3, none⟩ (.slice C2 m2 c2)).setCell ⟨v1.heap.size, 4, none⟩ (.slice C3 m3 c3)).setCell ⟨v0.heap.size, 0, none⟩ (.string r.id)).setCell ⟨v0.heap.size, 1, none⟩ (.bool r.deny)).setCell ⟨v0.heap.size, 2, none⟩ (.slice D1 m1 d1)).setCell ⟨v0.heap.size, 3, none⟩ (.slice D2 m2 d2)).setCell ⟨v0.heap.size, 4, none⟩ (.slice D3 m3 d3)) (v0.heap.size) 54 #[.string r.id, .bool r.deny, .slice D1 m1 d1, .slice D2 m2 d2, .slice D3 m3 d3]) := Lib.hid (by have := me9.out.put 4 (.slice D3 m3 d3); simpa using this)
          have ot10 := Lib.hid (ot9.out.keep (Below.heap_setCell (((((((((v2.setCell ⟨v1.heap.size, 0, none⟩ (.string r.id)).setCell ⟨v1.heap.size, 1, none⟩ (.bool r.deny)).setCell ⟨v1.heap.size, 2, none⟩ (.slice C1 m1 c1)).setCell ⟨v1.heap.size, 3, none⟩ (.slice C2 m2 c2)).setCell ⟨v1.heap.size, 4, none⟩ (.slice C3 m3 c3)).setCell ⟨v0.heap.size, 0, none⟩ (.string r.id)).setCell ⟨v0.heap.size, 1, none⟩ (.bool r.deny)).setCell ⟨v0.heap.size, 2, none⟩ (.slice D1 m1 d1)).setCell ⟨v0.heap.size, 3, none⟩ (.slice D2 m2 d2)) ⟨v0.heap.size, 4, none⟩ (.slice D3 m3 d3) _ (by show v1.heap.size ≠ v0.heap.size; omega)))
          have bb10 := Lib.hid (bb9.out.setCell (p := ⟨v0.heap.size, 4, none⟩) (by show wr.heap.size ≤ v0.heap.size; omega) (.slice D3 m3 d3))
          go_wp2_with fail
          go_meet
          case rel => exact ⟨_, _, rfl, rfl, ot10.out, me10.out, bb10.out⟩
      case rest =>
        obtain ⟨g1, g2, rfl, rfl, o1, o2, hb⟩ := hcut
        have BA4 := Lib.hid (below_step BA3.out hb)
        have HB4 := Lib.hid (below_step HBR.out hb)
        have M1 := Lib.hid (L1.out.keep (Kept.all hb R) (fun _ h _ => h))
        have M1' := Lib.hid (L1'.out.keep (Kept.all hb R') (fun _ h _ => h))
        have M2 := Lib.hid (L2.out.keep (Kept.all hb R) (fun _ h _ => h))
        have M2' := Lib.hid (L2'.out.keep (Kept.all hb R') (fun _ h _ => h))
        have M3 := Lib.hid (L3.out.keep (Kept.all hb R) (fun _ h _ => h))
        have M3' := Lib.hid (L3'.out.keep (Kept.all hb R') (fun _ h _ => h))
        have P1 := Lib.hid o1
        have P2 := Lib.hid o2
        clear hb o1 o2 L1 L2 L3 L1' L2' L3' KF BA3 HBR
        have ra00 := P1.out.cell 0
        have rb00 := P2.out.cell 0
        have ra01 := P1.out.cell 1
        have rb01 := P2.out.cell 1
        have ra02 := P1.out.cell 2
        have rb02 := P2.out.cell 2
        have ra03 := P1.out.cell 3
        have rb03 := P2.out.cell 3
        have ra04 := P1.out.cell 4
        have rb04 := P2.out.cell 4
        go_wp2_with fail
        go_at_call 32
        refine (same_tgt M1.out M1'.out).mono ?_
        rintro e u1 ⟨rfl, hb⟩
        have BA5 := Lib.hid (below_step BA4.out hb)
        have HB5 := Lib.hid (below_step HB4.out hb)
        have N2 := Lib.hid (M2.out.keep (Kept.all hb R) (fun _ h _ => h))
        have N2' := Lib.hid (M2'.out.keep (Kept.all hb R') (fun _ h _ => h))
        have N3 := Lib.hid (M3.out.keep (Kept.all hb R) (fun _ h _ => h))
        have N3' := Lib.hid (M3'.out.keep (Kept.all hb R') (fun _ h _ => h))
        have P3 := Lib.hid (P1.out.below hb P1.out.lt)
        have P4 := Lib.hid (P2.out.below hb P2.out.lt)
        clear hb M1 M1' M2 M2' M3 M3' P1 P2 BA4 HB4
        have ra10 := P3.out.cell 0
        have rb10 := P4.out.cell 0
        have ra11 := P3.out.cell 1
        have rb11 := P4.out.cell 1
        have ra12 := P3.out.cell 2
        have rb12 := P4.out.cell 2
        have ra13 := P3.out.cell 3
        have rb13 := P4.out.cell 3
        have ra14 := P3.out.cell 4
        have rb14 := P4.out.cell 4
        go_wp2_with fail
        go_at_call 34
        refine (same_nod N2.out N2'.out).mono ?_
        rintro e u2 ⟨rfl, hb⟩
        have BA6 := Lib.hid (below_step BA5.out hb)
        have HB6 := Lib.hid (below_step HB5.out hb)
        have K3 := Lib.hid (N3.out.keep (Kept.all hb R) (fun _ h _ => h))
        have K3' := Lib.hid (N3'.out.keep (Kept.all hb R') (fun _ h _ => h))
        have P5 := Lib.hid (P3.out.below hb P3.out.lt)
        have P6 := Lib.hid (P4.out.below hb P4.out.lt)
        clear hb N2 N2' N3 N3' P3 P4 BA5 HB5
        have ra20 := P5.out.cell 0
        have rb20 := P6.out.cell 0
        have ra21 := P5.out.cell 1
        have rb21 := P6.out.cell 1
        have ra22 := P5.out.cell 2
        have rb22 := P6.out.cell 2
        have ra23 := P5.out.cell 3
        have rb23 := P6.out.cell 3
        have ra24 := P5.out.cell 4
        have rb24 := P6.out.cell 4
        go_wp2_with fail
        go_at_call 33
        refine (same_dut K3.out K3'.out).mono ?_
        rintro e u3 ⟨rfl, hb⟩
        have HB7 := Lib.hid (below_step HB6.out hb)
        clear hb K3 K3' P5 P6 BA6 HB6
        go_wp2_with fail
        go_roundw
        case rel => exact ⟨k + 1, by omega, by go_num, HB7.out⟩
        case measure => simp [intOf]; omega
    · obtain rfl : k = n2 := by omega
      have z5 := PA3.out.cell 5
      have z5' := PB3.out.cell 5
      have HSW : Hid (w.heap.size + 1 < wr.heap.size) := PB3.out.lt
      go_wp2_with fail
      obtain ⟨wo, hwo⟩ : ∃ wo, wo = wr := ⟨wr, rfl⟩
      subst hwo
      go_loopw [118] (fun i wq => ∃ j : Nat, j ≤ n3 ∧ i = .int .i64 j ∧ Below wo.heap.size wo wq) (fun i _ => n3 - (intOf i).toNat)
      case atStart => exact ⟨0, Nat.zero_le _, rfl, Below.refl _ _⟩
      case round =>
        obtain ⟨j, hj, rfl, hb⟩ := hrel
        have BA4 := Lib.hid (below_step BA3.out hb)
        have HBJ := Lib.hid hb
        have PA4 := Lib.hid (PA3.out.below hb PA3.out.lt)
        have PB4 := Lib.hid (PB3.out.below hb PB3.out.lt)
        clear hb
        by_cases hlt : j < n3
        · obtain ⟨b, o, q, e, C1, m1, c1, C2, m2, c2, C3, m3, c3, C4, m4, c4, rfl, _, _, hq, hd, ⟨hid, halg⟩, ⟨x0, x1, x2, x3, x4, x5, x6⟩, ht, hn, hp, hdu⟩ := (Pls.keep HA.out.2.2.1 (Kept.all BA4.out R) (fun _ h _ => h)).at_ hlt
          obtain ⟨b', o', q', e', D1, q1, d1, D2, q2, d2, D3, q3, d3, D4, q4, d4, rfl, _, _, hq', hd', _, ⟨y0, y1, y2, y3, y4, y5, y6⟩, ht', hn', hp', hdu'⟩ := (Pls.keep HB.out.2.2.1 (Kept.all BA4.out R') (fun _ h _ => h)).at_ hlt
          obtain rfl := Option.some.inj (hq.symm.trans hq')
          obtain rfl := Rw.same_len ht ht'
          obtain rfl := Rw.same_len hn hn'
          obtain rfl := Rw.same_len hp hp'
          obtain rfl := Rw.same_len hdu hdu'
          have Q1 : Hid (∀ d os, Calls Tryz.prog 15 #[.agg #[.string q.id, .bool q.set, .int .i64 q.alg, .slice C1 m1 c1, .slice C2 m2 c2, .slice C3 m3 c3, .slice C4 m4 c4], .agg #[.string q.id, .bool q.set, .int .i64 q.alg, .slice D1 m1 d1, .slice D2 m2 d2, .slice D3 m3 d3, .slice D4 m4 d4]] (grow (redrawn wr d) os) fun e w'' => e = .returned (.bool true) ∧ ∃ p : Regrown, w'' = grow (redrawn wr p.d) p.os) := by
            have h1 := Lib.hid ht; have h2 := Lib.hid hn; have h3 := Lib.hid hp; have h4 := Lib.hid hdu
            have k1 := Lib.hid ht'; have k2 := Lib.hid hn'; have k3 := Lib.hid hp'; have k4 := Lib.hid hdu'
            exact same_q (@ih e hd) hid ⟨h1.out, h2.out, h3.out, h4.out⟩ ⟨k1.out, k2.out, k3.out, k4.out⟩
          have z6 := PA4.out.cell 5
          have z6' := PB4.out.cell 5
          have v6 := fun d os => cell_regrown z6 d os
          have v6' := fun d os => cell_regrown z6' d os
          have xx0 := fun d os => cell_regrown x0 d os
          have yy0 := fun d os => cell_regrown y0 d os
          have xx1 := fun d os => cell_regrown x1 d os
          have yy1 := fun d os => cell_regrown y1 d os
          have xx2 := fun d os => cell_regrown x2 d os
          have yy2 := fun d os => cell_regrown y2 d os
          have xx3 := fun d os => cell_regrown x3 d os
          have yy3 := fun d os => cell_regrown y3 d os
          have xx4 := fun d os => cell_regrown x4 d os
          have yy4 := fun d os => cell_regrown y4 d os
          have xx5 := fun d os => cell_regrown x5 d os
          have yy5 := fun d os => cell_regrown y5 d os
          have xx6 := fun d os => cell_regrown x6 d os
          have yy6 := fun d os => cell_regrown y6 d os
          clear hq hq' hd hd' hid halg ht hn hp hdu ht' hn' hp' hdu' z5 z5' z6 z6' x0 x1 x2 x3 x4 x5 x6 y0 y1 y2 y3 y4 y5 y6
          go_wp2_with fail
          refine wp_region_quiet_below (by kernel_rfl) (by kernel_rfl) ?_
          repeat (go_big_quiet_step ((go_at_call 15; exact Q1.out _ _)))
          refine wpQuiet_nil ?_
          intro _ hw'
          obtain ⟨⟨dq, osq⟩, hw''⟩ := hw'
          subst hw''
          have BQ2 := Lib.hid (below_regrown wr dq osq)
          clear v6 v6' Q1 xx0 yy0 xx1 yy1 xx2 yy2 xx3 yy3 xx4 yy4 xx5 yy5 xx6 yy6
          generalize grow (redrawn wr dq) osq = w5 at *
          go_wp2_with fail
          go_roundw
          case rel => exact ⟨j + 1, by omega, by go_num, HBJ.out.trans (BQ2.out.mono HBJ.out.size)⟩
          case measure => simp [intOf]; omega
        · obtain rfl : j = n3 := by omega
          clear z5 z5'
          go_wp2_with fail
          go_ret
          exact ⟨rfl, BA4.out⟩
theorem same_all : ∀ d, PSame d
  | 0 => same_step 0 (fun d' e => by omega)
  | d + 1 => same_step (d + 1) (fun d' e => by obtain rfl : d = d' := by omega
                                               exact same_all d)
end
end Go.Proofs.YtjpkemamfccfdaaGreatDoor
/- What the rows of stage 10 lay: strconv's table and the words of package show. -/
namespace Go.Proofs.YtjpkemamfccfdaaGreatDoor
set_option linter.unusedVariables false
open Go.RowKit

theorem cells_of_words {H : Type} {enc : TypeId × Value → H} {P : Program} {w : World} {base : Nat} {sp : Nat → Bool} {held : Bool} {fuel : Nat} {t e : TypeId} {n : Nat} {cs : List Value} {zs : List (List UInt8)} {p : List MemPlace}
    (ht : P.underlying t = some (.array n e)) (he : P.underlying e = some .string) (hce : P.cellsOf e = 1) (hct : P.cellsOf t = n)
    (h : DataW.trod enc P w base sp held fuel t cs = some (.agg (zs.map fun z => (DataW.lit (.string z) : DataW H)), p)) : cs = zs.map fun l => Value.string ⟨l.toArray⟩ := by
  cases fuel with
  | zero => simp [DataW.trod] at h
  | succ fuel =>
    simp only [DataW.trod, ht, hce, hct, Nat.mul_one] at h
    split at h
    · rename_i hl
      obtain ⟨xs, hm, hx⟩ := Option.map_eq_some_iff.1 h
      have hxs : xs.map (·.1) = zs.map fun z => (DataW.lit (.string z) : DataW H) := by
        have := congrArg Prod.fst hx
        simpa using this
      have hxl : xs.length = n := by simpa using Lib.mapM_length hm
      have hzl : zs.length = n := by
        have := congrArg List.length hxs
        simp at this
        omega
      apply List.ext_getElem?
      intro i
      by_cases hi : i < n
      · obtain ⟨b, hb, hf⟩ := Lib.mapM_at hm i i (by simp [hi])
        obtain ⟨s, hc, hx2, _⟩ := DataW.trod_string he hf
        have h1 : cs[i]? = some (.string s) := by
          have := congrArg (·[0]?) hc
          simpa [List.getElem?_take, List.getElem?_drop] using this
        have h2 : (xs.map (·.1))[i]? = some (DataW.lit (.string s.data.toList) : DataW H) := by
          rw [List.getElem?_map, hb, hx2]
          rfl
        rw [hxs] at h2
        simp only [List.getElem?_map, Option.map_eq_some_iff] at h2
        obtain ⟨z', hz', hzz⟩ := h2
        injection hzz with hzz
        injection hzz with hzz
        rw [h1, List.getElem?_map, hz', hzz]
        show some (Value.string s) = some (Value.string ⟨(bl s).toArray⟩)
        obtain ⟨⟨l⟩⟩ := s
        rfl
      · rw [List.getElem?_eq_none (by omega), List.getElem?_eq_none (by simp; omega)]
    · cases h
theorem tbl_of_laid {W : World} (h : laidMetH Tryz.prog Rows.showTellsRow.laid W) : Tbl W := by
  rw [MakeChecks.laidMetH_plain _ _ _ (by kernel_rfl)] at h
  obtain ⟨ps, ⟨g0, t0, cs0, f0, p0, q0, hg0, ht0, hv0, hd0, ⟨g1, t1, cs1, f1, p1, q1, hg1, ht1, hv1, hd1, ⟨g2, t2, cs2, f2, p2, q2, hg2, ht2, hv2, hd2, ⟨g3, t3, cs3, f3, p3, q3, hg3, ht3, hv3, hd3, ⟨g4, t4, cs4, f4, p4, q4, hg4, ht4, hv4, hd4, ⟨g5, t5, cs5, f5, p5, q5, hg5, ht5, hv5, hd5, ⟨g6, t6, cs6, f6, p6, q6, hg6, ht6, hv6, hd6, ⟨g7, t7, cs7, f7, p7, q7, hg7, ht7, hv7, hd7, _, _⟩, _⟩, _⟩, _⟩, _⟩, _⟩, _⟩, _⟩, _, _⟩ := h
  obtain rfl := Option.some.inj ((show Tryz.prog.globalNamed "internal/strconv.uint64pow10" = some 6 by kernel_rfl).symm.trans hg2)
  obtain rfl := Option.some.inj ((show (Tryz.prog.globals[6]?).map (·.type) = some 156 by kernel_rfl).symm.trans ht2)
  have hc := Lib.cells_of_tab (k := .u64) (zs := Lib.pow10Tab) (n := 20) (e := 113) Tryz.underlying156 Tryz.underlying113 (by kernel_rfl) (by kernel_rfl) hd2
  obtain rfl := Option.some.inj ((show Tryz.prog.globalNamed "bailiff/show.algorithms" = some 1 by kernel_rfl).symm.trans hg3)
  obtain rfl := Option.some.inj ((show (Tryz.prog.globals[1]?).map (·.type) = some 95 by kernel_rfl).symm.trans ht3)
  have hc3 := cells_of_words (zs := algL) (n := 7) (e := 9) Tryz.underlying95 Tryz.underlying9 (by kernel_rfl) (by kernel_rfl) hd3
  obtain rfl := Option.some.inj ((show Tryz.prog.globalNamed "bailiff/show.categories" = some 0 by kernel_rfl).symm.trans hg4)
  obtain rfl := Option.some.inj ((show (Tryz.prog.globals[0]?).map (·.type) = some 72 by kernel_rfl).symm.trans ht4)
  have hc4 := cells_of_words (zs := catL) (n := 5) (e := 9) Tryz.underlying72 Tryz.underlying9 (by kernel_rfl) (by kernel_rfl) hd4
  obtain rfl := Option.some.inj ((show Tryz.prog.globalNamed "bailiff/show.functions" = some 2 by kernel_rfl).symm.trans hg5)
  obtain rfl := Option.some.inj ((show (Tryz.prog.globals[2]?).map (·.type) = some 111 by kernel_rfl).symm.trans ht5)
  have hc5 := cells_of_words (zs := fnL) (n := 14) (e := 9) Tryz.underlying111 Tryz.underlying9 (by kernel_rfl) (by kernel_rfl) hd5
  obtain rfl := Option.some.inj ((show Tryz.prog.globalNamed "bailiff/show.comparisons" = some 5 by kernel_rfl).symm.trans hg6)
  obtain rfl := Option.some.inj ((show (Tryz.prog.globals[5]?).map (·.type) = some 147 by kernel_rfl).symm.trans ht6)
  have hc6 := cells_of_words (zs := cmpL) (n := 4) (e := 9) Tryz.underlying147 Tryz.underlying9 (by kernel_rfl) (by kernel_rfl) hd6
  obtain rfl := Option.some.inj ((show Tryz.prog.globalNamed "bailiff/show.doings" = some 3 by kernel_rfl).symm.trans hg7)
  obtain rfl := Option.some.inj ((show (Tryz.prog.globals[3]?).map (·.type) = some 72 by kernel_rfl).symm.trans ht7)
  have hc7 := cells_of_words (zs := doL) (n := 5) (e := 9) Tryz.underlying72 Tryz.underlying9 (by kernel_rfl) (by kernel_rfl) hd7
  refine ⟨?_, ?_, ?_, ?_, ?_, ?_⟩
  · unfold Tab Lib.TabIs
    rw [hv2, ← hc]
  · unfold WordsIs
    rw [hv3, ← hc3]
  · unfold WordsIs
    rw [hv4, ← hc4]
  · unfold WordsIs
    rw [hv5, ← hc5]
  · unfold WordsIs
    rw [hv6, ← hc6]
  · unfold WordsIs
    rw [hv7, ← hc7]
end Go.Proofs.YtjpkemamfccfdaaGreatDoor
/- The rows' condition, met at the program's own start. -/
namespace Go.Proofs.YtjpkemamfccfdaaGreatDoor
open Go.ChangeShapes Go.WideShapes Go.ChangeAt Go.WideMaps Go.WideElems Go.RowKit

theorem own : ownKnob Tryz.prog.godebug = none := by kernel_rfl
theorem laidOut : laidOutB Tryz.prog = true := by kernel_rfl

/-- The door's own heap meets the condition. -/
theorem door_met (os : Os) (args : Array Value) : laidMetH Tryz.prog Rows.showTellsRow.laid ((World.doorLaid Tryz.prog 300 os).forCall (fun _ _ => 0) ⟨#[], args, []⟩).memory :=
  laidMetH_of_parts3 (fuel := 8) (laidMet_of_run' 8 (by kernel_rfl) (by kernel_rfl)) (by kernel_rfl) (by kernel_rfl)
end Go.Proofs.YtjpkemamfccfdaaGreatDoor
namespace Go.Proofs.YtjpkemamfccfdaaGreatDoor
set_option linter.unusedVariables false
open Go.RowKit Go.Sort

theorem CopyTo.intoS {V V' : World} {m : Nat} {p : Pol} {B1 B2 B3 B4 : Option Addr} {n1 n2 n3 n4 d1 d2 d3 d4 : Nat} (h : CopyTo V V' m p B1 n1 d1 B2 n2 d2 B3 n3 d3 B4 n4 d4) (hid : p.id.size ≤ maxLen) (ha : InI p.alg) (hn2 : n2 ≤ 3000) (hn3 : n3 ≤ 3000) : PolIn V' (fun b => V.heap.size ≤ b) p B1 n1 d1 B2 n2 d2 B3 n3 d3 B4 n4 d4 := by
  obtain ⟨C1, e1, c1, C2, e2, c2, C3, e3, c3, C4, e4, c4, e, h0, h00, h1, h2, h3, h4⟩ := h.at_ hid ha hn2 hn3
  simp only [List.cons.injEq, Value.slice.injEq, and_true, true_and] at e
  obtain ⟨⟨rfl, rfl, rfl⟩, ⟨rfl, rfl, rfl⟩, ⟨rfl, rfl, rfl⟩, rfl, rfl, rfl⟩ := e
  exact ⟨⟨hid, ha⟩, h1, h2, ⟨m, h3⟩, h4⟩
theorem same_inS {w : World} {R R' : Nat → Prop} {p : Pol} {A1 A2 A3 A4 B1 B2 B3 B4 : Option Addr} {n1 k1 n2 k2 n3 k3 n4 k4 d1 d2 d3 d4 : Nat} (h : PolIn w R p A1 n1 k1 A2 n2 k2 A3 n3 k3 A4 n4 k4) (h' : PolIn w R' p B1 n1 d1 B2 n2 d2 B3 n3 d3 B4 n4 d4) :
    Calls Tryz.prog 15 #[.agg #[.string p.id, .bool p.set, .int .i64 p.alg, .slice A1 n1 k1, .slice A2 n2 k2, .slice A3 n3 k3, .slice A4 n4 k4], .agg #[.string p.id, .bool p.set, .int .i64 p.alg, .slice B1 n1 d1, .slice B2 n2 d2, .slice B3 n3 d3, .slice B4 n4 d4]] w fun e w' => e = .returned (.bool true) ∧ Below w.heap.size w w' := by
  obtain ⟨⟨hid, _⟩, t, r, ⟨d, k⟩, o⟩ := h
  obtain ⟨_, t', r', ⟨m, k'⟩, o'⟩ := h'
  exact same_all d hid ⟨t, r, k, o⟩ ⟨t', r', k', o'⟩

set_option maxRecDepth 100000 in
set_option maxHeartbeats 25600000 in
theorem showTells_walk (W : World) (p : Pol) {A1 : Option Addr} {n1 k1 : Nat} {A2 : Option Addr} {n2 k2 : Nat} {A3 : Option Addr} {n3 k3 : Nat} {A4 : Option Addr} {n4 k4 : Nat} (h : PolIn W (fun _ => True) p A1 n1 k1 A2 n2 k2 A3 n3 k3 A4 n4 k4)
    (A5 : Option Addr) (n5 k5 : Nat) (h5 : ∃ l, Nds W (fun _ => True) A5 n5 k5 l) (a : Atr) (ha : a.ok) (htab : Tbl W) :
    Calls Tryz.prog 3 #[.agg #[.string p.id, .bool p.set, .int .i64 p.alg, .slice A1 n1 k1, .slice A2 n2 k2, .slice A3 n3 k3, .slice A4 n4 k4], .slice A5 n5 k5, .agg #[.int .i64 a.cat, .string a.name, .bool a.must]] W fun e w' => e = .returned (.bool true) ∧ Below W.heap.size W w' := by
  obtain ⟨l5, h5⟩ := h5
  obtain ⟨d, ⟨m, rfl, hkm⟩, hsm⟩ := call_small h
  have HS := Lib.hid hsm
  have H := Lib.hid h
  have HR := Lib.hid (fun (V : World) (hV : Tbl V) => runs10_any V hV)
  have HTB : Hid (∀ V, Below W.heap.size W V → Tbl V) := fun V hb => htab.then_ hb
  have b5 := Rw.le h5
  have c5 := Rw.cap h5
  have hl5 := Rw.len h5
  unfold maxLen at c5
  have hax : a.name.size ≤ 9223372036854775807 := by have := ha.2; unfold maxLen at this; omega
  have HA := Lib.hid ha
  obtain ⟨e5, he5, hek, hen, hez⟩ : ∃ e : Nat, min (n5 : Int) 40 = (e : Int) ∧ e ≤ k5 ∧ e ≤ n5 ∧ (l5.take e).length = e := by
    refine ⟨min n5 40, by omega, by omega, by omega, ?_⟩
    rw [List.length_take]; omega
  have H5 : Hid (Nds W (fun _ => True) A5 e5 k5 (l5.take e5)) := h5.take hen
  generalize l5.take e5 = l at *
  obtain ⟨hid, ht, hr2, _, ho⟩ := h
  have HID := Lib.hid hid
  clear ha h5 hl5 htab
  have XP : Hid (Ob ((W.alloc (.cells #[.string p.id, .bool p.set, .int .i64 p.alg, .slice A1 n1 k1, .slice A2 n2 k2, .slice A3 n3 k3, .slice A4 n4 k4] 28)).alloc (.cells #[.int .i64 a.cat, .string a.name, .bool a.must] 31)) W.heap.size 28 #[.string p.id, .bool p.set, .int .i64 p.alg, .slice A1 n1 k1, .slice A2 n2 k2, .slice A3 n3 k3, .slice A4 n4 k4]) := (Ob.made W _ _).keep (Below.heap_alloc _ _ _ (by simp))
  have XT : Hid (Ob ((W.alloc (.cells #[.string p.id, .bool p.set, .int .i64 p.alg, .slice A1 n1 k1, .slice A2 n2 k2, .slice A3 n3 k3, .slice A4 n4 k4] 28)).alloc (.cells #[.int .i64 a.cat, .string a.name, .bool a.must] 31)) (W.heap.size + 1) 31 #[.int .i64 a.cat, .string a.name, .bool a.must]) := by
    have := Ob.made (W.alloc (.cells #[.string p.id, .bool p.set, .int .i64 p.alg, .slice A1 n1 k1, .slice A2 n2 k2, .slice A3 n3 k3, .slice A4 n4 k4] 28)) 31 #[.int .i64 a.cat, .string a.name, .bool a.must]
    rw [size_al] at this
    exact this
  have D0 : Hid (Below W.heap.size W ((W.alloc (.cells #[.string p.id, .bool p.set, .int .i64 p.alg, .slice A1 n1 k1, .slice A2 n2 k2, .slice A3 n3 k3, .slice A4 n4 k4] 28)).alloc (.cells #[.int .i64 a.cat, .string a.name, .bool a.must] 31))) := ((Below.refl _ _).alloc (Nat.le_refl _) _).alloc (by simp) _
  by_cases e00 : polC (m + 1) p ≤ 3000
  case neg =>
    rw [decide_eq_false e00] at HS
    clear hsm e00 ht hr2 hkm ho hid
    go_enter Tryz.func3, Tryz.ntmps3
    go_wp2_with (first
      | (go_at_call 4; (with_reducible refine (HS.out _ D0.out).mono ?_); rintro e u1 ⟨rfl, hb⟩; have G1 := Lib.hid (below_step D0.out hb); clear hb)
      | (go_at_call 5; refine (HR.out _ (HTB.out _ G1.out)).mono ?_; rintro e u9 ⟨rfl, hb⟩; have G9 := Lib.hid (below_step G1.out hb); clear hb))
    go_ret
    exact ⟨rfl, G9.out⟩
  rw [decide_eq_true e00] at HS
  have HCP : Hid (∀ V : World, Below W.heap.size W V → Calls Tryz.prog 10 #[.agg #[.string p.id, .bool p.set, .int .i64 p.alg, .slice A1 n1 k1, .slice A2 n2 k2, .slice A3 n3 k3, .slice A4 n4 k4]] V fun e w' => ∃ B1 d1 B2 d2 B3 d3 B4 d4, e = .returned (.agg #[.string p.id, .bool p.set, .int .i64 p.alg, .slice B1 n1 d1, .slice B2 n2 d2, .slice B3 n3 d3, .slice B4 n4 d4]) ∧ Below V.heap.size V w' ∧ CopyTo V w' m p B1 n1 d1 B2 n2 d2 B3 n3 d3 B4 n4 d4) :=
    fun V hV => cok_all m e00 hid.1 hid.2 (ht.keep (Kept.all hV _) (fun _ h _ => h)) (hr2.keep (Kept.all hV _) (fun _ h _ => h)) (hkm.keep (Kept.all hV _) (fun _ h _ => h)) (ho.keep (Kept.all hV _) (fun _ h _ => h))
  have HN3 : Hid (n2 ≤ 3000 ∧ n3 ≤ 3000) := ⟨by have := Rw.len hr2; unfold polC at e00; omega, by have := kids_len hkm; unfold polC at e00; omega⟩
  clear hsm ht hr2 hkm ho hid e00
  by_cases h100 : 60 < a.name.size
  · have z100 : (60 : Int) < (a.name.size : Int) := by omega
    go_enter Tryz.func3, Tryz.ntmps3
    go_wp2_with (first
      | (go_at_call 4; (with_reducible refine (HS.out _ D0.out).mono ?_); rintro e u1 ⟨rfl, hb⟩; have G1 := Lib.hid (below_step D0.out hb); have T1 := Lib.hid (XT.out.below hb XT.out.lt); have t0 := T1.out.cell 0; have t1 := T1.out.cell 1; have t2 := T1.out.cell 2; clear hb)
      | (go_at_call 5; refine (HR.out _ (HTB.out _ G1.out)).mono ?_; rintro e u9 ⟨rfl, hb⟩; have G9 := Lib.hid (below_step G1.out hb); clear hb))
    go_ret
    exact ⟨rfl, G9.out⟩
  have z100 : ¬ (60 : Int) < (a.name.size : Int) := by omega
  have HNS := Lib.hid (show a.name.size ≤ 1000000 by omega)
  clear h100
  obtain ⟨ws, hws⟩ : ∃ z : ByteArray, z = ⟨(exprS l).toArray⟩ := ⟨_, rfl⟩
  obtain ⟨az, has⟩ : ∃ z : ByteArray, z = ⟨(attrS a).toArray⟩ := ⟨_, rfl⟩
  obtain ⟨rx, hrx⟩ : ∃ z, z = exprE l := ⟨_, rfl⟩
  have HQX := Lib.hid (fun (V : World) (hV : Below W.heap.size W V) => show Calls Tryz.prog 6 #[.slice A5 e5 k5] V (fun e w' => e = .returned (.int .i64 rx) ∧ Below V.heap.size V w') by rw [hrx]; exact rexpr_any V (H5.out.keep (Kept.all hV (fun _ => True)) (R' := fun _ => True) (fun _ _ _ => trivial)))
  have HQS := Lib.hid (fun (h0 : e5 ≠ 0) (hr : rx = 0) (V : World) (hV : Below W.heap.size W V) => show Calls Tryz.prog 7 #[.slice A5 e5 k5] V (fun e w' => e = .returned (.string ws) ∧ Below V.heap.size V w') by
    have hne : l ≠ [] := by rintro rfl; simp at hez; omega
    rw [hws]
    unfold exprS
    rw [if_pos ⟨hne, by rw [← hrx]; exact hr⟩]
    exact rshowexpr_any V (H5.out.keep (Kept.all hV (fun _ => True)) (R' := fun _ => True) (fun _ _ _ => trivial)) (by rw [← hrx]; exact hr) hne)
  have HQN := Lib.hid (fun (h0 : e5 = 0 ∨ rx ≠ 0) => show ws = ⟨#[]⟩ by
    rw [hws]
    unfold exprS
    rw [if_neg (by
      rintro ⟨h1, h2⟩
      rcases h0 with h0 | h0
      · exact h1 (List.eq_nil_of_length_eq_zero (by omega))
      · exact h0 (hrx.trans h2))])
  have HQA := Lib.hid (fun (V : World) => rattr_any a HA.out V)
  have HQT := Lib.hid (fun (hr : attrB a = true) (V : World) => show Calls Tryz.prog 9 #[.agg #[.int .i64 a.cat, .string a.name, .bool a.must]] V (fun e w' => e = .returned (.string az) ∧ Below V.heap.size V w') by
    rw [has]
    unfold attrS
    rw [if_pos hr]
    exact rattrT_any a HNS.out V)
  have HQM := Lib.hid (fun (hr : attrB a = false) => show az = ⟨#[]⟩ by
    rw [has]
    unfold attrS
    rw [if_neg (by rw [hr]; simp)])
  have HWS := Lib.hid hws
  have HAS := Lib.hid has
  clear hws has hrx hez b5 c5 hax
  go_enter Tryz.func3, Tryz.ntmps3
  go_upto_region 5 with (first
    | (go_at_call 4; (with_reducible refine (HS.out _ D0.out).mono ?_); rintro e u1 ⟨rfl, hb⟩; have G1 := Lib.hid (below_step D0.out hb); have P1 := Lib.hid (XP.out.below hb XP.out.lt); have T1 := Lib.hid (XT.out.below hb XT.out.lt); have t0 := T1.out.cell 0; have t1 := T1.out.cell 1; have t2 := T1.out.cell 2; clear hb))
  clear t0 t1 t2
  obtain ⟨bb, hbb, hbt, hbf⟩ : ∃ bb : Bool, bb = (decide (0 < e5) && decide (rx = 0)) ∧ (bb = true → e5 ≠ 0 ∧ rx = 0) ∧ (bb = false → e5 = 0 ∨ rx ≠ 0) := by
    refine ⟨_, rfl, ?_, ?_⟩
    · intro hh; simp at hh; omega
    · intro hh; simp at hh; omega
  go_cut [32] from 25 to 32 (fun u wx => u = .bool bb ∧ Below u1.heap.size u1 wx)
  case first =>
    by_cases hz : e5 = 0
    · have hbz : bb = false := by rw [hbb, hz]; rfl
      subst hz
      subst hbz
      clear hbb hbt hbf
      go_wp2_with fail
      go_meet
      case rel => exact ⟨rfl, Below.refl _ _⟩
    · have hzi : (0 : Int) < (e5 : Int) := by omega
      have hbz : bb = (rx == 0) := by rw [hbb, decide_eq_true (by omega : 0 < e5)]; by_cases hr : rx = 0 <;> simp [hr]
      clear hbb hbt hbf
      subst hbz
      go_wp2_with (first
        | (go_at_call 6; refine (HQX.out _ G1.out).mono ?_; rintro e u2 ⟨rfl, hb⟩; have G2 := Lib.hid hb; clear hb))
      go_meet
      case rel => exact ⟨rfl, G2.out⟩
  case rest =>
  obtain ⟨rfl, hbw⟩ := hcut
  have GA := Lib.hid (below_step G1.out hbw)
  have PA := Lib.hid (P1.out.below hbw P1.out.lt)
  have TA := Lib.hid (T1.out.below hbw T1.out.lt)
  clear hbw hbb
  obtain ⟨ua, hua⟩ : ∃ ua, ua = wc := ⟨wc, rfl⟩
  subst hua
  go_upto_if 32 with fail
  go_cut [7] from 33 to 34 (fun u wx => u = .string ws ∧ Below ua.heap.size ua wx)
  case first =>
    cases hb2 : bb
    · have hw0 := HQN.out (hbf hb2)
      subst hw0
      subst hb2
      go_wp2_with fail
      go_meet
      case rel => exact ⟨rfl, Below.refl _ _⟩
    · have HQ := Lib.hid (HQS.out (hbt hb2).1 (hbt hb2).2)
      subst hb2
      clear hbt hbf
      go_wp2_with (first
        | (go_at_call 7; refine (HQ.out _ GA.out).mono ?_; rintro e u3 ⟨rfl, hb⟩; have G3 := Lib.hid hb; clear hb))
      go_meet
      case rel => exact ⟨rfl, G3.out⟩
  case rest =>
  obtain ⟨rfl, hbw⟩ := hcut
  have G2 := Lib.hid (below_step GA.out hbw)
  have P2 := Lib.hid (PA.out.below hbw PA.out.lt)
  have T2 := Lib.hid (TA.out.below hbw TA.out.lt)
  clear hbt hbf GA PA TA
  clear hbw G1 P1 T1 XP XT D0 HQX HQS HQN
  have t0 := T2.out.cell 0
  have t1 := T2.out.cell 1
  have t2 := T2.out.cell 2
  obtain ⟨u2, hu2⟩ : ∃ u2, u2 = wc := ⟨wc, rfl⟩
  subst hu2
  go_upto_if 36 with (first
    | (go_at_call 8; refine (HQA.out _).mono ?_; rintro e u3 ⟨rfl, hb⟩; have G3 := Lib.hid (below_step G2.out hb); have P3 := Lib.hid (P2.out.below hb P2.out.lt); have T3 := Lib.hid (T2.out.below hb T2.out.lt); clear hb))
  clear t0 t1 t2 G2 P2 T2
  have t0 := T3.out.cell 0
  have t1 := T3.out.cell 1
  have t2 := T3.out.cell 2
  go_cut [8] from 35 to 38 (fun u wx => u = .string az ∧ Below u3.heap.size u3 wx)
  case first =>
    cases hab : attrB a
    · have hw0 := HQM.out hab
      clear HQA HQT HQM
      subst hw0
      go_wp2_with fail
      go_meet
      case rel => exact ⟨rfl, Below.refl _ _⟩
    · have HQ2 := Lib.hid (HQT.out hab)
      clear HQA HQT HQM
      go_wp2_with (first
        | (go_at_call 9; refine (HQ2.out _).mono ?_; rintro e u4 ⟨rfl, hb⟩; have G4 := Lib.hid hb; clear hb))
      go_meet
      case rel => exact ⟨rfl, G4.out⟩
  case rest =>
  obtain ⟨rfl, hbw⟩ := hcut
  have G2' := Lib.hid (below_step G3.out hbw)
  have P2' := Lib.hid (P3.out.below hbw P3.out.lt)
  have T2' := Lib.hid (T3.out.below hbw T3.out.lt)
  clear hbw G3 P3 T3 HQA HQT HQM t0 t1 t2
  obtain ⟨u2, hu2⟩ : ∃ u2, u2 = wc := ⟨wc, rfl⟩
  subst hu2
  have q0 := P2'.out.cell 0
  have q1 := P2'.out.cell 1
  have q2 := P2'.out.cell 2
  have q3 := P2'.out.cell 3
  have q4 := P2'.out.cell 4
  have q5 := P2'.out.cell 5
  have q6 := P2'.out.cell 6
  go_upto_region 10 with (first
    | (go_at_call 10; (with_reducible refine (HCP.out _ G2'.out).mono ?_); rintro e u3 ⟨B1, d1, B2, d2, B3, d3, B4, d4, rfl, hb, hct⟩; have B3' := Lib.hid hb; have CT := Lib.hid hct; clear hb hct))
  have K3 : Hid (Below u2.heap.size u2 (u3.alloc (.cells #[.string p.id, .bool p.set, .int .i64 p.alg, .slice B1 n1 d1, .slice B2 n2 d2, .slice B3 n3 d3, .slice B4 n4 d4] 28))) := B3'.out.alloc B3'.out.size _
  have hal : Below u3.heap.size u3 (u3.alloc (.cells #[.string p.id, .bool p.set, .int .i64 p.alg, .slice B1 n1 d1, .slice B2 n2 d2, .slice B3 n3 d3, .slice B4 n4 d4] 28)) := (Below.refl _ _).alloc (Nat.le_refl _) _
  have CI : Hid (PolIn (u3.alloc (.cells #[.string p.id, .bool p.set, .int .i64 p.alg, .slice B1 n1 d1, .slice B2 n2 d2, .slice B3 n3 d3, .slice B4 n4 d4] 28)) (fun b => u2.heap.size ≤ b) p B1 n1 d1 B2 n2 d2 B3 n3 d3 B4 n4 d4) := (CT.out.intoS HID.out.1 HID.out.2 HN3.out.1 HN3.out.2).then_ hal
  have OW := Lib.hid (Ob.made u3 28 #[.string p.id, .bool p.set, .int .i64 p.alg, .slice B1 n1 d1, .slice B2 n2 d2, .slice B3 n3 d3, .slice B4 n4 d4])
  have P3 := Lib.hid (P2'.out.below K3.out P2'.out.lt)
  have T3 := Lib.hid (T2'.out.below K3.out T2'.out.lt)
  have G3 := Lib.hid (below_step G2'.out K3.out)
  have H3 := Lib.hid (H.out.then_ G3.out)
  have L3 := Lib.hid (H5.out.keep (Kept.all G3.out _) (R' := fun _ => True) (fun _ _ _ => trivial))
  have TB3 := Lib.hid (fun V (hV : Below u3.heap.size (u3.alloc (.cells #[.string p.id, .bool p.set, .int .i64 p.alg, .slice B1 n1 d1, .slice B2 n2 d2, .slice B3 n3 d3, .slice B4 n4 d4] 28)) V) => trivial)
  clear q0 q1 q2 q3 q4 q5 q6 hal B3' CT K3 P2' T2' G2' HCP HN3 TB3
  obtain ⟨u3s, hu3⟩ : ∃ x, x = u3.heap.size := ⟨_, rfl⟩
  rw [← hu3] at OW
  rw [← hu3]
  generalize u3.alloc (.cells #[.string p.id, .bool p.set, .int .i64 p.alg, .slice B1 n1 d1, .slice B2 n2 d2, .slice B3 n3 d3, .slice B4 n4 d4] 28) = w7 at *
  clear hu3
  have KG := Lib.hid (fun d os => below_regrown w7 d os)
  have HTG := Lib.hid (fun d os => HTB.out _ (below_step G3.out (below_regrown w7 d os)))
  have C1 : Hid (∀ d os, Calls Tryz.prog 11 #[.agg #[.string p.id, .bool p.set, .int .i64 p.alg, .slice A1 n1 k1, .slice A2 n2 k2, .slice A3 n3 k3, .slice A4 n4 k4]] (grow (redrawn w7 d) os) fun e w'' => e = .returned (.string ⟨(showP p).toArray⟩) ∧ ∃ p : Regrown, w'' = grow (redrawn w7 p.d) p.os) := fun d os => Calls.regrown_of (show_pol (H3.out.then_ (KG.out d os)) (HTG.out d os))
  have C2 : Hid (∀ d os, Calls Tryz.prog 12 #[.agg #[.string p.id, .bool p.set, .int .i64 p.alg, .slice A1 n1 k1, .slice A2 n2 k2, .slice A3 n3 k3, .slice A4 n4 k4]] (grow (redrawn w7 d) os) fun e w'' => e = .returned (.string ⟨(showP p).toArray⟩) ∧ ∃ p : Regrown, w'' = grow (redrawn w7 p.d) p.os) := fun d os => Calls.regrown_of (rshowp_any (H3.out.then_ (KG.out d os)))
  have C3 : Hid (∀ d os, Calls Tryz.prog 13 #[.slice A5 e5 k5] (grow (redrawn w7 d) os) fun e w'' => e = .returned (.string ws) ∧ ∃ p : Regrown, w'' = grow (redrawn w7 p.d) p.os) := fun d os => Calls.regrown_of (by rw [HWS.out]; exact show_expr _ (L3.out.keep (Kept.all (KG.out d os) _) (R' := fun _ => True) (fun _ _ _ => trivial)) (HTG.out d os))
  have C4 : Hid (∀ d os, Calls Tryz.prog 14 #[.agg #[.int .i64 a.cat, .string a.name, .bool a.must]] (grow (redrawn w7 d) os) fun e w'' => e = .returned (.string az) ∧ ∃ p : Regrown, w'' = grow (redrawn w7 p.d) p.os) := fun d os => Calls.regrown_of (by rw [HAS.out]; exact show_attr a HA.out _ (HTG.out d os))
  have C5 : Hid (∀ d os, Calls Tryz.prog 15 #[.agg #[.string p.id, .bool p.set, .int .i64 p.alg, .slice A1 n1 k1, .slice A2 n2 k2, .slice A3 n3 k3, .slice A4 n4 k4], .agg #[.string p.id, .bool p.set, .int .i64 p.alg, .slice B1 n1 d1, .slice B2 n2 d2, .slice B3 n3 d3, .slice B4 n4 d4]] (grow (redrawn w7 d) os) fun e w'' => e = .returned (.bool true) ∧ ∃ p : Regrown, w'' = grow (redrawn w7 p.d) p.os) := fun d os => Calls.regrown_of (same_inS (H3.out.then_ (KG.out d os)) (CI.out.then_ (KG.out d os)))
  have C6 : Hid (∀ d os, Calls Tryz.prog 5 #[] (grow (redrawn w7 d) os) fun e w'' => e = .returned (.bool true) ∧ ∃ p : Regrown, w'' = grow (redrawn w7 p.d) p.os) := fun d os => Calls.regrown_of (HR.out _ (HTG.out d os))
  have q0 := fun d os => cell_regrown (P3.out.cell 0) d os
  have q1 := fun d os => cell_regrown (P3.out.cell 1) d os
  have q2 := fun d os => cell_regrown (P3.out.cell 2) d os
  have q3 := fun d os => cell_regrown (P3.out.cell 3) d os
  have q4 := fun d os => cell_regrown (P3.out.cell 4) d os
  have q5 := fun d os => cell_regrown (P3.out.cell 5) d os
  have q6 := fun d os => cell_regrown (P3.out.cell 6) d os
  have s0 := fun d os => cell_regrown (OW.out.cell 0) d os
  have s1 := fun d os => cell_regrown (OW.out.cell 1) d os
  have s2 := fun d os => cell_regrown (OW.out.cell 2) d os
  have s3 := fun d os => cell_regrown (OW.out.cell 3) d os
  have s4 := fun d os => cell_regrown (OW.out.cell 4) d os
  have s5 := fun d os => cell_regrown (OW.out.cell 5) d os
  have s6 := fun d os => cell_regrown (OW.out.cell 6) d os
  have t0 := fun d os => cell_regrown (T3.out.cell 0) d os
  have t1 := fun d os => cell_regrown (T3.out.cell 1) d os
  have t2 := fun d os => cell_regrown (T3.out.cell 2) d os
  generalize (⟨(showP p).toArray⟩ : ByteArray) = ps at *
  refine wp_region_quiet_below (by kernel_rfl) (by kernel_rfl) ?_
  repeat (go_big_quiet_step ((first
      | (go_at_call 11; exact C1.out _ _)
      | (go_at_call 12; exact C2.out _ _)
      | (go_at_call 13; exact C3.out _ _)
      | (go_at_call 14; exact C4.out _ _)
      | (go_at_call 15; exact C5.out _ _)
      | (go_at_call 5; exact C6.out _ _))))
  refine wpQuiet_nil ?_
  intro _ hw'
  obtain ⟨⟨dq, osq⟩, hw''⟩ := hw'
  subst hw''
  clear q0 q1 q2 q3 q4 q5 q6 t0 t1 t2 s0 s1 s2 s3 s4 s5 s6
  have G4 := Lib.hid (below_step G3.out (below_regrown w7 dq osq))
  go_wp2_with fail
  go_ret
  exact ⟨rfl, G4.out⟩
end Go.Proofs.YtjpkemamfccfdaaGreatDoor
namespace Go.Proofs.YtjpkemamfccfdaaGreatDoor.showTells
open Go.ChangeShapes Go.WideShapes Go.ChangeAt Go.RowKit
open Go.ChangeMaps (open_string shut_string)
set_option linter.unusedVariables false

set_option maxRecDepth 100000 in
theorem lifted (os : Os) (started : os.Started) (H : Type) (enc : TypeId × Value → H) :
    ReturnsInHanded {} Tryz.checked os 3 .any (fun w args => (Rows.showTellsSpec.pre enc Tryz.prog Tryz.f3 [] false w args ∧ laidMetH Tryz.prog Rows.showTellsRow.laid w) ∧ sizedMet enc Tryz.prog Tryz.f3 (OpenSpec.ofChange Rows.showTellsSpec) false w args)
      (Rows.showTellsSpec.post enc Tryz.prog Tryz.f3 false true false false) := by
  refine returnsInHanded_of_change_and (C := Tryz.checked) (X := fun w _ => laidMetH Tryz.prog Rows.showTellsRow.laid w) (fun _ _ _ hh h => h.of_heap hh) own started (by kernel_rfl) Tryz.func3
    (ChangeSpec.witness_shaped (enc := enc) (C := Tryz.checked) (os := os) (X := fun w _ => laidMetH Tryz.prog Rows.showTellsRow.laid w) false (World.doorLaid Tryz.prog 300 os) #[.agg #[.string ByteArray.empty, .bool false, .int .i64 0, .slice none 0 0, .slice none 0 0, .slice none 0 0, .slice none 0 0], .slice none 0 0, .agg #[.int .i64 0, .string ByteArray.empty, .bool false]] 8 rfl (World.shaped_of_RefB (by kernel_rfl) (by kernel_rfl)) (by kernel_rfl) (by kernel_rfl) (by kernel_rfl) (door_met os _)) ?_
  intro W base args ds gs before hval0 hW hcnd hsz0 hL _
  have hsz : (DataW.weightsEach Tryz.prog (Tryz.f3.params.toList ++ Rows.showTellsSpec.plain.varTypes Tryz.prog) (ds ++ gs)).all (· ≤ reachBytes) = true := hsz0
  have htab := tbl_of_laid hL
  have hval : ∀ (j : Nat) t v, Tryz.f3.params[j]? = some t → args[j]? = some v → Value.okWide Tryz.prog W .any base t v := hval0
  have hW' := hW
  obtain ⟨p, q, hA0, hV, rfl, hfz, hnd⟩ := hW
  have hA : DataW.TrodAll enc Tryz.prog W 0 (fun _ => true) true Tryz.f3.params.toList args.toList ds p := hA0
  rw [Tryz.params3] at hA hval hsz
  obtain ⟨v0, vs0, d0, ds0, p0, q0, hargs, rfl, rfl, h0, r0⟩ := trodAll_cons hA
  obtain ⟨v1, vs1, d1, ds1, p1, q1, rfl, rfl, rfl, h1, r1⟩ := trodAll_cons r0
  obtain ⟨v2, vs2, d2, ds2, p2, q2, rfl, rfl, rfl, h2, r2⟩ := trodAll_cons r1
  obtain ⟨rfl, rfl, rfl⟩ := trodAll_nil r2
  obtain rfl : args = #[v0, v1, v2] := by cases args; simp_all
  obtain ⟨rfl, rfl⟩ := trodVars_none hV
  have wt0 : Wt Tryz.prog 28 d0 := wt_each hsz 0 28 d0 rfl rfl
  have wt1 : Wt Tryz.prog 29 d1 := wt_each hsz 1 29 d1 rfl rfl
  have wt2 : Wt Tryz.prog 31 d2 := wt_each hsz 2 31 d2 rfl rfl
  have k0 := h0
  have lt0 : ∀ x ∈ p0, x.block < W.heap.size := by obtain ⟨m, hm⟩ := k0; exact DataW.trod_lt m _ _ _ hm
  obtain ⟨a0, A0a, n0a, k0a, A0b, n0b, k0b, A0c, n0c, k0c, A0d, n0d, k0d, rfl, w0⟩ := open_pol (hval 0 28 v0 rfl rfl) wt0 h0
  obtain ⟨a1, len1, cap1, rfl⟩ := okWide_slice Tryz.underlying29 (hval 1 29 v1 rfl rfl)
  have k1 := h1
  have lt1 : ∀ x ∈ p1, x.block < W.heap.size := by obtain ⟨m, hm⟩ := k1; exact DataW.trod_lt m _ _ _ hm
  have w1 := open_nods wt1 h1
  have k2 := h2
  have lt2 : ∀ x ∈ p2, x.block < W.heap.size := by obtain ⟨m, hm⟩ := k2; exact DataW.trod_lt m _ _ _ hm
  obtain ⟨a2, rfl, w2⟩ := open_atr (hval 2 31 v2 rfl rfl) wt2 h2
  clear hA0 hval0
  refine (showTells_walk W a0 w0 a1 len1 cap1 w1 a2 w2 htab).mono fun e W' ⟨he, bel⟩ => ?_
  subst he
  exact ⟨_, rfl, _, _, _, [], _, [], hW', trodAll_mk1 (shut_bool Tryz.underlying4 _), (trodAll_cons_mk (Below.trod laidOut (by kernel_rfl) (of_decide_eq_true (by kernel_rfl)) k0 bel lt0) (trodAll_cons_mk (Below.trod laidOut (by kernel_rfl) (of_decide_eq_true (by kernel_rfl)) k1 bel lt1) (trodAll_cons_mk (Below.trod laidOut (by kernel_rfl) (of_decide_eq_true (by kernel_rfl)) k2 bel lt2) trodAll_mk0))), rfl, bel.frame _, fun h => by cases h⟩

theorem over : Rows.showTellsRow.holds Tryz.pinned (OpenSpec.ofChange Rows.showTellsSpec) :=
  OpenClaim.holds_of_wide 3 Tryz.f3 rfl rfl rfl rfl rfl rfl rfl ⟨rfl, rfl, rfl, rfl, rfl⟩ rfl rfl rfl rfl rfl (by kernel_rfl) Tryz.func3 (by kernel_rfl)
    (of_decide_eq_true (by kernel_rfl)) (by unfold Func.isWrapper; first | (rw [if_pos (by decide +kernel)]; kernel_rfl) | (rw [if_neg (by decide +kernel)]; exact ⟨rfl, rfl⟩))
    (fun os started H enc _ => lifted os started H enc)

/-- The row. -/
theorem row_holds : Rows.ShowTellsSaid := over

/-- The statement: the card. -/
theorem proved : Rows.ShowTellsCardSaid :=
  Claim7.holds_tied_plain_at .later [] [.data, .data, .data, .data, .data, .data, .data, .data] true Rows.showTellsCard.stood.harness false
    row_holds (fun _ h => by cases h) (by kernel_rfl) (fun _ h => by cases h) showTells_row_tie rfl ⟨rfl, rfl⟩ (by kernel_rfl) rfl
    (fun f fn hf hfn => by
      obtain rfl : f = 3 := Option.some.inj ((show Tryz.prog.funcNamed Rows.showTellsRow.func = some 3 by kernel_rfl).symm.trans hf) |>.symm
      obtain rfl : fn = Tryz.f3 := (Option.some.inj (Tryz.func3.symm.trans hfn)).symm
      exact ⟨by kernel_rfl, fun j t ht => by
        rw [Tryz.params3] at ht
        have hm : t ∈ ([28, 29, 31] : List TypeId) := by simpa using Array.mem_of_getElem? ht
        have hall : (([28, 29, 31] : List TypeId).all fun u => !Tryz.prog.wantsStandIn u) = true := by kernel_rfl
        exact (show Tryz.prog.wantsStandIn t = false by simpa using List.all_eq_true.1 hall t hm)⟩)
    (by kernel_rfl)
#print axioms proved
end Go.Proofs.YtjpkemamfccfdaaGreatDoor.showTells
