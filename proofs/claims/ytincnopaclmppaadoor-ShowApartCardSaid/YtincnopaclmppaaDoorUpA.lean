/- Several texts in one: KeepDiff, KeepDiffP, LaidV, ShowMath, ShowTab, LexMath, LexLaws, ParMath, ParLen, ParMet, ParTok, ParStrip, ParBlanks, ParEval, ParToks, LexNumM, VShowM. -/
import Derived.Test.YtincnopaclmppaaDoorKeepSame
import Derived.Test.YtincnopaclmppaaDoorMem
import Derived.Test.YtincnopaclmppaaDoorShelf
import Derived.Lib.LaidTab
import Derived.Lib.AppendIntMem
import Derived.LaidMore
import Derived.Test.YtincnopaclmppaaDoorPolMath
import Derived.Lib.Join
import Derived.Test.YtincnopaclmppaaDoorVMath
/- bailiffkeep: two policies that differ. -/
namespace Go.Proofs.YtincnopaclmppaaDoor
set_option linter.unusedVariables false
open Go.RowKit Go.Sort

theorem take_more {α : Type} {l l' : List α} {k : Nat} {x : α} (h : l[k]? = some x) (h' : l'[k]? = some x) (e : l.take k = l'.take k) : l.take (k + 1) = l'.take (k + 1) := by
  obtain ⟨a, rfl⟩ := List.getElem?_eq_some_iff.1 h
  obtain ⟨b, e2⟩ := List.getElem?_eq_some_iff.1 h'
  rw [List.take_succ_eq_append_getElem a, List.take_succ_eq_append_getElem b, e, e2]
theorem take_whole {α : Type} {l l' : List α} {n : Nat} (h : l.length = n) (h' : l'.length = n) (e : l.take n = l'.take n) : l = l' := by
  rwa [List.take_of_length_le (by omega), List.take_of_length_le (by omega)] at e
section
variable {w : World} {R R' : Nat → Prop} {A A' : Option Addr} {n c n' c' : Nat}
set_option maxRecDepth 100000 in
set_option maxHeartbeats 1600000 in
theorem diff_dut {l l' : List Dut} (h : Dus w R A n c l) (h' : Dus w R' A' n' c' l') (hne : l ≠ l') : Calls Tryd.prog 17 #[.slice A n c, .slice A' n' c'] w fun e w' => e = .returned (.bool false) ∧ Below w.heap.size w w' := by
  have hcap := h.cap
  have hle := h.le
  have hle' := h'.le
  have hcap' := h'.cap
  unfold maxLen at hcap hcap'
  have H := Lib.hid h
  have H' := Lib.hid h'
  have HNE := Lib.hid hne
  clear h h' hne
  by_cases hn : n = n'
  · subst hn
    go_enter Tryd.func17, Tryd.ntmps17
    go_wp2
    go_loopw [5] (fun i wr => ∃ k : Nat, k ≤ n ∧ i = .int .i64 k ∧ l.take k = l'.take k ∧ ∃ q, wr = w.drewN q) (fun i _ => n - (intOf i).toNat)
    case atStart => exact ⟨0, Nat.zero_le _, rfl, by simp, 0, rfl⟩
    case round =>
      obtain ⟨k, hk, rfl, ht, q, rfl⟩ := hrel
      have HT := Lib.hid ht
      clear ht
      by_cases hlt : k < n
      · obtain ⟨b, o, x, rfl, _, _, hx, _, ⟨x0, x1, x2⟩⟩ := H.out.at_ hlt
        obtain ⟨b', o', y, rfl, _, _, hy, _, ⟨y0, y1, y2⟩⟩ := H'.out.at_ hlt
        by_cases hxy : x = y
        · subst hxy
          have HX := Lib.hid hx
          have HY := Lib.hid hy
          have hve := dut_eq x x
          simp only [decide_true] at hve
          clear hx hy
          go_wp2_with fail
          go_quiet (fail)
          go_wp2
          go_roundw
          case rel => exact ⟨k + 1, by omega, by go_num, take_more HX.out HY.out HT.out, _, rfl⟩
          case measure => simp [intOf]; omega
        · have hve := dut_eq x y
          simp only [decide_eq_false hxy] at hve
          clear hx hy hxy
          go_wp2_with fail
          go_quiet (fail)
          go_wp2
          go_ret
          exact ⟨rfl, below_drewN (below_drewN (Below.refl _ _) _) _⟩
      · obtain rfl : k = n := by omega
        exact absurd (take_whole H.out.len H'.out.len HT.out) HNE.out
  · have hni : ¬ (n : Int) = (n' : Int) := by omega
    have hni2 : ((n : Int) != (n' : Int)) = true := by simpa using hni
    go_enter Tryd.func17, Tryd.ntmps17
    go_wp2_with fail
    go_ret
    exact ⟨rfl, Below.refl _ _⟩
theorem diff_dut_q {l l' : List Dut} (h : Dus w R A n c l) (h' : Dus w R' A' n' c' l') (hne : l ≠ l') (d : Nat) (os : Array Obj) : Calls Tryd.prog 17 #[.slice A n c, .slice A' n' c'] (grow (redrawn w d) os) fun e w'' => e = .returned (.bool false) ∧ ∃ p : Regrown, w'' = grow (redrawn w p.d) p.os :=
  Calls.regrown_of (diff_dut (R := R) (R' := R') (h.keep (Kept.all (below_regrown w d os) R) (fun _ h _ => h)) (h'.keep (Kept.all (below_regrown w d os) R') (fun _ h _ => h)) hne)
set_option maxRecDepth 100000 in
set_option maxHeartbeats 1600000 in
theorem diff_nod {l l' : List Nod} (h : Nds w R A n c l) (h' : Nds w R' A' n' c' l') (hne : l ≠ l') : Calls Tryd.prog 18 #[.slice A n c, .slice A' n' c'] w fun e w' => e = .returned (.bool false) ∧ Below w.heap.size w w' := by
  have hcap := h.cap
  have hle := h.le
  have hle' := h'.le
  have hcap' := h'.cap
  unfold maxLen at hcap hcap'
  have H := Lib.hid h
  have H' := Lib.hid h'
  have HNE := Lib.hid hne
  clear h h' hne
  by_cases hn : n = n'
  · subst hn
    go_enter Tryd.func18, Tryd.ntmps18
    go_wp2
    go_loopw [5] (fun i wr => ∃ k : Nat, k ≤ n ∧ i = .int .i64 k ∧ l.take k = l'.take k ∧ ∃ q, wr = w.drewN q) (fun i _ => n - (intOf i).toNat)
    case atStart => exact ⟨0, Nat.zero_le _, rfl, by simp, 0, rfl⟩
    case round =>
      obtain ⟨k, hk, rfl, ht, q, rfl⟩ := hrel
      have HT := Lib.hid ht
      clear ht
      by_cases hlt : k < n
      · obtain ⟨b, o, x, rfl, _, _, hx, _, ⟨x0, x1, x2, x3, x4, x5, x6⟩⟩ := H.out.at_ hlt
        obtain ⟨b', o', y, rfl, _, _, hy, _, ⟨y0, y1, y2, y3, y4, y5, y6⟩⟩ := H'.out.at_ hlt
        by_cases hxy : x = y
        · subst hxy
          have HX := Lib.hid hx
          have HY := Lib.hid hy
          have hve := nod_eq x x
          simp only [decide_true] at hve
          clear hx hy
          go_wp2_with fail
          go_quiet (fail)
          go_wp2
          go_roundw
          case rel => exact ⟨k + 1, by omega, by go_num, take_more HX.out HY.out HT.out, _, rfl⟩
          case measure => simp [intOf]; omega
        · have hve := nod_eq x y
          simp only [decide_eq_false hxy] at hve
          clear hx hy hxy
          go_wp2_with fail
          go_quiet (fail)
          go_wp2
          go_ret
          exact ⟨rfl, below_drewN (below_drewN (Below.refl _ _) _) _⟩
      · obtain rfl : k = n := by omega
        exact absurd (take_whole H.out.len H'.out.len HT.out) HNE.out
  · have hni : ¬ (n : Int) = (n' : Int) := by omega
    have hni2 : ((n : Int) != (n' : Int)) = true := by simpa using hni
    go_enter Tryd.func18, Tryd.ntmps18
    go_wp2_with fail
    go_ret
    exact ⟨rfl, Below.refl _ _⟩
theorem diff_nod_q {l l' : List Nod} (h : Nds w R A n c l) (h' : Nds w R' A' n' c' l') (hne : l ≠ l') (d : Nat) (os : Array Obj) : Calls Tryd.prog 18 #[.slice A n c, .slice A' n' c'] (grow (redrawn w d) os) fun e w'' => e = .returned (.bool false) ∧ ∃ p : Regrown, w'' = grow (redrawn w p.d) p.os :=
  Calls.regrown_of (diff_nod (R := R) (R' := R') (h.keep (Kept.all (below_regrown w d os) R) (fun _ h _ => h)) (h'.keep (Kept.all (below_regrown w d os) R') (fun _ h _ => h)) hne)
set_option maxRecDepth 100000 in
set_option maxHeartbeats 1600000 in
theorem diff_mat {l l' : List Mat} (h : Ms w R A n c l) (h' : Ms w R' A' n' c' l') (hne : l ≠ l') : Calls Tryd.prog 31 #[.slice A n c, .slice A' n' c'] w fun e w' => e = .returned (.bool false) ∧ Below w.heap.size w w' := by
  have hcap := h.cap
  have hle := h.le
  have hle' := h'.le
  have hcap' := h'.cap
  unfold maxLen at hcap hcap'
  have H := Lib.hid h
  have H' := Lib.hid h'
  have HNE := Lib.hid hne
  clear h h' hne
  by_cases hn : n = n'
  · subst hn
    go_enter Tryd.func31, Tryd.ntmps31
    go_wp2
    go_loopw [5] (fun i wr => ∃ k : Nat, k ≤ n ∧ i = .int .i64 k ∧ l.take k = l'.take k ∧ ∃ q, wr = w.drewN q) (fun i _ => n - (intOf i).toNat)
    case atStart => exact ⟨0, Nat.zero_le _, rfl, by simp, 0, rfl⟩
    case round =>
      obtain ⟨k, hk, rfl, ht, q, rfl⟩ := hrel
      have HT := Lib.hid ht
      clear ht
      by_cases hlt : k < n
      · obtain ⟨b, o, x, rfl, _, _, hx, _, ⟨x0, x1, x2, x3, x4, x5, x6⟩⟩ := H.out.at_ hlt
        obtain ⟨b', o', y, rfl, _, _, hy, _, ⟨y0, y1, y2, y3, y4, y5, y6⟩⟩ := H'.out.at_ hlt
        by_cases hxy : x = y
        · subst hxy
          have HX := Lib.hid hx
          have HY := Lib.hid hy
          have hve := mat_eq x x
          simp only [decide_true] at hve
          clear hx hy
          go_wp2_with fail
          go_quiet (fail)
          go_wp2
          go_roundw
          case rel => exact ⟨k + 1, by omega, by go_num, take_more HX.out HY.out HT.out, _, rfl⟩
          case measure => simp [intOf]; omega
        · have hve := mat_eq x y
          simp only [decide_eq_false hxy] at hve
          clear hx hy hxy
          go_wp2_with fail
          go_quiet (fail)
          go_wp2
          go_ret
          exact ⟨rfl, below_drewN (below_drewN (Below.refl _ _) _) _⟩
      · obtain rfl : k = n := by omega
        exact absurd (take_whole H.out.len H'.out.len HT.out) HNE.out
  · have hni : ¬ (n : Int) = (n' : Int) := by omega
    have hni2 : ((n : Int) != (n' : Int)) = true := by simpa using hni
    go_enter Tryd.func31, Tryd.ntmps31
    go_wp2_with fail
    go_ret
    exact ⟨rfl, Below.refl _ _⟩
theorem diff_mat_q {l l' : List Mat} (h : Ms w R A n c l) (h' : Ms w R' A' n' c' l') (hne : l ≠ l') (d : Nat) (os : Array Obj) : Calls Tryd.prog 31 #[.slice A n c, .slice A' n' c'] (grow (redrawn w d) os) fun e w'' => e = .returned (.bool false) ∧ ∃ p : Regrown, w'' = grow (redrawn w p.d) p.os :=
  Calls.regrown_of (diff_mat (R := R) (R' := R') (h.keep (Kept.all (below_regrown w d os) R) (fun _ h _ => h)) (h'.keep (Kept.all (below_regrown w d os) R') (fun _ h _ => h)) hne)
set_option maxRecDepth 100000 in
set_option maxHeartbeats 3200000 in
theorem diff_tgt {l l' : Tgt} (h : Tg w R A n c l) (h' : Tg w R' A' n' c' l') (hne : l ≠ l') : Calls Tryd.prog 16 #[.slice A n c, .slice A' n' c'] w fun e w' => e = .returned (.bool false) ∧ Below w.heap.size w w' := by
  have hcap := h.cap
  have hle := h.le
  have hle' := h'.le
  have hcap' := h'.cap
  unfold maxLen at hcap hcap'
  have H := Lib.hid h
  have H' := Lib.hid h'
  have HNE := Lib.hid hne
  clear h h' hne
  by_cases hn : n = n'
  rotate_left
  · have hni : ¬ (n : Int) = (n' : Int) := by omega
    have hni2 : ((n : Int) != (n' : Int)) = true := by simpa using hni
    go_enter Tryd.func16, Tryd.ntmps16
    go_wp2_with fail
    go_ret
    exact ⟨rfl, Below.refl _ _⟩
  subst hn
  go_enter Tryd.func16, Tryd.ntmps16
  go_wp2
  go_loopw [14] (fun i wr => ∃ k : Nat, k ≤ n ∧ i = .int .i64 k ∧ l.take k = l'.take k ∧ Below w.heap.size w wr) (fun i _ => n - (intOf i).toNat)
  case atStart => exact ⟨0, Nat.zero_le _, rfl, by simp, Below.refl _ _⟩
  case round =>
    obtain ⟨k, hk, rfl, htk, hb⟩ := hrel
    have HB := Lib.hid hb
    have HT := Lib.hid htk
    have T1 := Lib.hid (H.out.keep (Kept.all hb R) (fun _ h _ => h))
    have T2 := Lib.hid (H'.out.keep (Kept.all hb R') (fun _ h _ => h))
    clear hb htk
    by_cases hlt : k < n
    · obtain ⟨b, o, x, A1, n1, c1, rfl, _, _, hx, x0, hA⟩ := T1.out.at_ hlt
      obtain ⟨b', o', y, A2, n2, c2, rfl, _, _, hy, y0, hA'⟩ := T2.out.at_ hlt
      have hcap1 := Rw.cap hA
      have hle1 := Rw.le hA
      have hle2 := Rw.le hA'
      have hcap2 := Rw.cap hA'
      unfold maxLen at hcap1 hcap2
      have G1 := Lib.hid hA
      have G2 := Lib.hid hA'
      have HX := Lib.hid hx
      have HY := Lib.hid hy
      clear hx hy hA hA'
      have x0' := fun d os => cell_regrown x0 d os
      have y0' := fun d os => cell_regrown y0 d os
      by_cases hn12 : n1 = n2
      rotate_left
      · have hni : ¬ (n1 : Int) = (n2 : Int) := by omega
        have hni2 : ((n1 : Int) != (n2 : Int)) = true := by simpa using hni
        go_wp2_with fail
        refine wp_region_quiet_below (by kernel_rfl) (by kernel_rfl) ?_
        repeat (go_big_quiet_step (fail))
        refine wpQuiet_nil ?_
        intro _ hw'
        obtain ⟨⟨dq, osq⟩, hw''⟩ := hw'
        subst hw''
        have BQ := Lib.hid (below_regrown wr dq osq)
        clear x0' y0'
        generalize grow (redrawn wr dq) osq = w2 at *
        go_wp2_with fail
        go_ret
        exact ⟨rfl, HB.out.trans (BQ.out.mono HB.out.size)⟩
      subst hn12
      go_wp2_with fail
      refine wp_region_quiet_below (by kernel_rfl) (by kernel_rfl) ?_
      repeat (go_big_quiet_step (fail))
      refine wpQuiet_nil ?_
      intro _ hw'
      obtain ⟨⟨dq, osq⟩, hw''⟩ := hw'
      subst hw''
      have BQ := Lib.hid (below_regrown wr dq osq)
      have c1x := x0' dq osq
      clear x0' y0'
      generalize grow (redrawn wr dq) osq = w2 at *
      have HB2 := Lib.hid (HB.out.trans (BQ.out.mono HB.out.size))
      have S1 := Lib.hid (G1.out.keep (Kept.all BQ.out R) (fun _ h _ => h))
      have S2 := Lib.hid (G2.out.keep (Kept.all BQ.out R') (fun _ h _ => h))
      have xw := c1x
      have yw := (show w2.cell? _ = some _ from (BQ.out.cell (block_lt_of_cell y0)).trans y0)
      clear c1x
      go_wp2_with fail
      obtain ⟨wo, hwo⟩ : ∃ wo, wo = wr := ⟨wr, rfl⟩
      subst hwo
      go_loopw [33] (fun i wq => ∃ j : Nat, j ≤ n1 ∧ i = .int .i64 j ∧ x.take j = y.take j ∧ Below w2.heap.size w2 wq) (fun i _ => n1 - (intOf i).toNat)
      case atStart => exact ⟨0, Nat.zero_le _, rfl, by simp, Below.refl _ _⟩
      case round =>
        obtain ⟨j, hj, rfl, htj, hb⟩ := hrel
        have HTJ := Lib.hid htj
        have HB3 := Lib.hid (HB2.out.trans (hb.mono HB2.out.size))
        have HBJ := Lib.hid hb
        have T1j := Lib.hid (S1.out.keep (Kept.all hb R) (fun _ h _ => h))
        have T2j := Lib.hid (S2.out.keep (Kept.all hb R') (fun _ h _ => h))
        have X0 := Lib.hid ((hb.cell (block_lt_of_cell xw)).trans xw)
        have Y0 := Lib.hid ((hb.cell (block_lt_of_cell yw)).trans yw)
        clear hb htj
        by_cases hlt2 : j < n1
        · obtain ⟨b1, o1, u, A3, n3, c3, rfl, _, _, hu, u0, hM⟩ := T1j.out.at_ hlt2
          obtain ⟨b2, o2, v, A4, n4, c4, rfl, _, _, hv, v0, hM'⟩ := T2j.out.at_ hlt2
          have M1 := Lib.hid hM
          have M2 := Lib.hid hM'
          have HU := Lib.hid hu
          have HV := Lib.hid hv
          have KK := Lib.hid (below_regrown wr)
          have x1 := fun d os => cell_regrown X0.out d os
          have y1 := fun d os => cell_regrown Y0.out d os
          have u1 := fun d os => cell_regrown u0 d os
          have v1 := fun d os => cell_regrown v0 d os
          clear hu hv hM hM' x0 y0 u0 v0 xw yw
          by_cases huv : u = v
          · subst huv
            obtain rfl := Rw.same_len M1.out M2.out
            have Q1 : Hid (∀ d os, Calls Tryd.prog 31 #[.slice A3 n3 c3, .slice A4 n3 c4] (grow (redrawn wr d) os) fun e w'' => e = .returned (.bool true) ∧ ∃ p : Regrown, w'' = grow (redrawn wr p.d) p.os) := fun d os => same_mat_q M1.out M2.out d os
            go_wp2_with fail
            refine wp_region_quiet_below (by kernel_rfl) (by kernel_rfl) ?_
            repeat (go_big_quiet_step ((go_at_call 31; exact Q1.out _ _)))
            refine wpQuiet_nil ?_
            intro _ hw'
            obtain ⟨⟨dq, osq⟩, hw''⟩ := hw'
            subst hw''
            have BQ2 := Lib.hid (below_regrown wr dq osq)
            clear x1 y1 u1 v1 Q1 KK
            generalize grow (redrawn wr dq) osq = w5 at *
            go_wp2_with fail
            go_roundw
            case rel => exact ⟨j + 1, by omega, by go_num, take_more HU.out HV.out HTJ.out, HBJ.out.trans (BQ2.out.mono HBJ.out.size)⟩
            case measure => simp [intOf]; omega
          · have Q1 : Hid (∀ d os, Calls Tryd.prog 31 #[.slice A3 n3 c3, .slice A4 n4 c4] (grow (redrawn wr d) os) fun e w'' => e = .returned (.bool false) ∧ ∃ p : Regrown, w'' = grow (redrawn wr p.d) p.os) := fun d os => diff_mat_q M1.out M2.out huv d os
            clear huv
            go_wp2_with fail
            refine wp_region_quiet_below (by kernel_rfl) (by kernel_rfl) ?_
            repeat (go_big_quiet_step ((go_at_call 31; exact Q1.out _ _)))
            refine wpQuiet_nil ?_
            intro _ hw'
            obtain ⟨⟨dq, osq⟩, hw''⟩ := hw'
            subst hw''
            have BQ2 := Lib.hid (below_regrown wr dq osq)
            clear x1 y1 u1 v1 Q1 KK
            generalize grow (redrawn wr dq) osq = w5 at *
            go_wp2_with fail
            go_ret
            exact ⟨rfl, HB3.out.trans (BQ2.out.mono HB3.out.size)⟩
        · obtain rfl : j = n1 := by omega
          have HEQ := Lib.hid (take_whole G1.out.len G2.out.len HTJ.out)
          clear x0 y0 xw yw
          go_wp2_with fail
          go_roundw
          case rel => exact ⟨k + 1, by omega, by go_num, take_more HX.out (by rw [HEQ.out]; exact HY.out) HT.out, HB3.out⟩
          case measure => simp [intOf]; omega
    · obtain rfl : k = n := by omega
      exact absurd (take_whole H.out.len H'.out.len HT.out) HNE.out
theorem Pol.ext5 {p p' : Pol} (h1 : p.id = p'.id) (h2 : p.set = p'.set) (h3 : p.alg = p'.alg) (h4 : p.tg = p'.tg) (h5 : p.rules = p'.rules) (h6 : p.kids = p'.kids) (h7 : p.ob = p'.ob) : p = p' := by
  cases p
  cases p'
  simp only [Pol.id, Pol.set, Pol.alg, Pol.tg, Pol.rules, Pol.kids, Pol.ob] at h1 h2 h3 h4 h5 h6 h7
  simp [h1, h2, h3, h4, h5, h6, h7]
theorem Rul.ext5 {r r' : Rul} (h1 : r.id = r'.id) (h2 : r.deny = r'.deny) (h3 : r.tg = r'.tg) (h4 : r.cond = r'.cond) (h5 : r.ob = r'.ob) : r = r' := by
  cases r
  cases r'
  simp_all
theorem text_ne {s s' : ByteArray} (h : s ≠ s') : (s.toList != s'.toList) = true := by
  rw [bne_iff_ne]
  intro e
  exact h (text_eq (by show s.data.toList = s'.data.toList; rw [← ByteArray.toList_eq, ← ByteArray.toList_eq]; exact e))
/-- Two policies in memory that differ. -/
def PDiff (d : Nat) : Prop := ∀ {w : World} {R R' : Nat → Prop} {m : Nat} {p p' : Pol} {A1 A2 A3 A4 B1 B2 B3 B4 : Option Addr} {n1 n2 n3 n4 q1 q2 q3 q4 ak1 ak2 ak3 ak4 bk1 bk2 bk3 bk4 : Nat},
  p.id.size ≤ maxLen → (Tg w R A1 n1 ak1 p.tg ∧ Rus w R A2 n2 ak2 p.rules ∧ Pls w R d A3 n3 ak3 p.kids ∧ Dus w R A4 n4 ak4 p.ob) → (Tg w R' B1 q1 bk1 p'.tg ∧ Rus w R' B2 q2 bk2 p'.rules ∧ Pls w R' m B3 q3 bk3 p'.kids ∧ Dus w R' B4 q4 bk4 p'.ob) → p ≠ p' → Calls Tryd.prog 10 #[.agg #[.string p.id, .bool p.set, .int .i64 p.alg, .slice A1 n1 ak1, .slice A2 n2 ak2, .slice A3 n3 ak3, .slice A4 n4 ak4], .agg #[.string p'.id, .bool p'.set, .int .i64 p'.alg, .slice B1 q1 bk1, .slice B2 q2 bk2, .slice B3 q3 bk3, .slice B4 q4 bk4]] w fun e w' => e = .returned (.bool false) ∧ Below w.heap.size w w'
theorem diff_q {d m : Nat} (ih : PDiff d) {p p' : Pol} {A1 A2 A3 A4 B1 B2 B3 B4 : Option Addr} {n1 n2 n3 n4 q1 q2 q3 q4 ak1 ak2 ak3 ak4 bk1 bk2 bk3 bk4 : Nat} (hid : p.id.size ≤ maxLen) (hA : (Tg w R A1 n1 ak1 p.tg ∧ Rus w R A2 n2 ak2 p.rules ∧ Pls w R d A3 n3 ak3 p.kids ∧ Dus w R A4 n4 ak4 p.ob)) (hB : (Tg w R' B1 q1 bk1 p'.tg ∧ Rus w R' B2 q2 bk2 p'.rules ∧ Pls w R' m B3 q3 bk3 p'.kids ∧ Dus w R' B4 q4 bk4 p'.ob)) (hne : p ≠ p') (dd : Nat) (os : Array Obj) :
    Calls Tryd.prog 10 #[.agg #[.string p.id, .bool p.set, .int .i64 p.alg, .slice A1 n1 ak1, .slice A2 n2 ak2, .slice A3 n3 ak3, .slice A4 n4 ak4], .agg #[.string p'.id, .bool p'.set, .int .i64 p'.alg, .slice B1 q1 bk1, .slice B2 q2 bk2, .slice B3 q3 bk3, .slice B4 q4 bk4]] (grow (redrawn w dd) os) fun e w'' => e = .returned (.bool false) ∧ ∃ p : Regrown, w'' = grow (redrawn w p.d) p.os := by
  have k1 := Kept.all (below_regrown w dd os) R
  have k2 := Kept.all (below_regrown w dd os) R'
  exact Calls.regrown_of (ih (R := R) (R' := R') hid ⟨hA.1.keep k1 (fun _ h _ => h), hA.2.1.keep k1 (fun _ h _ => h), hA.2.2.1.keep k1 (fun _ h _ => h), hA.2.2.2.keep k1 (fun _ h _ => h)⟩ ⟨hB.1.keep k2 (fun _ h _ => h), hB.2.1.keep k2 (fun _ h _ => h), hB.2.2.1.keep k2 (fun _ h _ => h), hB.2.2.2.keep k2 (fun _ h _ => h)⟩ hne)
set_option maxRecDepth 100000 in
set_option maxHeartbeats 8000000 in
/-- What differs ahead of the rules. -/
theorem diff_head {d m : Nat} {p p' : Pol} {A1 A2 A3 A4 B1 B2 B3 B4 : Option Addr} {n1 n2 n3 n4 q1 q2 q3 q4 ak1 ak2 ak3 ak4 bk1 bk2 bk3 bk4 : Nat} (hid : p.id.size ≤ maxLen) (hA : (Tg w R A1 n1 ak1 p.tg ∧ Rus w R A2 n2 ak2 p.rules ∧ Pls w R d A3 n3 ak3 p.kids ∧ Dus w R A4 n4 ak4 p.ob)) (hB : (Tg w R' B1 q1 bk1 p'.tg ∧ Rus w R' B2 q2 bk2 p'.rules ∧ Pls w R' m B3 q3 bk3 p'.kids ∧ Dus w R' B4 q4 bk4 p'.ob)) (hne : ¬ (p.id = p'.id ∧ p.set = p'.set ∧ p.alg = p'.alg ∧ p.tg = p'.tg ∧ p.ob = p'.ob ∧ n2 = q2 ∧ n3 = q3)) :
    Calls Tryd.prog 10 #[.agg #[.string p.id, .bool p.set, .int .i64 p.alg, .slice A1 n1 ak1, .slice A2 n2 ak2, .slice A3 n3 ak3, .slice A4 n4 ak4], .agg #[.string p'.id, .bool p'.set, .int .i64 p'.alg, .slice B1 q1 bk1, .slice B2 q2 bk2, .slice B3 q3 bk3, .slice B4 q4 bk4]] w fun e w' => e = .returned (.bool false) ∧ Below w.heap.size w w' := by
  have HA := Lib.hid hA
  have HB := Lib.hid hB
  have BA : Hid (Below w.heap.size w ((w.alloc (.cells #[.string p.id, .bool p.set, .int .i64 p.alg, .slice A1 n1 ak1, .slice A2 n2 ak2, .slice A3 n3 ak3, .slice A4 n4 ak4] 28)).alloc (.cells #[.string p'.id, .bool p'.set, .int .i64 p'.alg, .slice B1 q1 bk1, .slice B2 q2 bk2, .slice B3 q3 bk3, .slice B4 q4 bk4] 28))) := (((Below.refl _ _).alloc (Nat.le_refl _) _).alloc (by rw [size_al]; omega) _)
  have PA : Hid (Ob ((w.alloc (.cells #[.string p.id, .bool p.set, .int .i64 p.alg, .slice A1 n1 ak1, .slice A2 n2 ak2, .slice A3 n3 ak3, .slice A4 n4 ak4] 28)).alloc (.cells #[.string p'.id, .bool p'.set, .int .i64 p'.alg, .slice B1 q1 bk1, .slice B2 q2 bk2, .slice B3 q3 bk3, .slice B4 q4 bk4] 28)) w.heap.size 28 #[.string p.id, .bool p.set, .int .i64 p.alg, .slice A1 n1 ak1, .slice A2 n2 ak2, .slice A3 n3 ak3, .slice A4 n4 ak4]) := (Ob.made _ _ _).keep (Below.heap_alloc _ _ _ (by rw [size_al]; omega))
  have PB : Hid (Ob ((w.alloc (.cells #[.string p.id, .bool p.set, .int .i64 p.alg, .slice A1 n1 ak1, .slice A2 n2 ak2, .slice A3 n3 ak3, .slice A4 n4 ak4] 28)).alloc (.cells #[.string p'.id, .bool p'.set, .int .i64 p'.alg, .slice B1 q1 bk1, .slice B2 q2 bk2, .slice B3 q3 bk3, .slice B4 q4 bk4] 28)) (w.heap.size + 1) 28 #[.string p'.id, .bool p'.set, .int .i64 p'.alg, .slice B1 q1 bk1, .slice B2 q2 bk2, .slice B3 q3 bk3, .slice B4 q4 bk4]) := Lib.hid (by have := Ob.made (w.alloc (.cells #[.string p.id, .bool p.set, .int .i64 p.alg, .slice A1 n1 ak1, .slice A2 n2 ak2, .slice A3 n3 ak3, .slice A4 n4 ak4] 28)) 28 #[.string p'.id, .bool p'.set, .int .i64 p'.alg, .slice B1 q1 bk1, .slice B2 q2 bk2, .slice B3 q3 bk3, .slice B4 q4 bk4]; simpa using this)
  clear hid hA hB
  have T1 := Lib.hid (HA.out.1.keep (Kept.all BA.out R) (fun _ h _ => h))
  have T2 := Lib.hid (HB.out.1.keep (Kept.all BA.out R') (fun _ h _ => h))
  have hlt1 : n1 ≤ 1000000000000000 := by have := T1.out.big; omega
  have pa0 := PA.out.cell 0
  have pb0 := PB.out.cell 0
  have pa1 := PA.out.cell 1
  have pb1 := PB.out.cell 1
  have pa2 := PA.out.cell 2
  have pb2 := PB.out.cell 2
  have pa3 := PA.out.cell 3
  have pb3 := PB.out.cell 3
  have pa4 := PA.out.cell 4
  have pb4 := PB.out.cell 4
  have pa5 := PA.out.cell 5
  have pb5 := PB.out.cell 5
  have pa6 := PA.out.cell 6
  have pb6 := PB.out.cell 6
  by_cases e1 : p.id = p'.id
  rotate_left
  · have hx := text_ne e1
    have hx2 : (p.id.toList == p'.id.toList) = false := by rw [bne_iff_ne] at hx; rw [beq_eq_false_iff_ne]; exact hx
    clear e1 hne
    go_enter Tryd.func10, Tryd.ntmps10
    go_wp2_with fail
    go_ret
    exact ⟨rfl, BA.out⟩
  have e1l : (p.id.toList == p'.id.toList) = true := by rw [e1]; simp
  by_cases e2 : p.set = p'.set
  rotate_left
  · have hx : (p.set == p'.set) = false := by rw [beq_eq_false_iff_ne]; exact e2
    have hx2 : (p.set != p'.set) = true := by rw [bne_iff_ne]; exact e2
    clear e1 e2 hne
    go_enter Tryd.func10, Tryd.ntmps10
    go_wp2_with fail
    go_ret
    exact ⟨rfl, BA.out⟩
  have e2l : (p.set == p'.set) = true := by rw [e2]; simp
  have e2n : (p.set != p'.set) = false := by rw [e2]; simp
  by_cases e3 : p.alg = p'.alg
  rotate_left
  · have hx : (p.alg == p'.alg) = false := by rw [beq_eq_false_iff_ne]; exact e3
    have hx2 : (p.alg != p'.alg) = true := by rw [bne_iff_ne]; exact e3
    clear e1 e2 e3 hne
    go_enter Tryd.func10, Tryd.ntmps10
    go_wp2_with fail
    go_ret
    exact ⟨rfl, BA.out⟩
  have e3l : (p.alg == p'.alg) = true := by rw [e3]; simp
  have e3n : (p.alg != p'.alg) = false := by rw [e3]; simp
  by_cases e4 : p.tg = p'.tg
  rotate_left
  · have CT := Lib.hid (diff_tgt T1.out T2.out e4)
    clear e1 e2 e3 e4 hne
    go_enter Tryd.func10, Tryd.ntmps10
    go_wp2_with (go_at_call 16; refine CT.out.mono ?_; rintro e w1 ⟨rfl, hb⟩; have BA1 := Lib.hid (below_step BA.out hb); clear hb)
    go_ret
    exact ⟨rfl, BA1.out⟩
  have T2' := T2.out
  rw [← e4] at T2'
  obtain rfl := Rw.same_len T1.out T2'
  have CT := Lib.hid (same_tgt T1.out T2')
  clear T2'
  by_cases e5 : p.ob = p'.ob
  rotate_left
  · have E5 := Lib.hid e5
    clear e1 e2 e3 e4 e5 hne
    go_enter Tryd.func10, Tryd.ntmps10
    go_wp2_with (first
      | (go_at_call 16; refine CT.out.mono ?_; rintro e w1 ⟨rfl, hb⟩
         have BA1 := Lib.hid (below_step BA.out hb)
         have PA1 := Lib.hid (PA.out.below hb PA.out.lt)
         have PB1 := Lib.hid (PB.out.below hb PB.out.lt)
         have T3 := Lib.hid (HA.out.2.2.2.keep (Kept.all BA1.out R) (fun _ h _ => h))
         have T4 := Lib.hid (HB.out.2.2.2.keep (Kept.all BA1.out R') (fun _ h _ => h))
         have pa10 := PA1.out.cell 0
         have pb10 := PB1.out.cell 0
         have pa11 := PA1.out.cell 1
         have pb11 := PB1.out.cell 1
         have pa12 := PA1.out.cell 2
         have pb12 := PB1.out.cell 2
         have pa13 := PA1.out.cell 3
         have pb13 := PB1.out.cell 3
         have pa14 := PA1.out.cell 4
         have pb14 := PB1.out.cell 4
         have pa15 := PA1.out.cell 5
         have pb15 := PB1.out.cell 5
         have pa16 := PA1.out.cell 6
         have pb16 := PB1.out.cell 6
         clear hb)
      | (go_at_call 17; refine (diff_dut T3.out T4.out E5.out).mono ?_; rintro e w2 ⟨rfl, hb⟩; have BA2 := Lib.hid (below_step BA1.out hb); clear hb))
    go_ret
    exact ⟨rfl, BA2.out⟩
  have E5 := Lib.hid e5
  have OARM : Hid (∀ (W : World) (t3 : Dus W R A4 n4 ak4 p.ob) (t4 : Dus W R' B4 q4 bk4 p'.ob), Calls Tryd.prog 17 #[.slice A4 n4 ak4, .slice B4 q4 bk4] W fun e w' => e = .returned (.bool true) ∧ Below W.heap.size W w') := by
    show ∀ W t3 t4, _
    intro W t3 t4
    rw [← E5.out] at t4
    obtain rfl := Rw.same_len t3 t4
    exact same_dut t3 t4
  have hcap2 := Rw.cap HA.out.2.1
  have hcap3 := Rw.cap HA.out.2.2.1
  have hle2 := Rw.le HA.out.2.1
  have hle2' := Rw.le HB.out.2.1
  have hle3 := Rw.le HA.out.2.2.1
  have hle3' := Rw.le HB.out.2.2.1
  unfold maxLen at hcap2 hcap3
  by_cases e6 : n2 = q2
  rotate_left
  · have hi : ¬ (n2 : Int) = (q2 : Int) := by omega
    have hx2 : ((n2 : Int) != (q2 : Int)) = true := by simpa using hi
    have hx3 : ((n2 : Int) == (q2 : Int)) = false := by simpa using hi
    clear e1 e2 e3 e4 e5 e6 hne
    go_enter Tryd.func10, Tryd.ntmps10
    go_wp2_with (first
      | (go_at_call 16; refine CT.out.mono ?_; rintro e w1 ⟨rfl, hb⟩
         have BA1 := Lib.hid (below_step BA.out hb)
         have PA1 := Lib.hid (PA.out.below hb PA.out.lt)
         have PB1 := Lib.hid (PB.out.below hb PB.out.lt)
         have T3 := Lib.hid (HA.out.2.2.2.keep (Kept.all BA1.out R) (fun _ h _ => h))
         have T4 := Lib.hid (HB.out.2.2.2.keep (Kept.all BA1.out R') (fun _ h _ => h))
         have pa10 := PA1.out.cell 0
         have pb10 := PB1.out.cell 0
         have pa11 := PA1.out.cell 1
         have pb11 := PB1.out.cell 1
         have pa12 := PA1.out.cell 2
         have pb12 := PB1.out.cell 2
         have pa13 := PA1.out.cell 3
         have pb13 := PB1.out.cell 3
         have pa14 := PA1.out.cell 4
         have pb14 := PB1.out.cell 4
         have pa15 := PA1.out.cell 5
         have pb15 := PB1.out.cell 5
         have pa16 := PA1.out.cell 6
         have pb16 := PB1.out.cell 6
         clear hb)
      | (go_at_call 17; refine (OARM.out _ T3.out T4.out).mono ?_; rintro e w2 ⟨rfl, hb⟩
         have BA2 := Lib.hid (below_step BA1.out hb)
         have PA2 := Lib.hid (PA1.out.below hb PA1.out.lt)
         have PB2 := Lib.hid (PB1.out.below hb PB1.out.lt)
         have pa20 := PA2.out.cell 0
         have pb20 := PB2.out.cell 0
         have pa21 := PA2.out.cell 1
         have pb21 := PB2.out.cell 1
         have pa22 := PA2.out.cell 2
         have pb22 := PB2.out.cell 2
         have pa23 := PA2.out.cell 3
         have pb23 := PB2.out.cell 3
         have pa24 := PA2.out.cell 4
         have pb24 := PB2.out.cell 4
         have pa25 := PA2.out.cell 5
         have pb25 := PB2.out.cell 5
         have pa26 := PA2.out.cell 6
         have pb26 := PB2.out.cell 6
         clear hb))
    go_ret
    exact ⟨rfl, BA2.out⟩
  subst e6
  have e7 : ¬ n3 = q3 := fun e => hne ⟨e1, e2, e3, e4, e5, rfl, e⟩
  have hi : ¬ (n3 : Int) = (q3 : Int) := by omega
  have hx2 : ((n3 : Int) != (q3 : Int)) = true := by simpa using hi
  have hx3 : ((n3 : Int) == (q3 : Int)) = false := by simpa using hi
  clear e1 e2 e3 e4 e5 e7 hne
  go_enter Tryd.func10, Tryd.ntmps10
  go_wp2_with (first
      | (go_at_call 16; refine CT.out.mono ?_; rintro e w1 ⟨rfl, hb⟩
         have BA1 := Lib.hid (below_step BA.out hb)
         have PA1 := Lib.hid (PA.out.below hb PA.out.lt)
         have PB1 := Lib.hid (PB.out.below hb PB.out.lt)
         have T3 := Lib.hid (HA.out.2.2.2.keep (Kept.all BA1.out R) (fun _ h _ => h))
         have T4 := Lib.hid (HB.out.2.2.2.keep (Kept.all BA1.out R') (fun _ h _ => h))
         have pa10 := PA1.out.cell 0
         have pb10 := PB1.out.cell 0
         have pa11 := PA1.out.cell 1
         have pb11 := PB1.out.cell 1
         have pa12 := PA1.out.cell 2
         have pb12 := PB1.out.cell 2
         have pa13 := PA1.out.cell 3
         have pb13 := PB1.out.cell 3
         have pa14 := PA1.out.cell 4
         have pb14 := PB1.out.cell 4
         have pa15 := PA1.out.cell 5
         have pb15 := PB1.out.cell 5
         have pa16 := PA1.out.cell 6
         have pb16 := PB1.out.cell 6
         clear hb)
      | (go_at_call 17; refine (OARM.out _ T3.out T4.out).mono ?_; rintro e w2 ⟨rfl, hb⟩
         have BA2 := Lib.hid (below_step BA1.out hb)
         have PA2 := Lib.hid (PA1.out.below hb PA1.out.lt)
         have PB2 := Lib.hid (PB1.out.below hb PB1.out.lt)
         have pa20 := PA2.out.cell 0
         have pb20 := PB2.out.cell 0
         have pa21 := PA2.out.cell 1
         have pb21 := PB2.out.cell 1
         have pa22 := PA2.out.cell 2
         have pb22 := PB2.out.cell 2
         have pa23 := PA2.out.cell 3
         have pb23 := PB2.out.cell 3
         have pa24 := PA2.out.cell 4
         have pb24 := PB2.out.cell 4
         have pa25 := PA2.out.cell 5
         have pb25 := PB2.out.cell 5
         have pa26 := PA2.out.cell 6
         have pb26 := PB2.out.cell 6
         clear hb))
  go_ret
  exact ⟨rfl, BA2.out⟩
end
end Go.Proofs.YtincnopaclmppaaDoor
/- bailiffkeep.Policies: of two that differ it says no. -/
namespace Go.Proofs.YtincnopaclmppaaDoor
set_option linter.unusedVariables false
open Go.RowKit Go.Sort

section
variable {w : World} {R R' : Nat → Prop}
set_option maxRecDepth 100000 in
set_option maxHeartbeats 16000000 in
theorem diff_step (d : Nat) (ih : ∀ d', d = d' + 1 → PDiff d') : PDiff d := by
  intro w R R' m p p' A1 A2 A3 A4 B1 B2 B3 B4 n1 n2 n3 n4 q1 q2 q3 q4 ak1 ak2 ak3 ak4 bk1 bk2 bk3 bk4 hid hA hB hne
  by_cases hh : p.id = p'.id ∧ p.set = p'.set ∧ p.alg = p'.alg ∧ p.tg = p'.tg ∧ p.ob = p'.ob ∧ n2 = q2 ∧ n3 = q3
  rotate_left
  · exact diff_head hid hA hB hh
  obtain ⟨e1, e2, e3, e4, e5, rfl, rfl⟩ := hh
  obtain ⟨i', s', a', t', RL, KL, o'⟩ := p'
  change p.id = i' at e1
  change p.set = s' at e2
  change p.alg = a' at e3
  change p.tg = t' at e4
  change p.ob = o' at e5
  subst e1 e2 e3 e4 e5
  replace hB : (Tg w R' B1 q1 bk1 p.tg ∧ Rus w R' B2 n2 bk2 RL ∧ Pls w R' m B3 n3 bk3 KL ∧ Dus w R' B4 q4 bk4 p.ob) := hB
  change Calls Tryd.prog 10 #[.agg #[.string p.id, .bool p.set, .int .i64 p.alg, .slice A1 n1 ak1, .slice A2 n2 ak2, .slice A3 n3 ak3, .slice A4 n4 ak4], .agg #[.string p.id, .bool p.set, .int .i64 p.alg, .slice B1 q1 bk1, .slice B2 n2 bk2, .slice B3 n3 bk3, .slice B4 q4 bk4]] w _
  obtain rfl := Rw.same_len hA.1 hB.1
  obtain rfl := Rw.same_len hA.2.2.2 hB.2.2.2
  have HNE : Hid (p ≠ .mk p.id p.set p.alg p.tg RL KL p.ob) := hne
  have HA := Lib.hid hA
  have HB := Lib.hid hB
  have BA : Hid (Below w.heap.size w ((w.alloc (.cells #[.string p.id, .bool p.set, .int .i64 p.alg, .slice A1 n1 ak1, .slice A2 n2 ak2, .slice A3 n3 ak3, .slice A4 n4 ak4] 28)).alloc (.cells #[.string p.id, .bool p.set, .int .i64 p.alg, .slice B1 n1 bk1, .slice B2 n2 bk2, .slice B3 n3 bk3, .slice B4 n4 bk4] 28))) := (((Below.refl _ _).alloc (Nat.le_refl _) _).alloc (by rw [size_al]; omega) _)
  have PA : Hid (Ob ((w.alloc (.cells #[.string p.id, .bool p.set, .int .i64 p.alg, .slice A1 n1 ak1, .slice A2 n2 ak2, .slice A3 n3 ak3, .slice A4 n4 ak4] 28)).alloc (.cells #[.string p.id, .bool p.set, .int .i64 p.alg, .slice B1 n1 bk1, .slice B2 n2 bk2, .slice B3 n3 bk3, .slice B4 n4 bk4] 28)) w.heap.size 28 #[.string p.id, .bool p.set, .int .i64 p.alg, .slice A1 n1 ak1, .slice A2 n2 ak2, .slice A3 n3 ak3, .slice A4 n4 ak4]) := (Ob.made _ _ _).keep (Below.heap_alloc _ _ _ (by rw [size_al]; omega))
  have PB : Hid (Ob ((w.alloc (.cells #[.string p.id, .bool p.set, .int .i64 p.alg, .slice A1 n1 ak1, .slice A2 n2 ak2, .slice A3 n3 ak3, .slice A4 n4 ak4] 28)).alloc (.cells #[.string p.id, .bool p.set, .int .i64 p.alg, .slice B1 n1 bk1, .slice B2 n2 bk2, .slice B3 n3 bk3, .slice B4 n4 bk4] 28)) (w.heap.size + 1) 28 #[.string p.id, .bool p.set, .int .i64 p.alg, .slice B1 n1 bk1, .slice B2 n2 bk2, .slice B3 n3 bk3, .slice B4 n4 bk4]) := Lib.hid (by have := Ob.made (w.alloc (.cells #[.string p.id, .bool p.set, .int .i64 p.alg, .slice A1 n1 ak1, .slice A2 n2 ak2, .slice A3 n3 ak3, .slice A4 n4 ak4] 28)) 28 #[.string p.id, .bool p.set, .int .i64 p.alg, .slice B1 n1 bk1, .slice B2 n2 bk2, .slice B3 n3 bk3, .slice B4 n4 bk4]; simpa using this)
  have HID := Lib.hid hid
  clear hid hA hB hne
  have T1 := Lib.hid (HA.out.1.keep (Kept.all BA.out R) (fun _ h _ => h))
  have T2 := Lib.hid (Tg.keep HB.out.1 (Kept.all BA.out R') (fun _ h _ => h))
  have hlt1 : n1 ≤ 1000000000000000 := by have := T1.out.big; omega
  go_enter Tryd.func10, Tryd.ntmps10
  have pa0 := PA.out.cell 0
  have pb0 := PB.out.cell 0
  have pa1 := PA.out.cell 1
  have pb1 := PB.out.cell 1
  have pa2 := PA.out.cell 2
  have pb2 := PB.out.cell 2
  have pa3 := PA.out.cell 3
  have pb3 := PB.out.cell 3
  have pa4 := PA.out.cell 4
  have pb4 := PB.out.cell 4
  have pa5 := PA.out.cell 5
  have pb5 := PB.out.cell 5
  have pa6 := PA.out.cell 6
  have pb6 := PB.out.cell 6
  go_wp2_with fail
  go_at_call 16
  refine (same_tgt T1.out T2.out).mono ?_
  rintro e w1 ⟨rfl, hb⟩
  have BA1 := Lib.hid (below_step BA.out hb)
  have PA1 := Lib.hid (PA.out.below hb PA.out.lt)
  have PB1 := Lib.hid (PB.out.below hb PB.out.lt)
  clear hb
  have T3 := Lib.hid (HA.out.2.2.2.keep (Kept.all BA1.out R) (fun _ h _ => h))
  have T4 := Lib.hid (Dus.keep HB.out.2.2.2 (Kept.all BA1.out R') (fun _ h _ => h))
  have pa10 := PA1.out.cell 0
  have pb10 := PB1.out.cell 0
  have pa11 := PA1.out.cell 1
  have pb11 := PB1.out.cell 1
  have pa12 := PA1.out.cell 2
  have pb12 := PB1.out.cell 2
  have pa13 := PA1.out.cell 3
  have pb13 := PB1.out.cell 3
  have pa14 := PA1.out.cell 4
  have pb14 := PB1.out.cell 4
  have pa15 := PA1.out.cell 5
  have pb15 := PB1.out.cell 5
  have pa16 := PA1.out.cell 6
  have pb16 := PB1.out.cell 6
  go_wp2_with fail
  go_at_call 17
  refine (same_dut T3.out T4.out).mono ?_
  rintro e w2 ⟨rfl, hb⟩
  have BA2 := Lib.hid (below_step BA1.out hb)
  have PA2 := Lib.hid (PA1.out.below hb PA1.out.lt)
  have PB2 := Lib.hid (PB1.out.below hb PB1.out.lt)
  clear hb BA1 PA1 PB1 BA PA PB T1 T2 T3 T4
  have hcap2 := Rw.cap HA.out.2.1
  have hcap3 := Rw.cap HA.out.2.2.1
  have hle2 := Rw.le HA.out.2.1
  have hle2' := Rw.le HB.out.2.1
  have hle3 := Rw.le HA.out.2.2.1
  have hle3' := Rw.le HB.out.2.2.1
  unfold maxLen at hcap2 hcap3
  have pa20 := PA2.out.cell 0
  have pb20 := PB2.out.cell 0
  have pa21 := PA2.out.cell 1
  have pb21 := PB2.out.cell 1
  have pa22 := PA2.out.cell 2
  have pb22 := PB2.out.cell 2
  have pa23 := PA2.out.cell 3
  have pb23 := PB2.out.cell 3
  have pa24 := PA2.out.cell 4
  have pb24 := PB2.out.cell 4
  have pa25 := PA2.out.cell 5
  have pb25 := PB2.out.cell 5
  have pa26 := PA2.out.cell 6
  have pb26 := PB2.out.cell 6
  go_wp2_with fail
  go_loopw [65] (fun i wr => ∃ k : Nat, k ≤ n2 ∧ i = .int .i64 k ∧ p.rules.take k = RL.take k ∧ Below w2.heap.size w2 wr) (fun i _ => n2 - (intOf i).toNat)
  case atStart => exact ⟨0, Nat.zero_le _, rfl, by simp, Below.refl _ _⟩
  case round =>
    obtain ⟨k, hk, rfl, htk, hb⟩ := hrel
    have HTK := Lib.hid htk
    have HBR := Lib.hid hb
    have PA3 := Lib.hid (PA2.out.below hb PA2.out.lt)
    have PB3 := Lib.hid (PB2.out.below hb PB2.out.lt)
    have BA3 := Lib.hid (below_step BA2.out hb)
    clear hb htk
    by_cases hlt : k < n2
    · obtain ⟨b, o, r, C1, m1, c1, C2, m2, c2, C3, m3, c3, rfl, _, _, hr, hid, ⟨x0, x1, x2, x3, x4⟩, ht, hn, hd⟩ := (Rus.keep HA.out.2.1 (Kept.all BA3.out R) (fun _ h _ => h)).at_ hlt
      obtain ⟨b', o', r', D1, q1, d1, D2, q2, d2, D3, q3, d3, rfl, _, _, hr', _, ⟨y0, y1, y2, y3, y4⟩, ht', hn', hd'⟩ := (Rus.keep HB.out.2.1 (Kept.all BA3.out R') (fun _ h _ => h)).at_ hlt
      have HX := Lib.hid hr
      have HY := Lib.hid hr'
      have L1 := Lib.hid ht
      have L2 := Lib.hid hn
      have L3 := Lib.hid hd
      have L1' := Lib.hid ht'
      have L2' := Lib.hid hn'
      have L3' := Lib.hid hd'
      have z4 := PA3.out.cell 4
      have z4' := PB3.out.cell 4
      have KF : Hid (∀ V : World, Below wr.heap.size wr V → V.cell? ⟨w.heap.size, 4, none⟩ = some (.slice (some ⟨b, o, none⟩) n2 ak2) ∧ V.cell? ⟨w.heap.size + 1, 4, none⟩ = some (.slice (some ⟨b', o', none⟩) n2 bk2) ∧
          V.cell? ⟨b, o + k * 5, none⟩ = some (.string r.id) ∧ V.cell? ⟨b, o + k * 5 + 1, none⟩ = some (.bool r.deny) ∧ V.cell? ⟨b, o + k * 5 + 2, none⟩ = some (.slice C1 m1 c1) ∧ V.cell? ⟨b, o + k * 5 + 3, none⟩ = some (.slice C2 m2 c2) ∧ V.cell? ⟨b, o + k * 5 + 4, none⟩ = some (.slice C3 m3 c3) ∧
          V.cell? ⟨b', o' + k * 5, none⟩ = some (.string r'.id) ∧ V.cell? ⟨b', o' + k * 5 + 1, none⟩ = some (.bool r'.deny) ∧ V.cell? ⟨b', o' + k * 5 + 2, none⟩ = some (.slice D1 q1 d1) ∧ V.cell? ⟨b', o' + k * 5 + 3, none⟩ = some (.slice D2 q2 d2) ∧ V.cell? ⟨b', o' + k * 5 + 4, none⟩ = some (.slice D3 q3 d3)) := fun V hV => by
        have e : ∀ {a : Addr} {v : Value}, wr.cell? a = some v → V.cell? a = some v := fun h => (hV.cell (block_lt_of_cell h)).trans h
        exact ⟨e z4, e z4', e x0, e x1, e x2, e x3, e x4, e y0, e y1, e y2, e y3, e y4⟩
      clear hr hr' hid ht hn hd ht' hn' hd' z4 z4' x0 x1 x2 x3 x4 y0 y1 y2 y3 y4
      go_wp2_with fail
      go_cut [6, 7] from 68 to 77 (fun u v wx => ∃ g1 g2, u = .pointer (some ⟨g1, 0, none⟩) ∧ v = .pointer (some ⟨g2, 0, none⟩) ∧ Ob wx g1 37 #[.string r.id, .bool r.deny, .slice C1 m1 c1, .slice C2 m2 c2, .slice C3 m3 c3] ∧ Ob wx g2 37 #[.string r'.id, .bool r'.deny, .slice D1 q1 d1, .slice D2 q2 d2, .slice D3 q3 d3] ∧ Below wr.heap.size wr wx)
      case first =>
        refine wp_region_held_tail (fun w' => Below wr.heap.size wr w') 13 (by kernel_rfl) (by kernel_rfl) ?_
        intro G
        change HeadW _ _ _ _ _ _ _ _ _ _ (wr.drewN 1)
        have S0 := Lib.hid (below_drewN (Below.refl wr.heap.size wr) 1)
        have LB0 : wr.heap.size ≤ (wr.drewN 1).heap.size := Nat.le_refl _
        generalize wr.drewN 1 = v0 at *
        refine HeadW_take (i := 0) (v := ?_) G rfl (by kernel_rfl) (by kernel_rfl) (by kernel_rfl) (fun _ _ _ h => h) (Or.inl ⟨by rfl, ?_⟩) S0.out ?_
        rotate_left
        · intro wz hS
          obtain ⟨z4, z4', x0, x1, x2, x3, x4, y0, y1, y2, y3, y4⟩ := KF.out _ hS
          go_simp
          try with_reducible rfl
        refine HeadW_take (i := 1) (v := ?_) G rfl (by kernel_rfl) (by kernel_rfl) (by kernel_rfl) (fun _ _ _ h => h) (Or.inl ⟨by rfl, ?_⟩) S0.out ?_
        rotate_left
        · intro wz hS
          obtain ⟨z4, z4', x0, x1, x2, x3, x4, y0, y1, y2, y3, y4⟩ := KF.out _ hS
          go_simp
          try with_reducible rfl
        refine HeadW_take (i := 2) (v := ?_) G rfl (by kernel_rfl) (by kernel_rfl) (by kernel_rfl) (fun _ _ _ h => h) (Or.inl ⟨by rfl, ?_⟩) S0.out ?_
        rotate_left
        · intro wz hS
          obtain ⟨z4, z4', x0, x1, x2, x3, x4, y0, y1, y2, y3, y4⟩ := KF.out _ hS
          go_simp
          try with_reducible rfl
        refine HeadW_take (i := 3) (v := ?_) G rfl (by kernel_rfl) (by kernel_rfl) (by kernel_rfl) (fun _ _ _ h => h) (Or.inl ⟨by rfl, ?_⟩) S0.out ?_
        rotate_left
        · intro wz hS
          obtain ⟨z4, z4', x0, x1, x2, x3, x4, y0, y1, y2, y3, y4⟩ := KF.out _ hS
          go_simp
          try with_reducible rfl
        refine HeadW_take (i := 4) (v := ?_) G rfl (by kernel_rfl) (by kernel_rfl) (by kernel_rfl) (fun _ _ _ h => h) (Or.inl ⟨by rfl, ?_⟩) S0.out ?_
        rotate_left
        · intro wz hS
          obtain ⟨z4, z4', x0, x1, x2, x3, x4, y0, y1, y2, y3, y4⟩ := KF.out _ hS
          go_simp
          try with_reducible rfl
        refine HeadW_take (i := 5) (v := ?_) G rfl (by kernel_rfl) (by kernel_rfl) (by kernel_rfl) (fun _ _ _ h => h) (Or.inl ⟨by rfl, ?_⟩) S0.out ?_
        rotate_left
        · intro wz hS
          obtain ⟨z4, z4', x0, x1, x2, x3, x4, y0, y1, y2, y3, y4⟩ := KF.out _ hS
          go_simp
          try with_reducible rfl
        refine HeadW_take (i := 6) (v := ?_) G rfl (by kernel_rfl) (by kernel_rfl) (by kernel_rfl) (fun _ _ _ h => h) (Or.inl ⟨by rfl, ?_⟩) S0.out ?_
        rotate_left
        · intro wz hS
          obtain ⟨z4, z4', x0, x1, x2, x3, x4, y0, y1, y2, y3, y4⟩ := KF.out _ hS
          go_simp
          try with_reducible rfl
        refine HeadW_take (i := 7) (v := ?_) G rfl (by kernel_rfl) (by kernel_rfl) (by kernel_rfl) (fun _ _ _ h => h) (Or.inl ⟨by rfl, ?_⟩) S0.out ?_
        rotate_left
        · intro wz hS
          obtain ⟨z4, z4', x0, x1, x2, x3, x4, y0, y1, y2, y3, y4⟩ := KF.out _ hS
          go_simp
          try with_reducible rfl
        refine HeadW_take (i := 8) (v := ?_) G rfl (by kernel_rfl) (by kernel_rfl) (by kernel_rfl) (fun _ _ _ h => h) (Or.inl ⟨by rfl, ?_⟩) S0.out ?_
        rotate_left
        · intro wz hS
          obtain ⟨z4, z4', x0, x1, x2, x3, x4, y0, y1, y2, y3, y4⟩ := KF.out _ hS
          go_simp
          try with_reducible rfl
        refine HeadW_take (i := 9) (v := ?_) G rfl (by kernel_rfl) (by kernel_rfl) (by kernel_rfl) (fun _ _ _ h => h) (Or.inl ⟨by rfl, ?_⟩) S0.out ?_
        rotate_left
        · intro wz hS
          obtain ⟨z4, z4', x0, x1, x2, x3, x4, y0, y1, y2, y3, y4⟩ := KF.out _ hS
          go_simp
          try with_reducible rfl
        refine HeadW_ready (rs := [10, 11]) (by kernel_rfl) rfl rfl ?_
        refine AllW.cons rfl (fun K hK => ?_) (AllW.cons rfl (fun K hK => ?_) AllW.nil)
        · go_simp
          have hb : Below v0.heap.size v0 (v0.alloc (.cells #[.string ⟨#[]⟩, .bool false, .slice none 0 0, .slice none 0 0, .slice none 0 0] 37)) := (Below.refl _ _).alloc (Nat.le_refl _) _
          have S1 := Lib.hid (S0.out.trans (hb.mono LB0))
          have Ea := Lib.hid (Ob.made v0 37 #[.string ⟨#[]⟩, .bool false, .slice none 0 0, .slice none 0 0, .slice none 0 0])
          have Xa : v0.heap.size < (v0.alloc (.cells #[.string ⟨#[]⟩, .bool false, .slice none 0 0, .slice none 0 0, .slice none 0 0] 37)).heap.size := by rw [size_al]; omega
          refine hK _ _ S1.out ?_
          clear hK K hb
          generalize v0.alloc (.cells #[.string ⟨#[]⟩, .bool false, .slice none 0 0, .slice none 0 0, .slice none 0 0] 37) = v1 at *
          have LB1 : wr.heap.size ≤ v1.heap.size := by omega
          refine HeadW_ready (rs := [11]) (by kernel_rfl) rfl rfl ?_
          refine AllW.cons rfl (fun K hK => ?_) AllW.nil
          go_simp
          have hb : Below v1.heap.size v1 (v1.alloc (.cells #[.string ⟨#[]⟩, .bool false, .slice none 0 0, .slice none 0 0, .slice none 0 0] 37)) := (Below.refl _ _).alloc (Nat.le_refl _) _
          have S2 := Lib.hid (S1.out.trans (hb.mono LB1))
          have E1 := Lib.hid (Ea.out.below hb Ea.out.lt)
          have E2 := Lib.hid (Ob.made v1 37 #[.string ⟨#[]⟩, .bool false, .slice none 0 0, .slice none 0 0, .slice none 0 0])
          refine hK _ _ S2.out ?_
          clear hK K hb
          generalize v1.alloc (.cells #[.string ⟨#[]⟩, .bool false, .slice none 0 0, .slice none 0 0, .slice none 0 0] 37) = v2 at *
          have sc1 := E1.out.cell 0
          have sf1 := E1.out.frozen 0
          have me1 : Hid (Ob (v2.setCell ⟨v0.heap.size, 0, none⟩ (.string r.id)) (v0.heap.size) 37 #[.string r.id, .bool false, .slice none 0 0, .slice none 0 0, .slice none 0 0]) := Lib.hid (by have := E1.out.put 0 (.string r.id); simpa using this)
          have ot1 := Lib.hid (E2.out.keep (Below.heap_setCell v2 ⟨v0.heap.size, 0, none⟩ (.string r.id) _ (by show v1.heap.size ≠ v0.heap.size; omega)))
          have bb1 := Lib.hid (S2.out.setCell (p := ⟨v0.heap.size, 0, none⟩) (by show wr.heap.size ≤ v0.heap.size; omega) (.string r.id))
          have sc2 := me1.out.cell 1
          have sf2 := me1.out.frozen 1
          have me2 : Hid (Ob ((v2.setCell ⟨v0.heap.size, 0, none⟩ (.string r.id)).setCell ⟨v0.heap.size, 1, none⟩ (.bool r.deny)) (v0.heap.size) 37 #[.string r.id, .bool r.deny, .slice none 0 0, .slice none 0 0, .slice none 0 0]) := Lib.hid (by have := me1.out.put 1 (.bool r.deny); simpa using this)
          have ot2 := Lib.hid (ot1.out.keep (Below.heap_setCell (v2.setCell ⟨v0.heap.size, 0, none⟩ (.string r.id)) ⟨v0.heap.size, 1, none⟩ (.bool r.deny) _ (by show v1.heap.size ≠ v0.heap.size; omega)))
          have bb2 := Lib.hid (bb1.out.setCell (p := ⟨v0.heap.size, 1, none⟩) (by show wr.heap.size ≤ v0.heap.size; omega) (.bool r.deny))
          have sc3 := me2.out.cell 2
          have sf3 := me2.out.frozen 2
          have me3 : Hid (Ob (((v2.setCell ⟨v0.heap.size, 0, none⟩ (.string r.id)).setCell ⟨v0.heap.size, 1, none⟩ (.bool r.deny)).setCell ⟨v0.heap.size, 2, none⟩ (.slice C1 m1 c1)) (v0.heap.size) 37 #[.string r.id, .bool r.deny, .slice C1 m1 c1, .slice none 0 0, .slice none 0 0]) := Lib.hid (by have := me2.out.put 2 (.slice C1 m1 c1); simpa using this)
          have ot3 := Lib.hid (ot2.out.keep (Below.heap_setCell ((v2.setCell ⟨v0.heap.size, 0, none⟩ (.string r.id)).setCell ⟨v0.heap.size, 1, none⟩ (.bool r.deny)) ⟨v0.heap.size, 2, none⟩ (.slice C1 m1 c1) _ (by show v1.heap.size ≠ v0.heap.size; omega)))
          have bb3 := Lib.hid (bb2.out.setCell (p := ⟨v0.heap.size, 2, none⟩) (by show wr.heap.size ≤ v0.heap.size; omega) (.slice C1 m1 c1))
          have sc4 := me3.out.cell 3
          have sf4 := me3.out.frozen 3
          have me4 : Hid (Ob ((((v2.setCell ⟨v0.heap.size, 0, none⟩ (.string r.id)).setCell ⟨v0.heap.size, 1, none⟩ (.bool r.deny)).setCell ⟨v0.heap.size, 2, none⟩ (.slice C1 m1 c1)).setCell ⟨v0.heap.size, 3, none⟩ (.slice C2 m2 c2)) (v0.heap.size) 37 #[.string r.id, .bool r.deny, .slice C1 m1 c1, .slice C2 m2 c2, .slice none 0 0]) := Lib.hid (by have := me3.out.put 3 (.slice C2 m2 c2); simpa using this)
          have ot4 := Lib.hid (ot3.out.keep (Below.heap_setCell (((v2.setCell ⟨v0.heap.size, 0, none⟩ (.string r.id)).setCell ⟨v0.heap.size, 1, none⟩ (.bool r.deny)).setCell ⟨v0.heap.size, 2, none⟩ (.slice C1 m1 c1)) ⟨v0.heap.size, 3, none⟩ (.slice C2 m2 c2) _ (by show v1.heap.size ≠ v0.heap.size; omega)))
          have bb4 := Lib.hid (bb3.out.setCell (p := ⟨v0.heap.size, 3, none⟩) (by show wr.heap.size ≤ v0.heap.size; omega) (.slice C2 m2 c2))
          have sc5 := me4.out.cell 4
          have sf5 := me4.out.frozen 4
          have me5 : Hid (Ob (((((v2.setCell ⟨v0.heap.size, 0, none⟩ (.string r.id)).setCell ⟨v0.heap.size, 1, none⟩ (.bool r.deny)).setCell ⟨v0.heap.size, 2, none⟩ (.slice C1 m1 c1)).setCell ⟨v0.heap.size, 3, none⟩ (.slice C2 m2 c2)).setCell ⟨v0.heap.size, 4, none⟩ (.slice C3 m3 c3)) (v0.heap.size) 37 #[.string r.id, .bool r.deny, .slice C1 m1 c1, .slice C2 m2 c2, .slice C3 m3 c3]) := Lib.hid (by have := me4.out.put 4 (.slice C3 m3 c3); simpa using this)
          have ot5 := Lib.hid (ot4.out.keep (Below.heap_setCell ((((v2.setCell ⟨v0.heap.size, 0, none⟩ (.string r.id)).setCell ⟨v0.heap.size, 1, none⟩ (.bool r.deny)).setCell ⟨v0.heap.size, 2, none⟩ (.slice C1 m1 c1)).setCell ⟨v0.heap.size, 3, none⟩ (.slice C2 m2 c2)) ⟨v0.heap.size, 4, none⟩ (.slice C3 m3 c3) _ (by show v1.heap.size ≠ v0.heap.size; omega)))
          have bb5 := Lib.hid (bb4.out.setCell (p := ⟨v0.heap.size, 4, none⟩) (by show wr.heap.size ≤ v0.heap.size; omega) (.slice C3 m3 c3))
          refine HeadW_ready (rs := [12]) (by kernel_rfl) rfl rfl ?_
          refine AllW.cons rfl (fun K hK => ?_) AllW.nil
          go_simp
          refine hK _ _ bb5.out ?_
          clear hK K
          intro _
          refine ⟨by kernel_rfl, ?_⟩
          simp only [List.drop_succ_cons, List.drop_zero]
          have sc6 := ot5.out.cell 0
          have sf6 := ot5.out.frozen 0
          have me6 : Hid (Ob ((((((v2.setCell ⟨v0.heap.size, 0, none⟩ (.string r.id)).setCell ⟨v0.heap.size, 1, none⟩ (.bool r.deny)).setCell ⟨v0.heap.size, 2, none⟩ (.slice C1 m1 c1)).setCell ⟨v0.heap.size, 3, none⟩ (.slice C2 m2 c2)).setCell ⟨v0.heap.size, 4, none⟩ (.slice C3 m3 c3)).setCell ⟨v1.heap.size, 0, none⟩ (.string r'.id)) (v1.heap.size) 37 #[.string r'.id, .bool false, .slice none 0 0, .slice none 0 0, .slice none 0 0]) := Lib.hid (by have := ot5.out.put 0 (.string r'.id); simpa using this)
          have ot6 := Lib.hid (me5.out.keep (Below.heap_setCell (((((v2.setCell ⟨v0.heap.size, 0, none⟩ (.string r.id)).setCell ⟨v0.heap.size, 1, none⟩ (.bool r.deny)).setCell ⟨v0.heap.size, 2, none⟩ (.slice C1 m1 c1)).setCell ⟨v0.heap.size, 3, none⟩ (.slice C2 m2 c2)).setCell ⟨v0.heap.size, 4, none⟩ (.slice C3 m3 c3)) ⟨v1.heap.size, 0, none⟩ (.string r'.id) _ (by show v0.heap.size ≠ v1.heap.size; omega)))
          have bb6 := Lib.hid (bb5.out.setCell (p := ⟨v1.heap.size, 0, none⟩) (by show wr.heap.size ≤ v1.heap.size; omega) (.string r'.id))
          have sc7 := me6.out.cell 1
          have sf7 := me6.out.frozen 1
          have me7 : Hid (Ob (((((((v2.setCell ⟨v0.heap.size, 0, none⟩ (.string r.id)).setCell ⟨v0.heap.size, 1, none⟩ (.bool r.deny)).setCell ⟨v0.heap.size, 2, none⟩ (.slice C1 m1 c1)).setCell ⟨v0.heap.size, 3, none⟩ (.slice C2 m2 c2)).setCell ⟨v0.heap.size, 4, none⟩ (.slice C3 m3 c3)).setCell ⟨v1.heap.size, 0, none⟩ (.string r'.id)).setCell ⟨v1.heap.size, 1, none⟩ (.bool r'.deny)) (v1.heap.size) 37 #[.string r'.id, .bool r'.deny, .slice none 0 0, .slice none 0 0, .slice none 0 0]) := Lib.hid (by have := me6.out.put 1 (.bool r'.deny); simpa using this)
          have ot7 := Lib.hid (ot6.out.keep (Below.heap_setCell ((((((v2.setCell ⟨v0.heap.size, 0, none⟩ (.string r.id)).setCell ⟨v0.heap.size, 1, none⟩ (.bool r.deny)).setCell ⟨v0.heap.size, 2, none⟩ (.slice C1 m1 c1)).setCell ⟨v0.heap.size, 3, none⟩ (.slice C2 m2 c2)).setCell ⟨v0.heap.size, 4, none⟩ (.slice C3 m3 c3)).setCell ⟨v1.heap.size, 0, none⟩ (.string r'.id)) ⟨v1.heap.size, 1, none⟩ (.bool r'.deny) _ (by show v0.heap.size ≠ v1.heap.size; omega)))
          have bb7 := Lib.hid (bb6.out.setCell (p := ⟨v1.heap.size, 1, none⟩) (by show wr.heap.size ≤ v1.heap.size; omega) (.bool r'.deny))
          have sc8 := me7.out.cell 2
          have sf8 := me7.out.frozen 2
          have me8 : Hid (Ob ((((((((v2.setCell ⟨v0.heap.size, 0, none⟩ (.string r.id)).setCell ⟨v0.heap.size, 1, none⟩ (.bool r.deny)).setCell ⟨v0.heap.size, 2, none⟩ (.slice C1 m1 c1)).setCell ⟨v0.heap.size, 3, none⟩ (.slice C2 m2 c2)).setCell ⟨v0.heap.size, 4, none⟩ (.slice C3 m3 c3)).setCell ⟨v1.heap.size, 0, none⟩ (.string r'.id)).setCell ⟨v1.heap.size, 1, none⟩ (.bool r'.deny)).setCell ⟨v1.heap.size, 2, none⟩ (.slice D1 q1 d1)) (v1.heap.size) 37 #[.string r'.id, .bool r'.deny, .slice D1 q1 d1, .slice none 0 0, .slice none 0 0]) := Lib.hid (by have := me7.out.put 2 (.slice D1 q1 d1); simpa using this)
          have ot8 := Lib.hid (ot7.out.keep (Below.heap_setCell (((((((v2.setCell ⟨v0.heap.size, 0, none⟩ (.string r.id)).setCell ⟨v0.heap.size, 1, none⟩ (.bool r.deny)).setCell ⟨v0.heap.size, 2, none⟩ (.slice C1 m1 c1)).setCell ⟨v0.heap.size, 3, none⟩ (.slice C2 m2 c2)).setCell ⟨v0.heap.size, 4, none⟩ (.slice C3 m3 c3)).setCell ⟨v1.heap.size, 0, none⟩ (.string r'.id)).setCell ⟨v1.heap.size, 1, none⟩ (.bool r'.deny)) ⟨v1.heap.size, 2, none⟩ (.slice D1 q1 d1) _ (by show v0.heap.size ≠ v1.heap.size; omega)))
          have bb8 := Lib.hid (bb7.out.setCell (p := ⟨v1.heap.size, 2, none⟩) (by show wr.heap.size ≤ v1.heap.size; omega) (.slice D1 q1 d1))
          have sc9 := me8.out.cell 3
          have sf9 := me8.out.frozen 3
          have me9 : Hid (Ob (((((((((v2.setCell ⟨v0.heap.size, 0, none⟩ (.string r.id)).setCell ⟨v0.heap.size, 1, none⟩ (.bool r.deny)).setCell ⟨v0.heap.size, 2, none⟩ (.slice C1 m1 c1)).setCell ⟨v0.heap.size, 3, none⟩ (.slice C2 m2 c2)).setCell ⟨v0.heap.size, 4, none⟩ (.slice C3 m3 c3)).setCell ⟨v1.heap.size, 0, none⟩ (.string r'.id)).setCell ⟨v1.heap.size, 1, none⟩ (.bool r'.deny)).setCell ⟨v1.heap.size, 2, none⟩ (.slice D1 q1 d1)).setCell ⟨v1.heap.size, 3, none⟩ (.slice D2 q2 d2)) (v1.heap.size) 37 #[.string r'.id, .bool r'.deny, .slice D1 q1 d1, .slice D2 q2 d2, .slice none 0 0]) := Lib.hid (by have := me8.out.put 3 (.slice D2 q2 d2); simpa using this)
          have ot9 := Lib.hid (ot8.out.keep (Below.heap_setCell ((((((((v2.setCell ⟨v0.heap.size, 0, none⟩ (.string r.id)).setCell ⟨v0.heap.size, 1, none⟩ (.bool r.deny)).setCell ⟨v0.heap.size, 2, none⟩ (.slice C1 m1 c1)).setCell ⟨v0.heap.size, 3, none⟩ (.slice C2 m2 c2)).setCell ⟨v0.heap.size, 4, none⟩ (.slice C3 m3 c3)).setCell ⟨v1.heap.size, 0, none⟩ (.string r'.id)).setCell ⟨v1.heap.size, 1, none⟩ (.bool r'.deny)).setCell ⟨v1.heap.size, 2, none⟩ (.slice D1 q1 d1)) ⟨v1.heap.size, 3, none⟩ (.slice D2 q2 d2) _ (by show v0.heap.size ≠ v1.heap.size; omega)))
          have bb9 := Lib.hid (bb8.out.setCell (p := ⟨v1.heap.size, 3, none⟩) (by show wr.heap.size ≤ v1.heap.size; omega) (.slice D2 q2 d2))
          have sc10 := me9.out.cell 4
          have sf10 := me9.out.frozen 4
          have me10 : Hid (Ob ((((((((((v2.setCell ⟨v0.heap.size, 0, none⟩ (.string r.id)).setCell ⟨v0.heap.size, 1, none⟩ (.bool r.deny)).setCell ⟨v0.heap.size, 2, none⟩ (.slice C1 m1 c1)).setCell ⟨v0.heap.size, 3, none⟩ (.slice C2 m2 c2)).setCell ⟨v0.heap.size, 4, none⟩ (.slice C3 m3 c3)).setCell ⟨v1.heap.size, 0, none⟩ (.string r'.id)).setCell ⟨v1.heap.size, 1, none⟩ (.bool r'.deny)).setCell ⟨v1.heap.size, 2, none⟩ (.slice D1 q1 d1)).setCell ⟨v1.heap.size, 3, none⟩ (.slice D2 q2 d2)).setCell ⟨v1.heap.size, 4, none⟩ (.slice D3 q3 d3)) (v1.heap.size) 37 #[.string r'.id, .bool r'.deny, .slice D1 q1 d1, .slice D2 q2 d2, .slice D3 q3 d3]) := Lib.hid (by have := me9.out.put 4 (.slice D3 q3 d3); simpa using this)
          have ot10 := Lib.hid (ot9.out.keep (Below.heap_setCell (((((((((v2.setCell ⟨v0.heap.size, 0, none⟩ (.string r.id)).setCell ⟨v0.heap.size, 1, none⟩ (.bool r.deny)).setCell ⟨v0.heap.size, 2, none⟩ (.slice C1 m1 c1)).setCell ⟨v0.heap.size, 3, none⟩ (.slice C2 m2 c2)).setCell ⟨v0.heap.size, 4, none⟩ (.slice C3 m3 c3)).setCell ⟨v1.heap.size, 0, none⟩ (.string r'.id)).setCell ⟨v1.heap.size, 1, none⟩ (.bool r'.deny)).setCell ⟨v1.heap.size, 2, none⟩ (.slice D1 q1 d1)).setCell ⟨v1.heap.size, 3, none⟩ (.slice D2 q2 d2)) ⟨v1.heap.size, 4, none⟩ (.slice D3 q3 d3) _ (by show v0.heap.size ≠ v1.heap.size; omega)))
          have bb10 := Lib.hid (bb9.out.setCell (p := ⟨v1.heap.size, 4, none⟩) (by show wr.heap.size ≤ v1.heap.size; omega) (.slice D3 q3 d3))
          go_wp2_with fail
          go_meet
          case rel => exact ⟨_, _, rfl, rfl, ot10.out, me10.out, bb10.out⟩
        · go_simp
          have hb : Below v0.heap.size v0 (v0.alloc (.cells #[.string ⟨#[]⟩, .bool false, .slice none 0 0, .slice none 0 0, .slice none 0 0] 37)) := (Below.refl _ _).alloc (Nat.le_refl _) _
          have S1 := Lib.hid (S0.out.trans (hb.mono LB0))
          have Ea := Lib.hid (Ob.made v0 37 #[.string ⟨#[]⟩, .bool false, .slice none 0 0, .slice none 0 0, .slice none 0 0])
          have Xa : v0.heap.size < (v0.alloc (.cells #[.string ⟨#[]⟩, .bool false, .slice none 0 0, .slice none 0 0, .slice none 0 0] 37)).heap.size := by rw [size_al]; omega
          refine hK _ _ S1.out ?_
          clear hK K hb
          generalize v0.alloc (.cells #[.string ⟨#[]⟩, .bool false, .slice none 0 0, .slice none 0 0, .slice none 0 0] 37) = v1 at *
          have LB1 : wr.heap.size ≤ v1.heap.size := by omega
          refine HeadW_ready (rs := [10]) (by kernel_rfl) rfl rfl ?_
          refine AllW.cons rfl (fun K hK => ?_) AllW.nil
          go_simp
          have hb : Below v1.heap.size v1 (v1.alloc (.cells #[.string ⟨#[]⟩, .bool false, .slice none 0 0, .slice none 0 0, .slice none 0 0] 37)) := (Below.refl _ _).alloc (Nat.le_refl _) _
          have S2 := Lib.hid (S1.out.trans (hb.mono LB1))
          have E2 := Lib.hid (Ea.out.below hb Ea.out.lt)
          have E1 := Lib.hid (Ob.made v1 37 #[.string ⟨#[]⟩, .bool false, .slice none 0 0, .slice none 0 0, .slice none 0 0])
          refine hK _ _ S2.out ?_
          clear hK K hb
          generalize v1.alloc (.cells #[.string ⟨#[]⟩, .bool false, .slice none 0 0, .slice none 0 0, .slice none 0 0] 37) = v2 at *
          have sc1 := E1.out.cell 0
          have sf1 := E1.out.frozen 0
          have me1 : Hid (Ob (v2.setCell ⟨v1.heap.size, 0, none⟩ (.string r.id)) (v1.heap.size) 37 #[.string r.id, .bool false, .slice none 0 0, .slice none 0 0, .slice none 0 0]) := Lib.hid (by have := E1.out.put 0 (.string r.id); simpa using this)
          have ot1 := Lib.hid (E2.out.keep (Below.heap_setCell v2 ⟨v1.heap.size, 0, none⟩ (.string r.id) _ (by show v0.heap.size ≠ v1.heap.size; omega)))
          have bb1 := Lib.hid (S2.out.setCell (p := ⟨v1.heap.size, 0, none⟩) (by show wr.heap.size ≤ v1.heap.size; omega) (.string r.id))
          have sc2 := me1.out.cell 1
          have sf2 := me1.out.frozen 1
          have me2 : Hid (Ob ((v2.setCell ⟨v1.heap.size, 0, none⟩ (.string r.id)).setCell ⟨v1.heap.size, 1, none⟩ (.bool r.deny)) (v1.heap.size) 37 #[.string r.id, .bool r.deny, .slice none 0 0, .slice none 0 0, .slice none 0 0]) := Lib.hid (by have := me1.out.put 1 (.bool r.deny); simpa using this)
          have ot2 := Lib.hid (ot1.out.keep (Below.heap_setCell (v2.setCell ⟨v1.heap.size, 0, none⟩ (.string r.id)) ⟨v1.heap.size, 1, none⟩ (.bool r.deny) _ (by show v0.heap.size ≠ v1.heap.size; omega)))
          have bb2 := Lib.hid (bb1.out.setCell (p := ⟨v1.heap.size, 1, none⟩) (by show wr.heap.size ≤ v1.heap.size; omega) (.bool r.deny))
          have sc3 := me2.out.cell 2
          have sf3 := me2.out.frozen 2
          have me3 : Hid (Ob (((v2.setCell ⟨v1.heap.size, 0, none⟩ (.string r.id)).setCell ⟨v1.heap.size, 1, none⟩ (.bool r.deny)).setCell ⟨v1.heap.size, 2, none⟩ (.slice C1 m1 c1)) (v1.heap.size) 37 #[.string r.id, .bool r.deny, .slice C1 m1 c1, .slice none 0 0, .slice none 0 0]) := Lib.hid (by have := me2.out.put 2 (.slice C1 m1 c1); simpa using this)
          have ot3 := Lib.hid (ot2.out.keep (Below.heap_setCell ((v2.setCell ⟨v1.heap.size, 0, none⟩ (.string r.id)).setCell ⟨v1.heap.size, 1, none⟩ (.bool r.deny)) ⟨v1.heap.size, 2, none⟩ (.slice C1 m1 c1) _ (by show v0.heap.size ≠ v1.heap.size; omega)))
          have bb3 := Lib.hid (bb2.out.setCell (p := ⟨v1.heap.size, 2, none⟩) (by show wr.heap.size ≤ v1.heap.size; omega) (.slice C1 m1 c1))
          have sc4 := me3.out.cell 3
          have sf4 := me3.out.frozen 3
          have me4 : Hid (Ob ((((v2.setCell ⟨v1.heap.size, 0, none⟩ (.string r.id)).setCell ⟨v1.heap.size, 1, none⟩ (.bool r.deny)).setCell ⟨v1.heap.size, 2, none⟩ (.slice C1 m1 c1)).setCell ⟨v1.heap.size, 3, none⟩ (.slice C2 m2 c2)) (v1.heap.size) 37 #[.string r.id, .bool r.deny, .slice C1 m1 c1, .slice C2 m2 c2, .slice none 0 0]) := Lib.hid (by have := me3.out.put 3 (.slice C2 m2 c2); simpa using this)
          have ot4 := Lib.hid (ot3.out.keep (Below.heap_setCell (((v2.setCell ⟨v1.heap.size, 0, none⟩ (.string r.id)).setCell ⟨v1.heap.size, 1, none⟩ (.bool r.deny)).setCell ⟨v1.heap.size, 2, none⟩ (.slice C1 m1 c1)) ⟨v1.heap.size, 3, none⟩ (.slice C2 m2 c2) _ (by show v0.heap.size ≠ v1.heap.size; omega)))
          have bb4 := Lib.hid (bb3.out.setCell (p := ⟨v1.heap.size, 3, none⟩) (by show wr.heap.size ≤ v1.heap.size; omega) (.slice C2 m2 c2))
          have sc5 := me4.out.cell 4
          have sf5 := me4.out.frozen 4
          have me5 : Hid (Ob (((((v2.setCell ⟨v1.heap.size, 0, none⟩ (.string r.id)).setCell ⟨v1.heap.size, 1, none⟩ (.bool r.deny)).setCell ⟨v1.heap.size, 2, none⟩ (.slice C1 m1 c1)).setCell ⟨v1.heap.size, 3, none⟩ (.slice C2 m2 c2)).setCell ⟨v1.heap.size, 4, none⟩ (.slice C3 m3 c3)) (v1.heap.size) 37 #[.string r.id, .bool r.deny, .slice C1 m1 c1, .slice C2 m2 c2, .slice C3 m3 c3]) := Lib.hid (by have := me4.out.put 4 (.slice C3 m3 c3); simpa using this)
          have ot5 := Lib.hid (ot4.out.keep (Below.heap_setCell ((((v2.setCell ⟨v1.heap.size, 0, none⟩ (.string r.id)).setCell ⟨v1.heap.size, 1, none⟩ (.bool r.deny)).setCell ⟨v1.heap.size, 2, none⟩ (.slice C1 m1 c1)).setCell ⟨v1.heap.size, 3, none⟩ (.slice C2 m2 c2)) ⟨v1.heap.size, 4, none⟩ (.slice C3 m3 c3) _ (by show v0.heap.size ≠ v1.heap.size; omega)))
          have bb5 := Lib.hid (bb4.out.setCell (p := ⟨v1.heap.size, 4, none⟩) (by show wr.heap.size ≤ v1.heap.size; omega) (.slice C3 m3 c3))
          refine HeadW_ready (rs := [12]) (by kernel_rfl) rfl rfl ?_
          refine AllW.cons rfl (fun K hK => ?_) AllW.nil
          go_simp
          refine hK _ _ bb5.out ?_
          clear hK K
          intro _
          refine ⟨by kernel_rfl, ?_⟩
          simp only [List.drop_succ_cons, List.drop_zero]
          have sc6 := ot5.out.cell 0
          have sf6 := ot5.out.frozen 0
          have me6 : Hid (Ob ((((((v2.setCell ⟨v1.heap.size, 0, none⟩ (.string r.id)).setCell ⟨v1.heap.size, 1, none⟩ (.bool r.deny)).setCell ⟨v1.heap.size, 2, none⟩ (.slice C1 m1 c1)).setCell ⟨v1.heap.size, 3, none⟩ (.slice C2 m2 c2)).setCell ⟨v1.heap.size, 4, none⟩ (.slice C3 m3 c3)).setCell ⟨v0.heap.size, 0, none⟩ (.string r'.id)) (v0.heap.size) 37 #[.string r'.id, .bool false, .slice none 0 0, .slice none 0 0, .slice none 0 0]) := Lib.hid (by have := ot5.out.put 0 (.string r'.id); simpa using this)
          have ot6 := Lib.hid (me5.out.keep (Below.heap_setCell (((((v2.setCell ⟨v1.heap.size, 0, none⟩ (.string r.id)).setCell ⟨v1.heap.size, 1, none⟩ (.bool r.deny)).setCell ⟨v1.heap.size, 2, none⟩ (.slice C1 m1 c1)).setCell ⟨v1.heap.size, 3, none⟩ (.slice C2 m2 c2)).setCell ⟨v1.heap.size, 4, none⟩ (.slice C3 m3 c3)) ⟨v0.heap.size, 0, none⟩ (.string r'.id) _ (by show v1.heap.size ≠ v0.heap.size; omega)))
          have bb6 := Lib.hid (bb5.out.setCell (p := ⟨v0.heap.size, 0, none⟩) (by show wr.heap.size ≤ v0.heap.size; omega) (.string r'.id))
          have sc7 := me6.out.cell 1
          have sf7 := me6.out.frozen 1
          have me7 : Hid (Ob (((((((v2.setCell ⟨v1.heap.size, 0, none⟩ (.string r.id)).setCell ⟨v1.heap.size, 1, none⟩ (.bool r.deny)).setCell ⟨v1.heap.size, 2, none⟩ (.slice C1 m1 c1)).setCell ⟨v1.heap.size, 3, none⟩ (.slice C2 m2 c2)).setCell ⟨v1.heap.size, 4, none⟩ (.slice C3 m3 c3)).setCell ⟨v0.heap.size, 0, none⟩ (.string r'.id)).setCell ⟨v0.heap.size, 1, none⟩ (.bool r'.deny)) (v0.heap.size) 37 #[.string r'.id, .bool r'.deny, .slice none 0 0, .slice none 0 0, .slice none 0 0]) := Lib.hid (by have := me6.out.put 1 (.bool r'.deny); simpa using this)
          have ot7 := Lib.hid (ot6.out.keep (Below.heap_setCell ((((((v2.setCell ⟨v1.heap.size, 0, none⟩ (.string r.id)).setCell ⟨v1.heap.size, 1, none⟩ (.bool r.deny)).setCell ⟨v1.heap.size, 2, none⟩ (.slice C1 m1 c1)).setCell ⟨v1.heap.size, 3, none⟩ (.slice C2 m2 c2)).setCell ⟨v1.heap.size, 4, none⟩ (.slice C3 m3 c3)).setCell ⟨v0.heap.size, 0, none⟩ (.string r'.id)) ⟨v0.heap.size, 1, none⟩ (.bool r'.deny) _ (by show v1.heap.size ≠ v0.heap.size; omega)))
          have bb7 := Lib.hid (bb6.out.setCell (p := ⟨v0.heap.size, 1, none⟩) (by show wr.heap.size ≤ v0.heap.size; omega) (.bool r'.deny))
          have sc8 := me7.out.cell 2
          have sf8 := me7.out.frozen 2
          have me8 : Hid (Ob ((((((((v2.setCell ⟨v1.heap.size, 0, none⟩ (.string r.id)).setCell ⟨v1.heap.size, 1, none⟩ (.bool r.deny)).setCell ⟨v1.heap.size, 2, none⟩ (.slice C1 m1 c1)).setCell ⟨v1.heap.size, 3, none⟩ (.slice C2 m2 c2)).setCell ⟨v1.heap.size, 4, none⟩ (.slice C3 m3 c3)).setCell ⟨v0.heap.size, 0, none⟩ (.string r'.id)).setCell ⟨v0.heap.size, 1, none⟩ (.bool r'.deny)).setCell ⟨v0.heap.size, 2, none⟩ (.slice D1 q1 d1)) (v0.heap.size) 37 #[.string r'.id, .bool r'.deny, .slice D1 q1 d1, .slice none 0 0, .slice none 0 0]) := Lib.hid (by have := me7.out.put 2 (.slice D1 q1 d1); simpa using this)
          have ot8 := Lib.hid (ot7.out.keep (Below.heap_setCell (((((((v2.setCell ⟨v1.heap.size, 0, none⟩ (.string r.id)).setCell ⟨v1.heap.size, 1, none⟩ (.bool r.deny)).setCell ⟨v1.heap.size, 2, none⟩ (.slice C1 m1 c1)).setCell ⟨v1.heap.size, 3, none⟩ (.slice C2 m2 c2)).setCell ⟨v1.heap.size, 4, none⟩ (.slice C3 m3 c3)).setCell ⟨v0.heap.size, 0, none⟩ (.string r'.id)).setCell ⟨v0.heap.size, 1, none⟩ (.bool r'.deny)) ⟨v0.heap.size, 2, none⟩ (.slice D1 q1 d1) _ (by show v1.heap.size ≠ v0.heap.size; omega)))
          have bb8 := Lib.hid (bb7.out.setCell (p := ⟨v0.heap.size, 2, none⟩) (by show wr.heap.size ≤ v0.heap.size; omega) (.slice D1 q1 d1))
          have sc9 := me8.out.cell 3
          have sf9 := me8.out.frozen 3
          have me9 : Hid (Ob (((((((((v2.setCell ⟨v1.heap.size, 0, none⟩ (.string r.id)).setCell ⟨v1.heap.size, 1, none⟩ (.bool r.deny)).setCell ⟨v1.heap.size, 2, none⟩ (.slice C1 m1 c1)).setCell ⟨v1.heap.size, 3, none⟩ (.slice C2 m2 c2)).setCell ⟨v1.heap.size, 4, none⟩ (.slice C3 m3 c3)).setCell ⟨v0.heap.size, 0, none⟩ (.string r'.id)).setCell ⟨v0.heap.size, 1, none⟩ (.bool r'.deny)).setCell ⟨v0.heap.size, 2, none⟩ (.slice D1 q1 d1)).setCell ⟨v0.heap.size, 3, none⟩ (.slice D2 q2 d2)) (v0.heap.size) 37 #[.string r'.id, .bool r'.deny, .slice D1 q1 d1, .slice D2 q2 d2, .slice none 0 0]) := Lib.hid (by have := me8.out.put 3 (.slice D2 q2 d2); simpa using this)
          have ot9 := Lib.hid (ot8.out.keep (Below.heap_setCell ((((((((v2.setCell ⟨v1.heap.size, 0, none⟩ (.string r.id)).setCell ⟨v1.heap.size, 1, none⟩ (.bool r.deny)).setCell ⟨v1.heap.size, 2, none⟩ (.slice C1 m1 c1)).setCell ⟨v1.heap.size, 3, none⟩ (.slice C2 m2 c2)).setCell ⟨v1.heap.size, 4, none⟩ (.slice C3 m3 c3)).setCell ⟨v0.heap.size, 0, none⟩ (.string r'.id)).setCell ⟨v0.heap.size, 1, none⟩ (.bool r'.deny)).setCell ⟨v0.heap.size, 2, none⟩ (.slice D1 q1 d1)) ⟨v0.heap.size, 3, none⟩ (.slice D2 q2 d2) _ (by show v1.heap.size ≠ v0.heap.size; omega)))
          have bb9 := Lib.hid (bb8.out.setCell (p := ⟨v0.heap.size, 3, none⟩) (by show wr.heap.size ≤ v0.heap.size; omega) (.slice D2 q2 d2))
          have sc10 := me9.out.cell 4
          have sf10 := me9.out.frozen 4
          have me10 : Hid (Ob ((((((((((v2.setCell ⟨v1.heap.size, 0, none⟩ (.string r.id)).setCell ⟨v1.heap.size, 1, none⟩ (.bool r.deny)).setCell ⟨v1.heap.size, 2, none⟩ (.slice C1 m1 c1)).setCell ⟨v1.heap.size, 3, none⟩ (.slice C2 m2 c2)).setCell ⟨v1.heap.size, 4, none⟩ (.slice C3 m3 c3)).setCell ⟨v0.heap.size, 0, none⟩ (.string r'.id)).setCell ⟨v0.heap.size, 1, none⟩ (.bool r'.deny)).setCell ⟨v0.heap.size, 2, none⟩ (.slice D1 q1 d1)).setCell ⟨v0.heap.size, 3, none⟩ (.slice D2 q2 d2)).setCell ⟨v0.heap.size, 4, none⟩ (.slice D3 q3 d3)) (v0.heap.size) 37 #[.string r'.id, .bool r'.deny, .slice D1 q1 d1, .slice D2 q2 d2, .slice D3 q3 d3]) := Lib.hid (by have := me9.out.put 4 (.slice D3 q3 d3); simpa using this)
          have ot10 := Lib.hid (ot9.out.keep (Below.heap_setCell (((((((((v2.setCell ⟨v1.heap.size, 0, none⟩ (.string r.id)).setCell ⟨v1.heap.size, 1, none⟩ (.bool r.deny)).setCell ⟨v1.heap.size, 2, none⟩ (.slice C1 m1 c1)).setCell ⟨v1.heap.size, 3, none⟩ (.slice C2 m2 c2)).setCell ⟨v1.heap.size, 4, none⟩ (.slice C3 m3 c3)).setCell ⟨v0.heap.size, 0, none⟩ (.string r'.id)).setCell ⟨v0.heap.size, 1, none⟩ (.bool r'.deny)).setCell ⟨v0.heap.size, 2, none⟩ (.slice D1 q1 d1)).setCell ⟨v0.heap.size, 3, none⟩ (.slice D2 q2 d2)) ⟨v0.heap.size, 4, none⟩ (.slice D3 q3 d3) _ (by show v1.heap.size ≠ v0.heap.size; omega)))
          have bb10 := Lib.hid (bb9.out.setCell (p := ⟨v0.heap.size, 4, none⟩) (by show wr.heap.size ≤ v0.heap.size; omega) (.slice D3 q3 d3))
          go_wp2_with fail
          go_meet
          case rel => exact ⟨_, _, rfl, rfl, ot10.out, me10.out, bb10.out⟩
      case rest =>
        obtain ⟨g1, g2, rfl, rfl, o1, o2, hb⟩ := hcut
        have BA4 := Lib.hid (below_step BA3.out hb)
        have HB4 := Lib.hid (below_step HBR.out hb)
        have M1 := Lib.hid (L1.out.keep (Kept.all hb R) (fun _ h _ => h))
        have M1' := Lib.hid (L1'.out.keep (Kept.all hb R') (fun _ h _ => h))
        have M2 := Lib.hid (L2.out.keep (Kept.all hb R) (fun _ h _ => h))
        have M2' := Lib.hid (L2'.out.keep (Kept.all hb R') (fun _ h _ => h))
        have M3 := Lib.hid (L3.out.keep (Kept.all hb R) (fun _ h _ => h))
        have M3' := Lib.hid (L3'.out.keep (Kept.all hb R') (fun _ h _ => h))
        have P1 := Lib.hid o1
        have P2 := Lib.hid o2
        clear hb o1 o2 L1 L2 L3 L1' L2' L3' KF BA3 HBR
        have ra00 := P1.out.cell 0
        have rb00 := P2.out.cell 0
        have ra01 := P1.out.cell 1
        have rb01 := P2.out.cell 1
        have ra02 := P1.out.cell 2
        have rb02 := P2.out.cell 2
        have ra03 := P1.out.cell 3
        have rb03 := P2.out.cell 3
        have ra04 := P1.out.cell 4
        have rb04 := P2.out.cell 4
        by_cases dd1 : r.id = r'.id
        rotate_left
        · have hx := text_ne dd1
          have hx2 : (r.id.toList == r'.id.toList) = false := by rw [bne_iff_ne] at hx; rw [beq_eq_false_iff_ne]; exact hx
          clear dd1
          go_wp2_with fail
          go_ret
          exact ⟨rfl, BA4.out⟩
        have E1 := Lib.hid dd1
        have e1l : (r.id.toList == r'.id.toList) = true := by rw [dd1]; simp
        clear dd1
        by_cases dd2 : r.deny = r'.deny
        rotate_left
        · have hx : (r.deny == r'.deny) = false := by rw [beq_eq_false_iff_ne]; exact dd2
          have hx2 : (r.deny != r'.deny) = true := by rw [bne_iff_ne]; exact dd2
          clear dd2
          go_wp2_with fail
          go_ret
          exact ⟨rfl, BA4.out⟩
        have E2 := Lib.hid dd2
        have e2l : (r.deny == r'.deny) = true := by rw [dd2]; simp
        have e2n : (r.deny != r'.deny) = false := by rw [dd2]; simp
        clear dd2
        by_cases dd3 : r.tg = r'.tg
        rotate_left
        · have CT := Lib.hid (diff_tgt M1.out M1'.out dd3)
          clear dd3
          go_wp2_with (go_at_call 16; refine CT.out.mono ?_; rintro e u1 ⟨rfl, hb⟩; have BA5 := Lib.hid (below_step BA4.out hb); clear hb)
          go_ret
          exact ⟨rfl, BA5.out⟩
        have E3 := Lib.hid dd3
        have m1' := M1'.out
        rw [← dd3] at m1'
        obtain rfl := Rw.same_len M1.out m1'
        have CT := Lib.hid (same_tgt M1.out m1')
        clear dd3 m1'
        go_wp2_with fail
        go_at_call 16
        refine CT.out.mono ?_
        rintro e u1 ⟨rfl, hb⟩
        have BA5 := Lib.hid (below_step BA4.out hb)
        have HB5 := Lib.hid (below_step HB4.out hb)
        have N2 := Lib.hid (M2.out.keep (Kept.all hb R) (fun _ h _ => h))
        have N2' := Lib.hid (M2'.out.keep (Kept.all hb R') (fun _ h _ => h))
        have N3 := Lib.hid (M3.out.keep (Kept.all hb R) (fun _ h _ => h))
        have N3' := Lib.hid (M3'.out.keep (Kept.all hb R') (fun _ h _ => h))
        have P3 := Lib.hid (P1.out.below hb P1.out.lt)
        have P4 := Lib.hid (P2.out.below hb P2.out.lt)
        clear hb M1 M1' M2 M2' M3 M3' P1 P2 BA4 HB4 CT
        have ra10 := P3.out.cell 0
        have rb10 := P4.out.cell 0
        have ra11 := P3.out.cell 1
        have rb11 := P4.out.cell 1
        have ra12 := P3.out.cell 2
        have rb12 := P4.out.cell 2
        have ra13 := P3.out.cell 3
        have rb13 := P4.out.cell 3
        have ra14 := P3.out.cell 4
        have rb14 := P4.out.cell 4
        by_cases dd4 : r.cond = r'.cond
        rotate_left
        · have CT := Lib.hid (diff_nod N2.out N2'.out dd4)
          clear dd4
          go_wp2_with (go_at_call 18; refine CT.out.mono ?_; rintro e u2 ⟨rfl, hb⟩; have BA6 := Lib.hid (below_step BA5.out hb); clear hb)
          go_ret
          exact ⟨rfl, BA6.out⟩
        have E4 := Lib.hid dd4
        have n2' := N2'.out
        rw [← dd4] at n2'
        obtain rfl := Rw.same_len N2.out n2'
        have CT := Lib.hid (same_nod N2.out n2')
        clear dd4 n2'
        go_wp2_with fail
        go_at_call 18
        refine CT.out.mono ?_
        rintro e u2 ⟨rfl, hb⟩
        have BA6 := Lib.hid (below_step BA5.out hb)
        have HB6 := Lib.hid (below_step HB5.out hb)
        have K3 := Lib.hid (N3.out.keep (Kept.all hb R) (fun _ h _ => h))
        have K3' := Lib.hid (N3'.out.keep (Kept.all hb R') (fun _ h _ => h))
        have P5 := Lib.hid (P3.out.below hb P3.out.lt)
        have P6 := Lib.hid (P4.out.below hb P4.out.lt)
        clear hb N2 N2' N3 N3' P3 P4 BA5 HB5 CT
        have ra20 := P5.out.cell 0
        have rb20 := P6.out.cell 0
        have ra21 := P5.out.cell 1
        have rb21 := P6.out.cell 1
        have ra22 := P5.out.cell 2
        have rb22 := P6.out.cell 2
        have ra23 := P5.out.cell 3
        have rb23 := P6.out.cell 3
        have ra24 := P5.out.cell 4
        have rb24 := P6.out.cell 4
        by_cases dd5 : r.ob = r'.ob
        rotate_left
        · have CT := Lib.hid (diff_dut K3.out K3'.out dd5)
          clear dd5
          go_wp2_with (go_at_call 17; refine CT.out.mono ?_; rintro e u3 ⟨rfl, hb⟩; have BA7 := Lib.hid (below_step BA6.out hb); clear hb)
          go_ret
          exact ⟨rfl, BA7.out⟩
        have E5 := Lib.hid dd5
        have k3' := K3'.out
        rw [← dd5] at k3'
        obtain rfl := Rw.same_len K3.out k3'
        have CT := Lib.hid (same_dut K3.out k3')
        clear dd5 k3'
        go_wp2_with fail
        go_at_call 17
        refine CT.out.mono ?_
        rintro e u3 ⟨rfl, hb⟩
        have HB7 := Lib.hid (below_step HB6.out hb)
        clear hb K3 K3' P5 P6 BA6 HB6 CT
        go_wp2_with fail
        go_roundw
        case rel => exact ⟨k + 1, by omega, by go_num, take_more HX.out (by rw [Rul.ext5 E1.out E2.out E3.out E4.out E5.out]; exact HY.out) HTK.out, HB7.out⟩
        case measure => simp [intOf]; omega
    · obtain rfl : k = n2 := by omega
      have HRE := Lib.hid (take_whole HA.out.2.1.len (Rw.len HB.out.2.1) HTK.out)
      have z5 := PA3.out.cell 5
      have z5' := PB3.out.cell 5
      have HSW : Hid (w.heap.size + 1 < wr.heap.size) := PB3.out.lt
      go_wp2_with fail
      obtain ⟨wo, hwo⟩ : ∃ wo, wo = wr := ⟨wr, rfl⟩
      subst hwo
      go_loopw [118] (fun i wq => ∃ j : Nat, j ≤ n3 ∧ i = .int .i64 j ∧ p.kids.take j = KL.take j ∧ Below wo.heap.size wo wq) (fun i _ => n3 - (intOf i).toNat)
      case atStart => exact ⟨0, Nat.zero_le _, rfl, by simp, Below.refl _ _⟩
      case round =>
        obtain ⟨j, hj, rfl, htj, hb⟩ := hrel
        have HTJ := Lib.hid htj
        have BA4 := Lib.hid (below_step BA3.out hb)
        have HBJ := Lib.hid hb
        have PA4 := Lib.hid (PA3.out.below hb PA3.out.lt)
        have PB4 := Lib.hid (PB3.out.below hb PB3.out.lt)
        clear hb htj
        by_cases hlt : j < n3
        · obtain ⟨b, o, q, e, C1, m1, c1, C2, m2, c2, C3, m3, c3, C4, m4, c4, rfl, _, _, hq, hd, ⟨hid, halg⟩, ⟨x0, x1, x2, x3, x4, x5, x6⟩, ht, hn, hp, hdu⟩ := (Pls.keep HA.out.2.2.1 (Kept.all BA4.out R) (fun _ h _ => h)).at_ hlt
          obtain ⟨b', o', q', e', D1, q1, d1, D2, q2, d2, D3, q3, d3, D4, q4, d4, rfl, _, _, hq', hd', _, ⟨y0, y1, y2, y3, y4, y5, y6⟩, ht', hn', hp', hdu'⟩ := (Pls.keep HB.out.2.2.1 (Kept.all BA4.out R') (fun _ h _ => h)).at_ hlt
          have HX := Lib.hid hq
          have HY := Lib.hid hq'
          have z6 := PA4.out.cell 5
          have z6' := PB4.out.cell 5
          have v6 := fun d os => cell_regrown z6 d os
          have v6' := fun d os => cell_regrown z6' d os
          have xx0 := fun d os => cell_regrown x0 d os
          have yy0 := fun d os => cell_regrown y0 d os
          have xx1 := fun d os => cell_regrown x1 d os
          have yy1 := fun d os => cell_regrown y1 d os
          have xx2 := fun d os => cell_regrown x2 d os
          have yy2 := fun d os => cell_regrown y2 d os
          have xx3 := fun d os => cell_regrown x3 d os
          have yy3 := fun d os => cell_regrown y3 d os
          have xx4 := fun d os => cell_regrown x4 d os
          have yy4 := fun d os => cell_regrown y4 d os
          have xx5 := fun d os => cell_regrown x5 d os
          have yy5 := fun d os => cell_regrown y5 d os
          have xx6 := fun d os => cell_regrown x6 d os
          have yy6 := fun d os => cell_regrown y6 d os
          by_cases hqq : q = q'
          · subst hqq
            obtain rfl := Rw.same_len ht ht'
            obtain rfl := Rw.same_len hn hn'
            obtain rfl := Rw.same_len hp hp'
            obtain rfl := Rw.same_len hdu hdu'
            have Q1 : Hid (∀ d os, Calls Tryd.prog 10 #[.agg #[.string q.id, .bool q.set, .int .i64 q.alg, .slice C1 m1 c1, .slice C2 m2 c2, .slice C3 m3 c3, .slice C4 m4 c4], .agg #[.string q.id, .bool q.set, .int .i64 q.alg, .slice D1 m1 d1, .slice D2 m2 d2, .slice D3 m3 d3, .slice D4 m4 d4]] (grow (redrawn wr d) os) fun e w'' => e = .returned (.bool true) ∧ ∃ p : Regrown, w'' = grow (redrawn wr p.d) p.os) := by
              have h1 := Lib.hid ht; have h2 := Lib.hid hn; have h3 := Lib.hid hp; have h4 := Lib.hid hdu
              have k1 := Lib.hid ht'; have k2 := Lib.hid hn'; have k3 := Lib.hid hp'; have k4 := Lib.hid hdu'
              exact same_q (same_all e) hid ⟨h1.out, h2.out, h3.out, h4.out⟩ ⟨k1.out, k2.out, k3.out, k4.out⟩
            clear hq hq' hd hd' hid halg ht hn hp hdu ht' hn' hp' hdu' z5 z5' z6 z6' x0 x1 x2 x3 x4 x5 x6 y0 y1 y2 y3 y4 y5 y6
            go_wp2_with fail
            refine wp_region_quiet_below (by kernel_rfl) (by kernel_rfl) ?_
            repeat (go_big_quiet_step ((go_at_call 10; exact Q1.out _ _)))
            refine wpQuiet_nil ?_
            intro _ hw'
            obtain ⟨⟨dq, osq⟩, hw''⟩ := hw'
            subst hw''
            have BQ2 := Lib.hid (below_regrown wr dq osq)
            clear v6 v6' Q1 xx0 yy0 xx1 yy1 xx2 yy2 xx3 yy3 xx4 yy4 xx5 yy5 xx6 yy6
            generalize grow (redrawn wr dq) osq = w5 at *
            go_wp2_with fail
            go_roundw
            case rel => exact ⟨j + 1, by omega, by go_num, take_more HX.out HY.out HTJ.out, HBJ.out.trans (BQ2.out.mono HBJ.out.size)⟩
            case measure => simp [intOf]; omega
          · have Q1 : Hid (∀ d os, Calls Tryd.prog 10 #[.agg #[.string q.id, .bool q.set, .int .i64 q.alg, .slice C1 m1 c1, .slice C2 m2 c2, .slice C3 m3 c3, .slice C4 m4 c4], .agg #[.string q'.id, .bool q'.set, .int .i64 q'.alg, .slice D1 q1 d1, .slice D2 q2 d2, .slice D3 q3 d3, .slice D4 q4 d4]] (grow (redrawn wr d) os) fun e w'' => e = .returned (.bool false) ∧ ∃ p : Regrown, w'' = grow (redrawn wr p.d) p.os) := by
              have h1 := Lib.hid ht; have h2 := Lib.hid hn; have h3 := Lib.hid hp; have h4 := Lib.hid hdu
              have k1 := Lib.hid ht'; have k2 := Lib.hid hn'; have k3 := Lib.hid hp'; have k4 := Lib.hid hdu'
              exact diff_q (@ih e hd) hid ⟨h1.out, h2.out, h3.out, h4.out⟩ ⟨k1.out, k2.out, k3.out, k4.out⟩ hqq
            clear hq hq' hd hd' hid halg ht hn hp hdu ht' hn' hp' hdu' z5 z5' z6 z6' x0 x1 x2 x3 x4 x5 x6 y0 y1 y2 y3 y4 y5 y6 hqq
            go_wp2_with fail
            refine wp_region_quiet_below (by kernel_rfl) (by kernel_rfl) ?_
            repeat (go_big_quiet_step ((go_at_call 10; exact Q1.out _ _)))
            refine wpQuiet_nil ?_
            intro _ hw'
            obtain ⟨⟨dq, osq⟩, hw''⟩ := hw'
            subst hw''
            have BQ2 := Lib.hid (below_regrown wr dq osq)
            clear v6 v6' Q1 xx0 yy0 xx1 yy1 xx2 yy2 xx3 yy3 xx4 yy4 xx5 yy5 xx6 yy6
            generalize grow (redrawn wr dq) osq = w5 at *
            go_wp2_with fail
            go_ret
            exact ⟨rfl, BA4.out.trans (BQ2.out.mono BA4.out.size)⟩
        · obtain rfl : j = n3 := by omega
          have HKE := Lib.hid (take_whole HA.out.2.2.1.len (Rw.len HB.out.2.2.1) HTJ.out)
          exact absurd (Pol.ext5 (p := p) (p' := .mk p.id p.set p.alg p.tg RL KL p.ob) rfl rfl rfl rfl HRE.out HKE.out rfl) HNE.out
theorem diff_all : ∀ d, PDiff d
  | 0 => diff_step 0 (fun d' e => by omega)
  | d + 1 => diff_step (d + 1) (fun d' e => by obtain rfl : d = d' := by omega
                                               exact diff_all d)
end
end Go.Proofs.YtincnopaclmppaaDoor
/- What the rows' condition gives the walks: the library's table of powers of ten; and strconv's two contracts under it. -/
namespace Go.Proofs.YtincnopaclmppaaDoor
open Go.RowKit

def Tab (w : World) : Prop := Lib.TabIs Tryd.prog w "internal/strconv.uint64pow10" .u64 Lib.pow10Tab
theorem Tab.then_ {w w' : World} (h : Tab w) (hb : Below w.heap.size w w') : Tab w' := Lib.tabBelow_of_tabIs h w' hb
theorem Tab.drewN {w : World} (h : Tab w) (k : Nat) : Tab (w.drewN k) := h

/-- Blocks and draws alone. -/
theorem below_grow (w : World) (k : Nat) (os : Array Obj) : Below w.heap.size w (Sort.grow (w.drewN k) os) := by
  refine ⟨rfl, rfl, rfl, ?_, fun i hi => ?_⟩
  · simp [Sort.grow, World.drewN]
  · simp only [Sort.grow, World.drewN]
    rw [Array.getElem?_append_left hi]

theorem itoa_any {w : World} (h : Tab w) (n : Int) (h0 : -9223372036854775808 ≤ n) (h1 : n ≤ 9223372036854775807) :
    Calls Tryd.prog 76 #[.int .i64 n] w fun e w' => e = .returned (.string ⟨(Lib.itoa n).toArray⟩) ∧ Below w.heap.size w w' :=
  (Tryd.strconv_Itoa n h0 h1 w h).mono fun _ _ hh => ⟨hh.1, by obtain ⟨k, os, rfl⟩ := hh.2; exact below_grow w k os⟩
end Go.Proofs.YtincnopaclmppaaDoor
/- Policies as text, plainly (chapter 10). -/
namespace Go.Proofs.YtincnopaclmppaaDoor
set_option linter.unusedVariables false

def catW (n : Int) : List UInt8 := if n = 1 then [115, 117, 98, 106, 101, 99, 116] else if n = 2 then [97, 99, 116, 105, 111, 110] else if n = 3 then [99, 97, 115, 101] else [101, 110, 118]
def algW (n : Int) : List UInt8 := if n = 1 then [100, 101, 110, 121, 111, 118, 101, 114] else if n = 2 then [112, 101, 114, 109, 105, 116, 111, 118, 101, 114] else if n = 3 then [102, 105, 114, 115, 116] else if n = 4 then [111, 110, 108, 121] else if n = 5 then [100, 101, 110, 121, 117, 110, 108, 101, 115, 115] else [112, 101, 114, 109, 105, 116, 117, 110, 108, 101, 115, 115]
def fnW (n : Int) : List UInt8 := if n = 3 then [111, 110, 101] else if n = 4 then [115, 105, 122, 101] else if n = 5 then [104, 97, 115] else if n = 6 then [101, 113] else if n = 7 then [108, 101, 115, 115] else if n = 8 then [97, 100, 100] else if n = 9 then [115, 117, 98] else if n = 10 then [109, 117, 108] else if n = 11 then [110, 111, 116] else if n = 12 then [97, 110, 100] else [111, 114]
def doW (n : Int) : List UInt8 := if n = 1 then [108, 111, 103] else if n = 2 then [114, 101, 100, 97, 99, 116] else if n = 3 then [114, 101, 118, 105, 101, 119] else [110, 111, 116, 105, 102, 121]
def cmpW (n : Int) : List UInt8 := if n = 1 then [61] else if n = 2 then [60] else [62]
def effW (deny : Bool) : List UInt8 := if deny = true then [100, 101, 110, 121] else [112, 101, 114, 109, 105, 116]
/-- P10.1, of a right one. -/
def attrT (a : Atr) : List UInt8 := catW a.cat ++ 46 :: (bl a.name ++ if a.must = true then [33] else [])
def attrS (a : Atr) : List UInt8 := if attrB a = true then attrT a else []
/-- How many parts a node is of. -/
def takesN (op : Int) : Nat := if op = 1 ∨ op = 2 then 0 else if op = 3 ∨ op = 4 ∨ op = 11 then 1 else 2
/-- A node's text, of what it is of. -/
def nodeT (n : Nod) (parts : List (List UInt8)) : List UInt8 :=
  if n.op = 1 then showB n.v else if n.op = 2 then attrS n.a else 40 :: (fnW n.op ++ 32 :: (Lib.join parts [32] ++ [41]))
/-- P10.2: the stack of texts, the first one first. -/
def stepT (st : List (List UInt8)) (n : Nod) : List (List UInt8) := st.take (st.length - takesN n.op) ++ [nodeT n (st.drop (st.length - takesN n.op))]
def stackT (l : List Nod) : List (List UInt8) := l.foldl stepT []
def exprT (l : List Nod) : List UInt8 := (stackT l).headD []
def exprS (l : List Nod) : List UInt8 := if l ≠ [] ∧ exprE l = 0 then exprT l else []
def matT (m : Mat) : List UInt8 := attrS m.a ++ 32 :: (cmpW m.op ++ 32 :: showB m.v)
def allT (l : List Mat) : List UInt8 := Lib.join (l.map matT) [44, 32]
def anyT (l : List (List Mat)) : List UInt8 := 40 :: (Lib.join (l.map allT) [32, 111, 114, 32] ++ [41])
def tgT (t : Tgt) : List UInt8 := Lib.join (t.map anyT) [32, 97, 110, 100, 32]
def tgW (t : Tgt) : List (List UInt8) := if t = [] then [] else [[119, 104, 101, 110], tgT t]
def dutT (o : Dut) : List UInt8 := [111, 110, 32] ++ (effW (decide (o.on = 2)) ++ 32 :: (doW o.kind ++ 32 :: bl o.arg))
def condW (l : List Nod) : List (List UInt8) := if l = [] then [] else [[105, 102], exprS l]
def rulW (r : Rul) : List (List UInt8) := effW r.deny :: bl r.id :: (tgW r.tg ++ condW r.cond ++ r.ob.map dutT)
def rulT (r : Rul) : List UInt8 := Lib.join (rulW r) [32] ++ [59]
def headW (p : Pol) : List UInt8 := if p.set = true then [115, 101, 116] else [112, 111, 108, 105, 99, 121]
/-- The words of a policy, of no more than so many depths. -/
def polW : Nat → Pol → List (List UInt8)
  | 0, _ => []
  | d + 1, p => headW p :: bl p.id :: algW p.alg :: (tgW p.tg ++ [[123]] ++ p.rules.map rulT ++ (p.kids.map (polW d)).flatten ++ [[125]] ++ p.ob.map dutT)
/-- P10.3. -/
def polT (p : Pol) : List UInt8 := Lib.join (polW 4 p) [32]
def showP (p : Pol) : List UInt8 := if rightE p = 0 then polT p else []
end Go.Proofs.YtincnopaclmppaaDoor
/- What the rows' condition gives the walks: strconv's table, and the words that package show lays. -/
namespace Go.Proofs.YtincnopaclmppaaDoor
set_option linter.unusedVariables false
open Go.RowKit

def WordsIs (w : World) (name : String) (ls : List (List UInt8)) : Prop := w.var? Tryd.prog name = some (ls.map fun l => Value.string ⟨l.toArray⟩).toArray
theorem WordsIs.then_ {w w' : World} {name : String} {ls : List (List UInt8)} (h : WordsIs w name ls) (hb : Below w.heap.size w w') : WordsIs w' name ls := by
  unfold WordsIs World.var? at *
  cases hg : Tryd.prog.globalNamed name with
  | none => simp [hg] at h
  | some g =>
    simp only [hg, Option.bind_some] at h ⊢
    have hlt : g < w.heap.size := by
      rcases Nat.lt_or_ge g w.heap.size with h' | h'
      · exact h'
      · rw [Array.getElem?_eq_none h'] at h; simp at h
    rw [hb.block g hlt]
    exact h
theorem WordsIs.cell {w : World} {name : String} {ls : List (List UInt8)} {g : Nat} (h : WordsIs w name ls) (hg : Tryd.prog.globalNamed name = some g) (i : Nat) (hi : i < ls.length) : w.cell? ⟨g, i, none⟩ = some (.string ⟨(ls.getD i []).toArray⟩) := by
  have := World.var?_cell hg h i
  simpa [List.getD, hi] using this
def catL : List (List UInt8) := [[], [115, 117, 98, 106, 101, 99, 116], [97, 99, 116, 105, 111, 110], [99, 97, 115, 101], [101, 110, 118]]
def algL : List (List UInt8) := [[], [100, 101, 110, 121, 111, 118, 101, 114], [112, 101, 114, 109, 105, 116, 111, 118, 101, 114], [102, 105, 114, 115, 116], [111, 110, 108, 121], [100, 101, 110, 121, 117, 110, 108, 101, 115, 115], [112, 101, 114, 109, 105, 116, 117, 110, 108, 101, 115, 115]]
def fnL : List (List UInt8) := [[], [], [], [111, 110, 101], [115, 105, 122, 101], [104, 97, 115], [101, 113], [108, 101, 115, 115], [97, 100, 100], [115, 117, 98], [109, 117, 108], [110, 111, 116], [97, 110, 100], [111, 114]]
def doL : List (List UInt8) := [[], [108, 111, 103], [114, 101, 100, 97, 99, 116], [114, 101, 118, 105, 101, 119], [110, 111, 116, 105, 102, 121]]
def cmpL : List (List UInt8) := [[], [61], [60], [62]]
/-- The condition. -/
structure Tbl (w : World) : Prop where
  tab : Tab w
  algs : WordsIs w "bailiff/show.algorithms" algL
  cats : WordsIs w "bailiff/show.categories" catL
  fns : WordsIs w "bailiff/show.functions" fnL
  cmps : WordsIs w "bailiff/show.comparisons" cmpL
  does : WordsIs w "bailiff/show.doings" doL
theorem Tbl.then_ {w w' : World} (h : Tbl w) (hb : Below w.heap.size w w') : Tbl w' := ⟨h.tab.then_ hb, h.algs.then_ hb, h.cats.then_ hb, h.fns.then_ hb, h.cmps.then_ hb, h.does.then_ hb⟩
theorem pick_at {ls : List (List UInt8)} {W : Int → List UInt8} {lo : Nat} (h : ∀ i : Fin ls.length, lo ≤ i.val → ls.getD i.val [] = W (i.val : Int)) {n : Int} (h0 : (lo : Int) ≤ n) (h1 : n < (ls.length : Int)) : n.toNat < ls.length ∧ ls.getD n.toNat [] = W n := by
  have hl : n.toNat < ls.length := by omega
  refine ⟨hl, ?_⟩
  have := h ⟨n.toNat, hl⟩ (by show lo ≤ n.toNat; omega)
  rw [this]
  show W ((n.toNat : Nat) : Int) = W n
  rw [show ((n.toNat : Nat) : Int) = n by omega]
theorem Tbl.cat {w : World} (h : Tbl w) {n : Int} (h0 : 1 ≤ n) (h1 : n ≤ 4) : w.cell? ⟨5, n.toNat, none⟩ = some (.string ⟨(catW n).toArray⟩) := by
  obtain ⟨a, b⟩ := pick_at (ls := catL) (W := catW) (lo := 1) (by decide +kernel) (show ((1 : Nat) : Int) ≤ n by omega) (show n < ((5 : Nat) : Int) by omega)
  have := h.cats.cell (g := 5) (by kernel_rfl) n.toNat a
  rw [b] at this
  exact this
theorem Tbl.alg {w : World} (h : Tbl w) {n : Int} (h0 : 1 ≤ n) (h1 : n ≤ 6) : w.cell? ⟨0, n.toNat, none⟩ = some (.string ⟨(algW n).toArray⟩) := by
  obtain ⟨a, b⟩ := pick_at (ls := algL) (W := algW) (lo := 1) (by decide +kernel) (show ((1 : Nat) : Int) ≤ n by omega) (show n < ((7 : Nat) : Int) by omega)
  have := h.algs.cell (g := 0) (by kernel_rfl) n.toNat a
  rw [b] at this
  exact this
theorem Tbl.fn {w : World} (h : Tbl w) {n : Int} (h0 : 3 ≤ n) (h1 : n ≤ 13) : w.cell? ⟨3, n.toNat, none⟩ = some (.string ⟨(fnW n).toArray⟩) := by
  obtain ⟨a, b⟩ := pick_at (ls := fnL) (W := fnW) (lo := 3) (by decide +kernel) (show ((3 : Nat) : Int) ≤ n by omega) (show n < ((14 : Nat) : Int) by omega)
  have := h.fns.cell (g := 3) (by kernel_rfl) n.toNat a
  rw [b] at this
  exact this
theorem Tbl.do {w : World} (h : Tbl w) {n : Int} (h0 : 1 ≤ n) (h1 : n ≤ 4) : w.cell? ⟨1, n.toNat, none⟩ = some (.string ⟨(doW n).toArray⟩) := by
  obtain ⟨a, b⟩ := pick_at (ls := doL) (W := doW) (lo := 1) (by decide +kernel) (show ((1 : Nat) : Int) ≤ n by omega) (show n < ((5 : Nat) : Int) by omega)
  have := h.does.cell (g := 1) (by kernel_rfl) n.toNat a
  rw [b] at this
  exact this
theorem Tbl.cmp {w : World} (h : Tbl w) {n : Int} (h0 : 1 ≤ n) (h1 : n ≤ 3) : w.cell? ⟨4, n.toNat, none⟩ = some (.string ⟨(cmpW n).toArray⟩) := by
  obtain ⟨a, b⟩ := pick_at (ls := cmpL) (W := cmpW) (lo := 1) (by decide +kernel) (show ((1 : Nat) : Int) ≤ n by omega) (show n < ((4 : Nat) : Int) by omega)
  have := h.cmps.cell (g := 4) (by kernel_rfl) n.toNat a
  rw [b] at this
  exact this
end Go.Proofs.YtincnopaclmppaaDoor
/- Tokens, plainly: what chapter 7 says of a text. -/
namespace Go.Proofs.YtincnopaclmppaaDoor
set_option linter.unusedVariables false

def blk (c : UInt8) : Bool := decide (c.toNat = 32) || decide (c.toNat = 10)
def dgt (c : UInt8) : Bool := decide (48 ≤ c.toNat) && decide (c.toNat ≤ 57)
def inm (c : UInt8) : Bool := lett c || later c
/-- A digit to the base 16. -/
def hexv (c : UInt8) : Option Nat := if dgt c = true then some (c.toNat - 48) else if 97 ≤ c.toNat ∧ c.toNat ≤ 102 then some (c.toNat - 87) else none
def numD (l : List UInt8) : Nat := l.foldl (fun a c => 10 * a + (c.toNat - 48)) 0
/-- Digits as they may be written: how much they are, if it isn't more than so much. -/
def decD (most : Nat) (d : List UInt8) : Option Nat := if d = [] ∨ (d.head? = some 48 ∧ d ≠ [48]) ∨ most < numD d then none else some (numD d)
/-- Two digits to the base 16, for a byte that may not stand by itself. -/
def hexB (a b : Option Nat) : Option (UInt8 × Nat) :=
  match a, b with
  | some x, some y => if odd8 (UInt8.ofNat (16 * x + y)) = true then some (UInt8.ofNat (16 * x + y), 3) else none
  | _, _ => none
def escB : List UInt8 → Option (UInt8 × Nat)
  | a :: b :: _ => hexB (hexv a) (hexv b)
  | _ => none
/-- One byte of a text, and by how many it is written. -/
def oneB : List UInt8 → Option (UInt8 × Nat)
  | [] => none
  | c :: r => if odd8 c = false then some (c, 1) else if c = 92 then escB r else none
theorem oneB_cons (c : UInt8) (r : List UInt8) : oneB (c :: r) = if odd8 c = false then some (c, 1) else if c = 92 then escB r else none := rfl
theorem oneB_plain {c : UInt8} {r : List UInt8} (h : odd8 c = false) : oneB (c :: r) = some (c, 1) := by rw [oneB_cons, if_pos h]
theorem oneB_odd {c : UInt8} {r : List UInt8} (h : odd8 c = true) (h2 : c ≠ 92) : oneB (c :: r) = none := by rw [oneB_cons, if_neg (by rw [h]; simp), if_neg h2]
theorem oneB_esc (r : List UInt8) : oneB (92 :: r) = escB r := by rw [oneB_cons, if_neg (by decide), if_pos rfl]
theorem oneB_short {r : List UInt8} (h : r.length < 2) : oneB (92 :: r) = none := by
  rw [oneB_esc]
  match r, h with
  | [], _ => rfl
  | [a], _ => rfl
theorem oneB_hex (a b : UInt8) (r : List UInt8) : oneB (92 :: a :: b :: r) = hexB (hexv a) (hexv b) := by rw [oneB_esc]; rfl
theorem hexB_some (x y : Nat) : hexB (some x) (some y) = if odd8 (UInt8.ofNat (16 * x + y)) = true then some (UInt8.ofNat (16 * x + y), 3) else none := rfl
theorem hexB_none1 (b : Option Nat) : hexB none b = none := by cases b <;> rfl
theorem hexB_none2 (a : Option Nat) : hexB a none = none := by cases a <;> rfl
theorem hexB_three {a b : Option Nat} {x : UInt8} {k : Nat} (h : hexB a b = some (x, k)) : k = 3 := by
  cases a with
  | none => rw [hexB_none1] at h; cases h
  | some p => cases b with
    | none => rw [hexB_none2] at h; cases h
    | some q =>
      rw [hexB_some] at h
      split at h
      · cases h; rfl
      · cases h
/-- Behind a first quote: what is meant, and how many bytes it is with the last quote. -/
def qtB (l : List UInt8) : Option (List UInt8 × Nat) :=
  match l with
  | [] => none
  | c :: r => if c = 34 then some ([], 1) else
      match oneB (c :: r) with
      | none => none
      | some (x, k) => (qtB (r.drop (k - 1))).map fun p => (x :: p.1, k + p.2)
termination_by l.length
decreasing_by simp only [List.length_drop, List.length_cons]; omega
def mrk (c : UInt8) : Bool := c = 123 || c = 125 || c = 40 || c = 41 || c = 46 || c = 44 || c = 59 || c = 61 || c = 60 || c = 62 || c = 33
/-- The token that begins here: its kind, number, text, and how many bytes it is. -/
def tokB : List UInt8 → Option (Int × Int × List UInt8 × Nat)
  | [] => none
  | c :: r =>
    if lett c = true then (if Named ((c :: r).takeWhile inm) then some (1, 0, (c :: r).takeWhile inm, ((c :: r).takeWhile inm).length) else none)
    else if dgt c = true then (decD 9223372036854775807 ((c :: r).takeWhile dgt)).map fun (n : Nat) => (2, (n : Int), [], ((c :: r).takeWhile dgt).length)
    else if c = 45 then (decD 9223372036854775808 (r.takeWhile dgt)).bind fun (n : Nat) => if n = 0 then none else some (2, -(n : Int), [], (r.takeWhile dgt).length + 1)
    else if c = 64 then (decD 1099511627776 (r.takeWhile dgt)).map fun (n : Nat) => (3, (n : Int), [], (r.takeWhile dgt).length + 1)
    else if c = 35 then (if Named (r.takeWhile inm) then some (4, 0, r.takeWhile inm, (r.takeWhile inm).length + 1) else none)
    else if c = 34 then (qtB r).bind fun p => if p.1.length ≤ 64 then some (5, 0, p.1, p.2 + 1) else none
    else if mrk c = true then some (6, 0, [c], 1)
    else none

/-- A token: kind, place, number, text. -/
structure Tk where
  k : Int
  p : Int
  n : Int
  s : ByteArray
def Tk.l (t : Tk) : List UInt8 := t.s.data.toList
theorem Tk.ext' {a b : Tk} (h1 : a.k = b.k) (h2 : a.p = b.p) (h3 : a.n = b.n) (h4 : a.l = b.l) : a = b := by
  obtain ⟨k, p, n, s⟩ := a
  obtain ⟨k', p', n', s'⟩ := b
  obtain ⟨⟨x⟩⟩ := s
  obtain ⟨⟨y⟩⟩ := s'
  simp_all [Tk.l]
instance : DecidableEq Tk := fun a b => if h : a.k = b.k ∧ a.p = b.p ∧ a.n = b.n ∧ a.l = b.l then .isTrue (Tk.ext' h.1 h.2.1 h.2.2.1 h.2.2.2) else .isFalse (by rintro rfl; exact h ⟨rfl, rfl, rfl, rfl⟩)

def cat (ts : List Tk) : Except Nat (List Tk) → Except Nat (List Tk)
  | .error e => .error e
  | .ok l => .ok (ts ++ l)
theorem cat_nil (x : Except Nat (List Tk)) : cat [] x = x := by cases x <;> rfl
theorem cat_cat (a b : List Tk) (x : Except Nat (List Tk)) : cat a (cat b x) = cat (a ++ b) x := by cases x <;> simp [cat]

/-- P7.1, behind place p. -/
def lexB (l : List UInt8) (p : Nat) : Except Nat (List Tk) :=
  match l with
  | [] => .ok [⟨7, p, 0, ⟨#[]⟩⟩]
  | c :: r => if blk c = true then lexB r (p + 1) else
      match tokB (c :: r) with
      | none => .error p
      | some (k, n, s, m) => cat [⟨k, p, n, ⟨s.toArray⟩⟩] (lexB (r.drop (m - 1)) (p + m))
termination_by l.length
decreasing_by
  · simp
  · simp only [List.length_drop, List.length_cons]; omega

/-! ### Equations -/
theorem qtB_nil : qtB [] = none := by rw [qtB]
theorem qtB_end (r : List UInt8) : qtB (34 :: r) = some ([], 1) := by rw [qtB]; rfl
theorem oneB_pos {l : List UInt8} {x : UInt8} {k : Nat} (h : oneB l = some (x, k)) : 1 ≤ k ∧ k ≤ l.length := by
  cases l with
  | nil => cases h
  | cons c r =>
    rw [oneB_cons] at h
    split at h
    · cases h; simp
    · split at h
      · match r, h with
        | a :: b :: r', h => have := hexB_three h; subst this; simp
      · cases h
theorem drop_cons' {α : Type} {c : α} {r : List α} {k : Nat} (h : 1 ≤ k) : r.drop (k - 1) = (c :: r).drop k := by
  obtain ⟨j, rfl⟩ : ∃ j, k = j + 1 := ⟨k - 1, by omega⟩
  rfl
theorem qtB_one {c : UInt8} {r : List UInt8} {x : UInt8} {k : Nat} (hc : c ≠ 34) (h : oneB (c :: r) = some (x, k)) : qtB (c :: r) = (qtB ((c :: r).drop k)).map fun p => (x :: p.1, k + p.2) := by
  rw [qtB, if_neg hc, h]
  dsimp only
  rw [drop_cons' (oneB_pos h).1]
theorem qtB_bad {c : UInt8} {r : List UInt8} (hc : c ≠ 34) (h : oneB (c :: r) = none) : qtB (c :: r) = none := by
  rw [qtB, if_neg hc, h]
theorem lexB_nil (p : Nat) : lexB [] p = .ok [⟨7, p, 0, ⟨#[]⟩⟩] := by rw [lexB]
theorem lexB_blank {c : UInt8} {r : List UInt8} {p : Nat} (h : blk c = true) : lexB (c :: r) p = lexB r (p + 1) := by rw [lexB, if_pos h]
theorem lexB_bad {c : UInt8} {r : List UInt8} {p : Nat} (h : blk c = false) (ht : tokB (c :: r) = none) : lexB (c :: r) p = .error p := by
  rw [lexB, if_neg (by rw [h]; simp), ht]
theorem tk_len (p : UInt8 → Bool) (l : List UInt8) : (l.takeWhile p).length ≤ l.length := (List.takeWhile_sublist p).length_le
theorem qtB_le : ∀ (n : Nat) (l m : List UInt8) (j : Nat), l.length ≤ n → qtB l = some (m, j) → 1 ≤ j ∧ j ≤ l.length ∧ m.length ≤ j
  | n, [], m, j, _, h => by rw [qtB_nil] at h; cases h
  | 0, c :: r, m, j, hl, h => by simp at hl
  | n + 1, c :: r, m, j, hl, h => by
    by_cases hc : c = 34
    · subst hc; rw [qtB_end] at h; cases h; simp
    · cases ho : oneB (c :: r) with
      | none => rw [qtB_bad hc ho] at h; cases h
      | some xk =>
        obtain ⟨x, k⟩ := xk
        rw [qtB_one hc ho] at h
        obtain ⟨k1, k2⟩ := oneB_pos ho
        cases hq : qtB ((c :: r).drop k) with
        | none => rw [hq] at h; cases h
        | some q =>
          obtain ⟨m', j'⟩ := q
          rw [hq] at h
          simp only [Option.map_some, Option.some.injEq, Prod.mk.injEq] at h
          obtain ⟨rfl, rfl⟩ := h
          have := qtB_le n _ m' j' (by simp only [List.length_drop]; simp only [List.length_cons] at hl; simp only [List.length_cons]; omega) hq
          simp only [List.length_drop, List.length_cons] at this k2 ⊢
          omega
theorem tokB_pos {l : List UInt8} {k n : Int} {s : List UInt8} {m : Nat} (h : tokB l = some (k, n, s, m)) : 1 ≤ m ∧ m ≤ l.length ∧ s.length ≤ m := by
  cases l with
  | nil => cases h
  | cons c r =>
    have t1 := tk_len inm (c :: r)
    have t2 := tk_len dgt (c :: r)
    have t3 := tk_len dgt r
    have t4 := tk_len inm r
    simp only [List.length_cons] at t1 t2 t3 t4 ⊢
    rw [tokB] at h
    split at h
    · split at h
      · rename_i hn
        cases h
        have := hn.1
        omega
      · cases h
    · split at h
      · rename_i hd
        cases hq : decD 9223372036854775807 ((c :: r).takeWhile dgt) with
        | none => rw [hq] at h; cases h
        | some x =>
          rw [hq] at h
          cases h
          have : 1 ≤ ((c :: r).takeWhile dgt).length := by rw [List.takeWhile_cons, if_pos hd]; simp
          simp
          omega
      · split at h
        · cases hq : decD 9223372036854775808 (r.takeWhile dgt) with
          | none => rw [hq] at h; cases h
          | some x =>
            rw [hq] at h
            simp only [Option.bind_some] at h
            split at h
            · cases h
            · cases h; simp; omega
        · split at h
          · cases hq : decD 1099511627776 (r.takeWhile dgt) with
            | none => rw [hq] at h; cases h
            | some x => rw [hq] at h; cases h; simp; omega
          · split at h
            · split at h
              · cases h; simp; omega
              · cases h
            · split at h
              · cases hq : qtB r with
                | none => rw [hq] at h; cases h
                | some q =>
                  obtain ⟨m', j⟩ := q
                  rw [hq] at h
                  simp only [Option.bind_some] at h
                  split at h
                  · cases h
                    have := qtB_le _ _ _ _ (Nat.le_refl _) hq
                    omega
                  · cases h
              · split at h
                · cases h; simp
                · cases h
theorem lexB_tok {c : UInt8} {r : List UInt8} {p : Nat} {k n : Int} {s : List UInt8} {m : Nat} (h : blk c = false) (ht : tokB (c :: r) = some (k, n, s, m)) :
    lexB (c :: r) p = cat [⟨k, p, n, ⟨s.toArray⟩⟩] (lexB ((c :: r).drop m) (p + m)) := by
  rw [lexB, if_neg (by rw [h]; simp), ht]
  dsimp only
  rw [drop_cons' (tokB_pos ht).1]
theorem lexB_skip (l : List UInt8) (p : Nat) : lexB l p = lexB (l.drop (l.takeWhile blk).length) (p + (l.takeWhile blk).length) := by
  induction l generalizing p with
  | nil => simp
  | cons c r ih =>
    cases h : blk c with
    | true => rw [lexB_blank h, ih, List.takeWhile_cons, if_pos h]; simp only [List.length_cons, List.drop_succ_cons]; congr 1; omega
    | false => rw [List.takeWhile_cons, if_neg (by rw [h]; simp)]; simp
/-- How many bytes a row goes on with. -/
theorem drop_tw {p : UInt8 → Bool} {l : List UInt8} {c : UInt8} {r : List UInt8} (h : l.drop (l.takeWhile p).length = c :: r) : p c = false := by
  induction l with
  | nil => simp at h
  | cons d t ih =>
    cases hd : p d with
    | true => rw [List.takeWhile_cons, if_pos hd] at h; exact ih (by simpa using h)
    | false =>
      rw [List.takeWhile_cons, if_neg (by rw [hd]; simp)] at h
      simp at h
      rw [← h.1, hd]
end Go.Proofs.YtincnopaclmppaaDoor
/- Tokens of texts set together, plainly. -/
namespace Go.Proofs.YtincnopaclmppaaDoor
set_option linter.unusedVariables false

def shT (d : Nat) (t : Tk) : Tk := ⟨t.k, t.p + d, t.n, t.s⟩
/-- Places moved. -/
def shE (d : Nat) : Except Nat (List Tk) → Except Nat (List Tk)
  | .error e => .error (e + d)
  | .ok ts => .ok (ts.map (shT d))
theorem shE_cat (d : Nat) (ts : List Tk) (x : Except Nat (List Tk)) : shE d (cat ts x) = cat (ts.map (shT d)) (shE d x) := by cases x <;> simp [shE, cat]
theorem lexB_shift_n : ∀ (n : Nat) (l : List UInt8) (p d : Nat), l.length ≤ n → lexB l (p + d) = shE d (lexB l p)
  | _, [], p, d, _ => by rw [lexB_nil, lexB_nil]; simp [shE, shT]
  | 0, c :: r, p, d, h => by simp at h
  | n + 1, c :: r, p, d, h => by
    simp only [List.length_cons] at h
    cases hb : blk c with
    | true => rw [lexB_blank hb, lexB_blank hb, show p + d + 1 = p + 1 + d by omega, lexB_shift_n n r (p + 1) d (by omega)]
    | false =>
      cases ht : tokB (c :: r) with
      | none => rw [lexB_bad hb ht, lexB_bad hb ht]; rfl
      | some q =>
        obtain ⟨k, m, s, j⟩ := q
        have hj := tokB_pos ht
        rw [lexB_tok hb ht, lexB_tok hb ht, shE_cat, show p + d + j = p + j + d by omega, lexB_shift_n n _ (p + j) d (by rw [List.length_drop, List.length_cons]; omega)]
        simp [shT]
theorem lexB_shift (l : List UInt8) (p d : Nat) : lexB l (p + d) = shE d (lexB l p) := lexB_shift_n l.length l p d (Nat.le_refl _)
theorem lexB_from (l : List UInt8) (d : Nat) : lexB l d = shE d (lexB l 0) := by have := lexB_shift l 0 d; rwa [Nat.zero_add] at this

theorem tw_sep {p : UInt8 → Bool} {x : UInt8} (h : p x = false) (l y : List UInt8) : (l ++ x :: y).takeWhile p = l.takeWhile p := by
  induction l with
  | nil => simp [h]
  | cons c r ih =>
    rw [List.cons_append, List.takeWhile_cons, List.takeWhile_cons]
    cases p c <;> simp [ih]
theorem escB_app {r : List UInt8} {q : UInt8 × Nat} (h : escB r = some q) (y : List UInt8) : escB (r ++ y) = some q := by
  match r, h with
  | a :: b :: r, h => exact h
theorem oneB_app {l : List UInt8} {q : UInt8 × Nat} (h : oneB l = some q) (y : List UInt8) : oneB (l ++ y) = some q := by
  cases l with
  | nil => cases h
  | cons c r =>
    rw [oneB_cons] at h
    rw [List.cons_append, oneB_cons]
    split at h
    · rename_i h1; rw [if_pos h1]; exact h
    · rename_i h1
      rw [if_neg h1]
      split at h
      · rename_i h2; rw [if_pos h2]; exact escB_app h y
      · cases h
theorem hexv_ten : hexv 10 = none := by decide
theorem escB_nl {r : List UInt8} (h : escB r = none) (y : List UInt8) : escB (r ++ 10 :: y) = none := by
  match r, h with
  | [], _ => cases y with
    | nil => rfl
    | cons a y => show hexB (hexv 10) (hexv a) = none; rw [hexv_ten, hexB_none1]
  | [a], _ => show hexB (hexv a) (hexv 10) = none; rw [hexv_ten, hexB_none2]
  | a :: b :: r, h => exact h
theorem oneB_nl {c : UInt8} {r : List UInt8} (h : oneB (c :: r) = none) (y : List UInt8) : oneB (c :: r ++ 10 :: y) = none := by
  rw [oneB_cons] at h
  rw [List.cons_append, oneB_cons]
  split at h
  · cases h
  · rename_i h1
    rw [if_neg h1]
    split at h
    · rename_i h2; rw [if_pos h2]; exact escB_nl h y
    · rename_i h2; rw [if_neg h2]
theorem qtB_app : ∀ (n : Nat) (l : List UInt8) (q : List UInt8 × Nat) (y : List UInt8), l.length ≤ n → qtB l = some q → qtB (l ++ y) = some q
  | _, [], q, y, _, h => by rw [qtB_nil] at h; cases h
  | 0, c :: r, q, y, hl, h => by simp at hl
  | n + 1, c :: r, q, y, hl, h => by
    by_cases hc : c = 34
    · subst hc; rw [qtB_end] at h; rw [List.cons_append, qtB_end]; exact h
    · cases ho : oneB (c :: r) with
      | none => rw [qtB_bad hc ho] at h; cases h
      | some xk =>
        obtain ⟨x, k⟩ := xk
        have hk := oneB_pos ho
        rw [qtB_one hc ho] at h
        have ho' := oneB_app ho y
        rw [List.cons_append] at ho'
        rw [List.cons_append, qtB_one hc ho', ← List.cons_append, List.drop_append_of_le_length hk.2]
        cases hq : qtB ((c :: r).drop k) with
        | none => rw [hq] at h; cases h
        | some q' =>
          rw [hq] at h
          rw [qtB_app n _ q' y (by simp only [List.length_drop]; simp only [List.length_cons] at hl ⊢; omega) hq]
          exact h
theorem qtB_nl : ∀ (n : Nat) (l : List UInt8) (y : List UInt8), l.length ≤ n → qtB l = none → qtB (l ++ 10 :: y) = none
  | _, [], y, _, _ => qtB_bad (by decide) (oneB_odd (by decide) (by decide))
  | 0, c :: r, y, hl, h => by simp at hl
  | n + 1, c :: r, y, hl, h => by
    by_cases hc : c = 34
    · subst hc; rw [qtB_end] at h; cases h
    · cases ho : oneB (c :: r) with
      | none => rw [List.cons_append]; exact qtB_bad hc (oneB_nl ho y)
      | some xk =>
        obtain ⟨x, k⟩ := xk
        have hk := oneB_pos ho
        rw [qtB_one hc ho] at h
        have ho' := oneB_app ho (10 :: y)
        rw [List.cons_append] at ho'
        rw [List.cons_append, qtB_one hc ho', ← List.cons_append, List.drop_append_of_le_length hk.2]
        cases hq : qtB ((c :: r).drop k) with
        | some q' => rw [hq] at h; cases h
        | none =>
          rw [qtB_nl n _ y (by simp only [List.length_drop]; simp only [List.length_cons] at hl ⊢; omega) hq]
          rfl
theorem tokB_cons (c : UInt8) (r : List UInt8) : tokB (c :: r) =
    if lett c = true then (if Named ((c :: r).takeWhile inm) then some (1, 0, (c :: r).takeWhile inm, ((c :: r).takeWhile inm).length) else none)
    else if dgt c = true then (decD 9223372036854775807 ((c :: r).takeWhile dgt)).map fun (n : Nat) => (2, (n : Int), [], ((c :: r).takeWhile dgt).length)
    else if c = 45 then (decD 9223372036854775808 (r.takeWhile dgt)).bind fun (n : Nat) => if n = 0 then none else some (2, -(n : Int), [], (r.takeWhile dgt).length + 1)
    else if c = 64 then (decD 1099511627776 (r.takeWhile dgt)).map fun (n : Nat) => (3, (n : Int), [], (r.takeWhile dgt).length + 1)
    else if c = 35 then (if Named (r.takeWhile inm) then some (4, 0, r.takeWhile inm, (r.takeWhile inm).length + 1) else none)
    else if c = 34 then (qtB r).bind fun p => if p.1.length ≤ 64 then some (5, 0, p.1, p.2 + 1) else none
    else if mrk c = true then some (6, 0, [c], 1)
    else none := rfl
/-- What isn't a text's inside is the same ahead of a blank. -/
theorem tokB_sep {c x : UInt8} (hi : inm x = false) (hd : dgt x = false) (r y : List UInt8) (hq : c = 34 → qtB (r ++ x :: y) = qtB r) : tokB (c :: r ++ x :: y) = tokB (c :: r) := by
  have e1 : (c :: r ++ x :: y).takeWhile inm = (c :: r).takeWhile inm := tw_sep hi _ _
  have e2 : (c :: r ++ x :: y).takeWhile dgt = (c :: r).takeWhile dgt := tw_sep hd _ _
  rw [List.cons_append] at e1 e2 ⊢
  rw [tokB_cons, tokB_cons, e1, e2, tw_sep hi, tw_sep hd]
  by_cases h34 : c = 34
  · rw [hq h34]
  · simp only [if_neg h34]
theorem tokB_app {c x : UInt8} (hi : inm x = false) (hd : dgt x = false) (r y : List UInt8) {q : Int × Int × List UInt8 × Nat} (h : tokB (c :: r) = some q) : tokB (c :: r ++ x :: y) = some q := by
  rw [← h]
  by_cases h34 : c = 34
  · subst h34
    have hh := h
    rw [tokB_cons, if_neg (by decide), if_neg (by decide), if_neg (by decide), if_neg (by decide), if_neg (by decide), if_pos rfl] at hh
    cases hq : qtB r with
    | none => rw [hq] at hh; cases hh
    | some p => exact tokB_sep hi hd r y fun _ => by rw [hq]; exact qtB_app _ _ _ _ (Nat.le_refl _) hq
  · exact tokB_sep hi hd r y fun hc => absurd hc h34
theorem tokB_nl {c : UInt8} (r y : List UInt8) (h : tokB (c :: r) = none) : tokB (c :: r ++ 10 :: y) = none := by
  rw [← h]
  refine tokB_sep (by decide) (by decide) r y fun _ => ?_
  cases hq : qtB r with
  | none => exact qtB_nl _ _ _ (Nat.le_refl _) hq
  | some p => exact qtB_app _ _ _ _ (Nat.le_refl _) hq

theorem lexB_ne : ∀ (n : Nat) (l : List UInt8) (p : Nat) (ts : List Tk), l.length ≤ n → lexB l p = .ok ts → ∃ us, ts = us ++ [⟨7, ((p + l.length : Nat) : Int), 0, ⟨#[]⟩⟩] ∧ us.length ≤ l.length
  | _, [], p, ts, _, h => by rw [lexB_nil] at h; cases h; exact ⟨[], by simp, by simp⟩
  | 0, c :: r, p, ts, hl, h => by simp at hl
  | n + 1, c :: r, p, ts, hl, h => by
    simp only [List.length_cons] at hl
    cases hb : blk c with
    | true =>
      rw [lexB_blank hb] at h
      obtain ⟨us, rfl, h2⟩ := lexB_ne n r (p + 1) ts (by omega) h
      exact ⟨us, by rw [List.length_cons, show p + 1 + r.length = p + (r.length + 1) by omega], by rw [List.length_cons]; omega⟩
    | false =>
      cases ht : tokB (c :: r) with
      | none => rw [lexB_bad hb ht] at h; cases h
      | some q =>
        obtain ⟨k, m, s, j⟩ := q
        have hj := tokB_pos ht
        rw [lexB_tok hb ht] at h
        cases hx : lexB ((c :: r).drop j) (p + j) with
        | error e => rw [hx] at h; cases h
        | ok ts' =>
          rw [hx] at h
          cases h
          obtain ⟨us, rfl, h2⟩ := lexB_ne n _ _ _ (by rw [List.length_drop, List.length_cons]; omega) hx
          rw [List.length_drop] at h2 ⊢
          exact ⟨⟨k, p, m, ⟨s.toArray⟩⟩ :: us, by rw [show p + j + ((c :: r).length - j) = p + (c :: r).length by omega]; rfl, by simp only [List.length_cons] at h2 ⊢; omega⟩
theorem lexB_places : ∀ (n : Nat) (l : List UInt8) (p : Nat) (ts : List Tk), l.length ≤ n → lexB l p = .ok ts → ∀ t ∈ ts, (p : Int) ≤ t.p ∧ t.p ≤ ((p + l.length : Nat) : Int)
  | _, [], p, ts, _, h => by rw [lexB_nil] at h; cases h; intro t ht; simp at ht; subst ht; simp
  | 0, c :: r, p, ts, hl, h => by simp at hl
  | n + 1, c :: r, p, ts, hl, h => by
    simp only [List.length_cons] at hl ⊢
    cases hb : blk c with
    | true =>
      rw [lexB_blank hb] at h
      intro t ht
      have := lexB_places n r (p + 1) ts (by omega) h t ht
      omega
    | false =>
      cases htk : tokB (c :: r) with
      | none => rw [lexB_bad hb htk] at h; cases h
      | some q =>
        obtain ⟨k, m, s, j⟩ := q
        have hj := tokB_pos htk
        rw [lexB_tok hb htk] at h
        cases hx : lexB ((c :: r).drop j) (p + j) with
        | error e => rw [hx] at h; cases h
        | ok ts' =>
          rw [hx] at h
          cases h
          intro t ht
          rcases List.mem_cons.1 ht with rfl | ht
          · dsimp only; omega
          · have := lexB_places n _ _ _ (by rw [List.length_drop, List.length_cons]; omega) hx t ht
            rw [List.length_drop] at this
            simp only [List.length_cons] at this hj
            omega
theorem lexB_err_le : ∀ (n : Nat) (l : List UInt8) (p e : Nat), l.length ≤ n → lexB l p = .error e → e ≤ p + l.length
  | _, [], p, e, _, h => by rw [lexB_nil] at h; cases h
  | 0, c :: r, p, e, hl, h => by simp at hl
  | n + 1, c :: r, p, e, hl, h => by
    simp only [List.length_cons] at hl ⊢
    cases hb : blk c with
    | true =>
      rw [lexB_blank hb] at h
      have := lexB_err_le n r (p + 1) e (by omega) h
      omega
    | false =>
      cases htk : tokB (c :: r) with
      | none => rw [lexB_bad hb htk] at h; cases h; omega
      | some q =>
        obtain ⟨k, m, s, j⟩ := q
        have hj := tokB_pos htk
        rw [lexB_tok hb htk] at h
        cases hx : lexB ((c :: r).drop j) (p + j) with
        | ok ts' => rw [hx] at h; cases h
        | error e' =>
          rw [hx] at h
          cases h
          have := lexB_err_le n _ _ _ (by rw [List.length_drop, List.length_cons]; omega) hx
          rw [List.length_drop] at this
          simp only [List.length_cons] at this hj
          omega
theorem lexB_join_n {x : UInt8} (hx : blk x = true) (hi : inm x = false) (hd : dgt x = false) (y : List UInt8) : ∀ (n : Nat) (a : List UInt8) (p : Nat) (ts : List Tk), a.length ≤ n → lexB a p = .ok ts → lexB (a ++ x :: y) p = cat ts.dropLast (lexB y (p + a.length + 1))
  | _, [], p, ts, _, h => by rw [lexB_nil] at h; cases h; rw [List.nil_append, lexB_blank hx]; simp [cat_nil]
  | 0, c :: r, p, ts, hl, h => by simp at hl
  | n + 1, c :: r, p, ts, hl, h => by
    simp only [List.length_cons] at hl
    cases hb : blk c with
    | true =>
      rw [lexB_blank hb] at h
      rw [List.cons_append, lexB_blank hb, lexB_join_n hx hi hd y n r (p + 1) ts (by omega) h, List.length_cons, show p + 1 + r.length + 1 = p + (r.length + 1) + 1 by omega]
    | false =>
      cases ht : tokB (c :: r) with
      | none => rw [lexB_bad hb ht] at h; cases h
      | some q =>
        obtain ⟨k, m, s, j⟩ := q
        have hj := tokB_pos ht
        have ht' := tokB_app hi hd r y ht
        rw [List.cons_append] at ht'
        rw [lexB_tok hb ht] at h
        rw [List.cons_append, lexB_tok hb ht', ← List.cons_append, List.drop_append_of_le_length hj.2.1]
        cases hq : lexB ((c :: r).drop j) (p + j) with
        | error e => rw [hq] at h; cases h
        | ok ts' =>
          rw [hq] at h
          cases h
          obtain ⟨us, rfl, _⟩ := lexB_ne _ _ _ _ (Nat.le_refl _) hq
          rw [lexB_join_n hx hi hd y n _ (p + j) _ (by rw [List.length_drop, List.length_cons]; omega) hq, cat_cat, List.length_drop, show p + j + ((c :: r).length - j) + 1 = p + (c :: r).length + 1 by omega]
          congr 1
          rw [List.dropLast_concat, ← List.append_assoc, List.dropLast_concat]
theorem lexB_join {x : UInt8} (hx : x = 32 ∨ x = 10) {a y : List UInt8} {p : Nat} {ts : List Tk} (h : lexB a p = .ok ts) : lexB (a ++ x :: y) p = cat ts.dropLast (lexB y (p + a.length + 1)) := by
  rcases hx with rfl | rfl
  · exact lexB_join_n (by decide) (by decide) (by decide) y _ a p ts (Nat.le_refl _) h
  · exact lexB_join_n (by decide) (by decide) (by decide) y _ a p ts (Nat.le_refl _) h
theorem lexB_nl : ∀ (n : Nat) (a y : List UInt8) (p e : Nat), a.length ≤ n → lexB a p = .error e → lexB (a ++ 10 :: y) p = .error e
  | _, [], y, p, e, _, h => by rw [lexB_nil] at h; cases h
  | 0, c :: r, y, p, e, hl, h => by simp at hl
  | n + 1, c :: r, y, p, e, hl, h => by
    simp only [List.length_cons] at hl
    cases hb : blk c with
    | true =>
      rw [lexB_blank hb] at h
      rw [List.cons_append, lexB_blank hb]
      exact lexB_nl n r y _ _ (by omega) h
    | false =>
      cases ht : tokB (c :: r) with
      | none =>
        have ht' := tokB_nl r y ht
        rw [List.cons_append] at ht'
        rw [List.cons_append, lexB_bad hb ht']
        rw [lexB_bad hb ht] at h
        exact h
      | some q =>
        obtain ⟨k, m, s, j⟩ := q
        have hj := tokB_pos ht
        have ht' := tokB_app (x := 10) (by decide) (by decide) r y ht
        rw [List.cons_append] at ht'
        rw [lexB_tok hb ht] at h
        rw [List.cons_append, lexB_tok hb ht', ← List.cons_append, List.drop_append_of_le_length hj.2.1]
        cases hq : lexB ((c :: r).drop j) (p + j) with
        | ok ts' => rw [hq] at h; cases h
        | error e' =>
          rw [hq] at h
          rw [lexB_nl n _ y _ _ (by rw [List.length_drop, List.length_cons]; omega) hq]
          exact h
theorem lexB_ahead : ∀ (a l : List UInt8) (p : Nat), (∀ c ∈ a, blk c = true) → lexB (a ++ l) p = lexB l (p + a.length)
  | [], l, p, _ => rfl
  | c :: a, l, p, h => by
    rw [List.cons_append, lexB_blank (h c (List.mem_cons_self ..)), lexB_ahead a l (p + 1) (fun d hd => h d (List.mem_cons_of_mem _ hd)), List.length_cons, show p + 1 + a.length = p + (a.length + 1) by omega]
end Go.Proofs.YtincnopaclmppaaDoor
/- The parser, plainly: its words, its state, and what each of its functions makes of it. -/
namespace Go.Proofs.YtincnopaclmppaaDoor
set_option linter.unusedVariables false

abbrev w_policy : ByteArray := ⟨#[112, 111, 108, 105, 99, 121]⟩
abbrev w_set : ByteArray := ⟨#[115, 101, 116]⟩
abbrev w_denyover : ByteArray := ⟨#[100, 101, 110, 121, 111, 118, 101, 114]⟩
abbrev w_permitover : ByteArray := ⟨#[112, 101, 114, 109, 105, 116, 111, 118, 101, 114]⟩
abbrev w_first : ByteArray := ⟨#[102, 105, 114, 115, 116]⟩
abbrev w_only : ByteArray := ⟨#[111, 110, 108, 121]⟩
abbrev w_denyunless : ByteArray := ⟨#[100, 101, 110, 121, 117, 110, 108, 101, 115, 115]⟩
abbrev w_permitunless : ByteArray := ⟨#[112, 101, 114, 109, 105, 116, 117, 110, 108, 101, 115, 115]⟩
abbrev w_permit : ByteArray := ⟨#[112, 101, 114, 109, 105, 116]⟩
abbrev w_deny : ByteArray := ⟨#[100, 101, 110, 121]⟩
abbrev w_when : ByteArray := ⟨#[119, 104, 101, 110]⟩
abbrev w_and : ByteArray := ⟨#[97, 110, 100]⟩
abbrev w_or : ByteArray := ⟨#[111, 114]⟩
abbrev w_subject : ByteArray := ⟨#[115, 117, 98, 106, 101, 99, 116]⟩
abbrev w_action : ByteArray := ⟨#[97, 99, 116, 105, 111, 110]⟩
abbrev w_case : ByteArray := ⟨#[99, 97, 115, 101]⟩
abbrev w_env : ByteArray := ⟨#[101, 110, 118]⟩
abbrev w_false : ByteArray := ⟨#[102, 97, 108, 115, 101]⟩
abbrev w_true : ByteArray := ⟨#[116, 114, 117, 101]⟩
abbrev w_if : ByteArray := ⟨#[105, 102]⟩
abbrev w_one : ByteArray := ⟨#[111, 110, 101]⟩
abbrev w_size : ByteArray := ⟨#[115, 105, 122, 101]⟩
abbrev w_has : ByteArray := ⟨#[104, 97, 115]⟩
abbrev w_eq : ByteArray := ⟨#[101, 113]⟩
abbrev w_less : ByteArray := ⟨#[108, 101, 115, 115]⟩
abbrev w_add : ByteArray := ⟨#[97, 100, 100]⟩
abbrev w_sub : ByteArray := ⟨#[115, 117, 98]⟩
abbrev w_mul : ByteArray := ⟨#[109, 117, 108]⟩
abbrev w_not : ByteArray := ⟨#[110, 111, 116]⟩
abbrev w_on : ByteArray := ⟨#[111, 110]⟩
abbrev w_log : ByteArray := ⟨#[108, 111, 103]⟩
abbrev w_redact : ByteArray := ⟨#[114, 101, 100, 97, 99, 116]⟩
abbrev w_review : ByteArray := ⟨#[114, 101, 118, 105, 101, 119]⟩
abbrev w_notify : ByteArray := ⟨#[110, 111, 116, 105, 102, 121]⟩
abbrev m_lb : ByteArray := ⟨#[123]⟩
abbrev m_rb : ByteArray := ⟨#[125]⟩
abbrev m_lp : ByteArray := ⟨#[40]⟩
abbrev m_rp : ByteArray := ⟨#[41]⟩
abbrev m_dot : ByteArray := ⟨#[46]⟩
abbrev m_bang : ByteArray := ⟨#[33]⟩
abbrev m_eqm : ByteArray := ⟨#[61]⟩
abbrev m_lt : ByteArray := ⟨#[60]⟩
abbrev m_gt : ByteArray := ⟨#[62]⟩
abbrev m_semi : ByteArray := ⟨#[59]⟩
abbrev m_comma : ByteArray := ⟨#[44]⟩

/-- What is left of the tokens, how many rules there were, and what went wrong first. -/
structure Pz where
  rest : List Tk
  met : Nat
  err : Int
  at_ : Int
def Pz.hd (s : Pz) : Tk := s.rest.headD ⟨7, 0, 0, ⟨#[]⟩⟩
/-- What holds of it all along: an end is left, and numbers and texts are such as Go has. -/
def Pz.ok (L : Nat) (s : Pz) : Prop :=
  (∃ e, s.rest.getLast? = some e ∧ e.k = 7) ∧ (∀ t ∈ s.rest, InI t.k ∧ (0 ≤ t.p ∧ t.p ≤ (L : Int)) ∧ InI t.n ∧ t.s.size ≤ maxLen) ∧ (s.rest.length ≤ 5000 ∧ s.met + s.rest.length ≤ 6000 ∧ L ≤ 4096) ∧ (s.err = 0 ∨ s.err = 5 ∨ s.err = 6) ∧ 0 ≤ s.at_ ∧ s.at_ ≤ (L : Int)

def failR (e a : Int) (s : Pz) : Pz := if s.err = 0 then ⟨s.rest.drop (s.rest.length - 1), s.met, e, a⟩ else ⟨s.rest.drop (s.rest.length - 1), s.met, s.err, s.at_⟩
def wrongR (s : Pz) : Pz := failR 5 s.hd.p s
def mostR (n limit : Int) (s : Pz) : Pz := if limit < n then failR 6 s.hd.p s else s
/-- Which of these it is, from 1 on, or 0. -/
def idxW (x : ByteArray) : List ByteArray → Nat
  | [] => 0
  | y :: l => if x = y then 1 else if idxW x l = 0 then 0 else idxW x l + 1
def seesR (ws : List ByteArray) (s : Pz) : Nat := if s.hd.k = 1 ∨ s.hd.k = 6 then idxW s.hd.s ws else 0
def nextR (s : Pz) : Pz := ⟨s.rest.drop 1, s.met, s.err, s.at_⟩
def takeR (ws : List ByteArray) (s : Pz) : Nat × Pz := if seesR ws s = 0 then (0, s) else (seesR ws s, nextR s)
def mustR (ws : List ByteArray) (s : Pz) : Nat × Pz := if seesR ws s = 0 then (0, wrongR s) else (seesR ws s, nextR s)
def endR (s : Pz) : Pz := if s.hd.k = 7 then s else wrongR s
def nameR (s : Pz) : ByteArray × Pz := if s.hd.k = 1 then (s.hd.s, nextR s) else (⟨#[]⟩, wrongR s)
def catR (s : Pz) : Nat × Pz := takeR [w_subject, w_action, w_case, w_env] s
def attrR (cat : Int) (s : Pz) : Atr × Pz :=
  let s1 := if cat = 0 then wrongR s else s
  let s2 := (mustR [m_dot] s1).2
  let s3 := (nameR s2).2
  (⟨cat, (nameR s2).1, decide (0 < (takeR [m_bang] s3).1)⟩, (takeR [m_bang] s3).2)
def kindR (k : Int) : Int := if k = 2 then 2 else if k = 3 then 4 else if k = 4 then 5 else if k = 5 then 3 else 1
def valueR (s : Pz) : Vl × Pz :=
  if kindR s.hd.k = 1 then (⟨1, ((mustR [w_false, w_true] s).1 : Int) - 1, ⟨#[]⟩⟩, (mustR [w_false, w_true] s).2)
  else (⟨kindR s.hd.k, s.hd.n, s.hd.s⟩, nextR s)
def matchR (s : Pz) : Mat × Pz :=
  let c := catR s
  let a := attrR (c.1 : Int) c.2
  let o := mustR [m_eqm, m_lt, m_gt] a.2
  let v := valueR o.2
  (⟨a.1, (o.1 : Int), v.1⟩, v.2)
/-- One behind the other, parted by a word. -/
def rowR {α : Type} (one : Pz → α × Pz) (btw : ByteArray) : Nat → List α → Pz → List α × Pz
  | 0, l, s => (l, s)
  | n + 1, l, s =>
    let x := one s
    let t := takeR [btw] (mostR ((l ++ [x.1]).length : Int) 8 x.2)
    if t.1 = 0 then (l ++ [x.1], t.2) else rowR one btw n (l ++ [x.1]) t.2
def allOfR (s : Pz) : List Mat × Pz := rowR matchR m_comma s.rest.length [] s
def anyOfR (s : Pz) : List (List Mat) × Pz :=
  let a := mustR [m_lp] s
  let r := rowR allOfR w_or a.2.rest.length [] a.2
  (r.1, (mustR [m_rp] r.2).2)
def targetR (s : Pz) : Tgt × Pz :=
  if (takeR [w_when] s).1 = 0 then ([], (takeR [w_when] s).2) else rowR anyOfR w_and (takeR [w_when] s).2.rest.length [] (takeR [w_when] s).2
def dutiesR : Nat → List Dut → Pz → List Dut × Pz
  | 0, l, s => (l, s)
  | n + 1, l, s =>
    if (takeR [w_on] s).1 = 0 then (l, (takeR [w_on] s).2) else
    let a := mustR [w_permit, w_deny] (takeR [w_on] s).2
    let b := mustR [w_log, w_redact, w_review, w_notify] a.2
    let c := nameR b.2
    dutiesR n (l ++ [⟨(a.1 : Int), (b.1 : Int), c.1⟩]) (mostR ((l ++ [(⟨(a.1 : Int), (b.1 : Int), c.1⟩ : Dut)]).length : Int) 8 c.2)
def leafR (s : Pz) : Nod × Pz :=
  if 0 < (catR s).1 then (⟨2, zeroV, (attrR ((catR s).1 : Int) (catR s).2).1⟩, (attrR ((catR s).1 : Int) (catR s).2).2)
  else (⟨1, (valueR (catR s).2).1, zeroA⟩, (valueR (catR s).2).2)
def isBag (op : Int) : Bool := decide (op = 3) || decide (op = 4) || decide (op = 5)
def isTwo (op : Int) : Bool := !decide (op = 3) && !decide (op = 4) && !decide (op = 11)
def callR (ex : List Nod → Bool → Pz → List Nod × Pz) (l : List Nod) (s : Pz) : List Nod × Int × Pz :=
  let m := mustR [w_one, w_size, w_has, w_eq, w_less, w_add, w_sub, w_mul, w_not, w_and, w_or] s
  let op : Int := 2 + (m.1 : Int)
  let e := ex l (isBag op) m.2
  let f := if isTwo op = true then ex e.1 false e.2 else e
  (f.1, op, (mustR [m_rp] f.2).2)
/-- Behind a node: it is one too many, or not what must stand here. -/
def nodR (bag : Bool) (p : Int) (l : List Nod) (n : Nod) (s : Pz) : List Nod × Pz :=
  (l ++ [n], if bag != decide (n.op = 2) then failR 5 p (mostR ((l ++ [n]).length : Int) 32 s) else mostR ((l ++ [n]).length : Int) 32 s)
def exprR : Nat → List Nod → Bool → Pz → List Nod × Pz
  | 0, l, _, s => (l, s)
  | n + 1, l, bag, s =>
    if 0 < (takeR [m_lp] s).1 then
      let c := callR (exprR n) l (takeR [m_lp] s).2
      nodR bag s.hd.p c.1 ⟨c.2.1, zeroV, zeroA⟩ c.2.2
    else nodR bag s.hd.p l (leafR (takeR [m_lp] s).2).1 (leafR (takeR [m_lp] s).2).2
def condR (s : Pz) : List Nod × Pz :=
  if (takeR [w_if] s).1 = 0 then ([], (takeR [w_if] s).2) else exprR (takeR [w_if] s).2.rest.length [] false (takeR [w_if] s).2
def dutsR (s : Pz) : List Dut × Pz := dutiesR s.rest.length [] s
def ruleR (s : Pz) : Rul × Pz :=
  let a := mustR [w_permit, w_deny] s
  let b := nameR a.2
  let t := targetR b.2
  let c := condR t.2
  let d := dutsR c.2
  (⟨b.1, decide (a.1 = 2), t.1, c.1, d.1⟩, (mustR [m_semi] d.2).2)
def metR (s : Pz) : Pz := ⟨s.rest, s.met + 1, s.err, s.at_⟩
def rulesR : Nat → List Rul → Pz → List Rul × Pz
  | 0, l, s => (l, s)
  | n + 1, l, s =>
    if seesR [w_permit, w_deny] s = 0 then (l, s) else
    let s1 := mostR ((l.length : Int) + 1) 16 (metR s)
    let u := ruleR (mostR (s1.met : Int) 64 s1)
    rulesR n (l ++ [u.1]) u.2
def kidsR (po : Pz → Pol × Pz) : Nat → List Pol → Pz → List Pol × Pz
  | 0, l, s => (l, s)
  | n + 1, l, s =>
    if seesR [w_policy, w_set] s = 0 then (l, s) else
    let u := po (mostR ((l.length : Int) + 1) 16 s)
    kidsR po n (l ++ [u.1]) u.2
/-- A policy, where so many levels are left. -/
def polR : Nat → Pz → Pol × Pz
  | 0, s => (.mk ⟨#[]⟩ false 0 [] [] [] [], s)
  | f + 1, s =>
    let s0 := mostR (5 - (f : Int)) 4 s
    let a := mustR [w_policy, w_set] s0
    let b := nameR a.2
    let c := mustR [w_denyover, w_permitover, w_first, w_only, w_denyunless, w_permitunless] b.2
    let t := targetR c.2
    let d := mustR [m_lb] t.2
    let k := if a.1 = 2 then kidsR (polR f) d.2.rest.length [] d.2 else ([], d.2)
    let r := if a.1 = 2 then ([], k.2) else rulesR d.2.rest.length [] d.2
    let e := mustR [m_rb] r.2
    let o := dutsR e.2
    (.mk b.1 (decide (a.1 = 2)) (c.1 : Int) t.1 r.1 k.1 o.1, o.2)
def noPol : Pol := .mk ⟨#[]⟩ false 0 [] [] [] []
/-- P9: a text's policy, or the error and its place. -/
def parseR (s : ByteArray) : Pol × Int × Int :=
  if 4096 < s.size then (noPol, 6, 4096) else
  match lexB s.data.toList 0 with
  | .error p => (noPol, 5, (p : Int))
  | .ok ts =>
    let u := polR 5 ⟨ts, 0, 0, 0⟩
    let z := endR u.2
    if z.err = 0 then (if rightE u.1 = 0 then (u.1, 0, 0) else (noPol, 5, (s.size : Int))) else (noPol, z.err, z.at_)

/-! ### What holds all along -/
section
variable {L : Nat} {s : Pz}
theorem Pz.ok.ne (h : s.ok L) : s.rest ≠ [] := by
  obtain ⟨⟨e, he, _⟩, _⟩ := h
  intro h0
  rw [h0] at he
  cases he
theorem Pz.ok.pos (h : s.ok L) : 1 ≤ s.rest.length := List.length_pos_iff.2 h.ne
theorem Pz.ok.get0 (h : s.ok L) : s.rest[0]? = some s.hd := by
  have := h.ne
  unfold Pz.hd
  cases hr : s.rest with
  | nil => exact absurd hr this
  | cons t l => rfl
theorem Pz.ok.hd_ok (h : s.ok L) : InI s.hd.k ∧ (0 ≤ s.hd.p ∧ s.hd.p ≤ (L : Int)) ∧ InI s.hd.n ∧ s.hd.s.size ≤ maxLen := h.2.1 _ (List.mem_of_getElem? h.get0)
/-- What is not the end is not the last. -/
theorem Pz.ok.more (h : s.ok L) (hk : s.hd.k ≠ 7) : 2 ≤ s.rest.length := by
  have h0 := h.ne
  obtain ⟨⟨e, he, h7⟩, _⟩ := h
  unfold Pz.hd at hk
  rcases hr : s.rest with _ | ⟨t, _ | ⟨u, l⟩⟩
  · exact absurd hr h0
  · rw [hr] at he hk
    simp at he hk
    rw [he] at hk
    exact absurd h7 hk
  · simp
theorem Pz.ok.next (h : s.ok L) (hk : s.hd.k ≠ 7) : (nextR s).ok L := by
  have h2 := h.more hk
  obtain ⟨⟨e, he, h7⟩, ha, hl, hx⟩ := h
  rcases hr : s.rest with _ | ⟨t, l⟩
  · rw [hr] at h2; simp at h2
  · rw [hr] at h2
    simp at h2
    refine ⟨⟨e, ?_, h7⟩, fun t ht => ha t ?_, ?_, hx⟩
    · show (s.rest.drop 1).getLast? = _
      rw [hr] at he ⊢
      rcases l with _ | ⟨u, l⟩
      · simp at h2
      · simpa [List.getLast?_cons_cons] using he
    · exact List.mem_of_mem_drop ht
    · have e : (nextR s).rest.length = s.rest.length - 1 := List.length_drop
      have e2 : (nextR s).met = s.met := rfl
      omega
theorem Pz.ok.fail (h : s.ok L) {e p : Int} (he : e = 5 ∨ e = 6) (hp : 0 ≤ p ∧ p ≤ (L : Int)) : (failR e p s).ok L := by
  have h1 := h.pos
  have key : ∀ (x y : Int), (x = 0 ∨ x = 5 ∨ x = 6) → 0 ≤ y ∧ y ≤ (L : Int) → (⟨s.rest.drop (s.rest.length - 1), s.met, x, y⟩ : Pz).ok L := by
    intro x y hx hy
    obtain ⟨⟨z, hz, h7⟩, ha, hl, _⟩ := h
    refine ⟨⟨z, ?_, h7⟩, fun t ht => ha t (List.mem_of_mem_drop ht), ?_, hx, hy⟩
    · show (s.rest.drop (s.rest.length - 1)).getLast? = _
      rw [List.getLast?_drop, if_neg (by omega)]
      exact hz
    · show (s.rest.drop (s.rest.length - 1)).length ≤ _ ∧ s.met + (s.rest.drop (s.rest.length - 1)).length ≤ _ ∧ _
      rw [List.length_drop]
      omega
  unfold failR
  split
  · exact key _ _ (by omega) hp
  · exact key _ _ h.2.2.2.1 h.2.2.2.2
theorem Pz.ok.wrong (h : s.ok L) : (wrongR s).ok L := h.fail (by omega) h.hd_ok.2.1
theorem Pz.ok.most (h : s.ok L) (n l : Int) : (mostR n l s).ok L := by
  unfold mostR
  split
  · exact h.fail (by omega) h.hd_ok.2.1
  · exact h
theorem failR_len (e p : Int) (h : s.ok L) : (failR e p s).rest.length = 1 := by
  have := h.pos
  unfold failR
  split <;> (show (s.rest.drop (s.rest.length - 1)).length = 1; rw [List.length_drop]; omega)
theorem mostR_len (h : s.ok L) (n l : Int) : (mostR n l s).rest.length ≤ s.rest.length := by
  have := h.pos
  unfold mostR
  split
  · rw [failR_len _ _ h]; exact this
  · exact Nat.le_refl _
theorem seesR_more (h : s.ok L) {ws : List ByteArray} (h0 : seesR ws s ≠ 0) : s.hd.k ≠ 7 := by
  intro h7
  unfold seesR at h0
  rw [h7] at h0
  simp at h0
theorem nextR_len (s : Pz) : (nextR s).rest.length = s.rest.length - 1 := List.length_drop
theorem Pz.ok.take (h : s.ok L) (ws : List ByteArray) : (takeR ws s).2.ok L := by
  unfold takeR
  split
  · exact h
  · rename_i h0
    exact h.next (seesR_more h h0)
theorem Pz.ok.must (h : s.ok L) (ws : List ByteArray) : (mustR ws s).2.ok L := by
  unfold mustR
  split
  · exact h.wrong
  · rename_i h0
    exact h.next (seesR_more h h0)
theorem Pz.ok.name (h : s.ok L) : (nameR s).2.ok L := by
  unfold nameR
  split
  · rename_i h1
    exact h.next (by omega)
  · exact h.wrong
theorem Pz.ok.end_ (h : s.ok L) : (endR s).ok L := by
  unfold endR
  split
  · exact h
  · exact h.wrong
theorem takeR_len (h : s.ok L) (ws : List ByteArray) : (takeR ws s).2.rest.length + (if (takeR ws s).1 = 0 then 0 else 1) = s.rest.length := by
  have := h.pos
  unfold takeR
  split
  · simp
  · rename_i h0
    show (nextR s).rest.length + 1 = _
    rw [nextR_len]
    omega
theorem mustR_len (h : s.ok L) (ws : List ByteArray) : (mustR ws s).2.rest.length ≤ s.rest.length ∧ 1 ≤ (mustR ws s).2.rest.length := by
  have := h.pos
  refine ⟨?_, (h.must ws).pos⟩
  unfold mustR
  split
  · unfold wrongR; rw [failR_len _ _ h]; exact this
  · rw [nextR_len]; omega
theorem nameR_len (h : s.ok L) : (nameR s).2.rest.length ≤ s.rest.length := by
  have := h.pos
  unfold nameR
  split
  · rw [nextR_len]; omega
  · unfold wrongR; rw [failR_len _ _ h]; exact this
theorem idxW_le (x : ByteArray) : ∀ ws : List ByteArray, idxW x ws ≤ ws.length
  | [] => Nat.le_refl _
  | y :: l => by
    have := idxW_le x l
    unfold idxW
    split
    · simp
    · split
      · omega
      · simp; omega
theorem seesR_le (ws : List ByteArray) (s : Pz) : seesR ws s ≤ ws.length := by
  unfold seesR
  split
  · exact idxW_le _ _
  · omega
theorem takeR_le (ws : List ByteArray) (s : Pz) : (takeR ws s).1 ≤ ws.length := by
  unfold takeR
  split
  · exact Nat.zero_le _
  · exact seesR_le _ _
theorem mustR_le (ws : List ByteArray) (s : Pz) : (mustR ws s).1 ≤ ws.length := by
  unfold mustR
  split
  · exact Nat.zero_le _
  · exact seesR_le _ _
theorem nameR_size (h : s.ok L) : (nameR s).1.size ≤ maxLen := by
  unfold nameR
  split
  · exact h.hd_ok.2.2.2
  · exact Nat.zero_le _
end
end Go.Proofs.YtincnopaclmppaaDoor
/- The parser, plainly: what is left only shrinks, and what is read is such as Go has. -/
namespace Go.Proofs.YtincnopaclmppaaDoor
set_option linter.unusedVariables false

/-- It stays in order, and no more is left than was. -/
def Goes (L : Nat) (s s' : Pz) : Prop := s'.ok L ∧ s'.rest.length ≤ s.rest.length
section
variable {L : Nat} {s s1 s2 : Pz}
theorem Goes.refl (h : s.ok L) : Goes L s s := ⟨h, Nat.le_refl _⟩
theorem Goes.trans (h1 : Goes L s s1) (h2 : s1.ok L → Goes L s1 s2) : Goes L s s2 := ⟨(h2 h1.1).1, Nat.le_trans (h2 h1.1).2 h1.2⟩
theorem fail_go (h : s.ok L) {e p : Int} (he : e = 5 ∨ e = 6) (hp : 0 ≤ p ∧ p ≤ (L : Int)) : Goes L s (failR e p s) := ⟨h.fail he hp, by rw [failR_len e p h]; exact h.pos⟩
theorem wrong_go (h : s.ok L) : Goes L s (wrongR s) := fail_go h (.inl rfl) h.hd_ok.2.1
theorem most_go (h : s.ok L) (n l : Int) : Goes L s (mostR n l s) := ⟨h.most n l, mostR_len h n l⟩
theorem take_go (h : s.ok L) (ws : List ByteArray) : Goes L s (takeR ws s).2 := ⟨h.take ws, by have := takeR_len h ws; omega⟩
theorem must_go (h : s.ok L) (ws : List ByteArray) : Goes L s (mustR ws s).2 := ⟨h.must ws, (mustR_len h ws).1⟩
theorem name_go (h : s.ok L) : Goes L s (nameR s).2 := ⟨h.name, nameR_len h⟩
theorem next_go (h : s.ok L) (hk : s.hd.k ≠ 7) : Goes L s (nextR s) := ⟨h.next hk, by rw [nextR_len]; omega⟩
theorem end_go (h : s.ok L) : Goes L s (endR s) := by
  unfold endR
  split
  · exact .refl h
  · exact wrong_go h
theorem attr_go (h : s.ok L) (cat : Int) : Goes L s (attrR cat s).2 := by
  have h1 : Goes L s (if cat = 0 then wrongR s else s) := by
    split
    · exact wrong_go h
    · exact .refl h
  exact ((h1.trans fun h => must_go h _).trans fun h => name_go h).trans fun h => take_go h _
theorem value_go (h : s.ok L) : Goes L s (valueR s).2 := by
  unfold valueR
  split
  · exact must_go h _
  · rename_i hk
    exact next_go h (by intro e; rw [e] at hk; exact hk rfl)
theorem match_go (h : s.ok L) : Goes L s (matchR s).2 :=
  (((take_go h _).trans fun h => attr_go h _).trans fun h => must_go h _).trans fun h => value_go h
theorem leaf_go (h : s.ok L) : Goes L s (leafR s).2 := by
  unfold leafR
  split
  · exact (take_go h _).trans fun h => attr_go h _
  · exact (take_go h _).trans fun h => value_go h
theorem row_go {α : Type} {one : Pz → α × Pz} {btw : ByteArray} (ho : ∀ s, s.ok L → Goes L s (one s).2) : ∀ (n : Nat) (l : List α) (s : Pz), s.ok L → Goes L s (rowR one btw n l s).2
  | 0, l, s, h => .refl h
  | n + 1, l, s, h => by
    have h1 := ((ho s h).trans fun h => most_go h ((l ++ [(one s).1]).length : Int) 8).trans fun h => take_go h [btw]
    unfold rowR
    simp only
    split
    · exact h1
    · exact h1.trans fun h => row_go ho n _ _ h
theorem allOf_go (h : s.ok L) : Goes L s (allOfR s).2 := row_go (fun s h => match_go h) _ _ _ h
theorem anyOf_go (h : s.ok L) : Goes L s (anyOfR s).2 :=
  ((must_go h [m_lp]).trans fun h => row_go (fun s h => allOf_go h) _ _ _ h).trans fun h => must_go h _
theorem target_go (h : s.ok L) : Goes L s (targetR s).2 := by
  unfold targetR
  split
  · exact take_go h _
  · exact (take_go h _).trans fun h => row_go (fun s h => anyOf_go h) _ _ _ h
theorem duties_go : ∀ (n : Nat) (l : List Dut) (s : Pz), s.ok L → Goes L s (dutiesR n l s).2
  | 0, l, s, h => .refl h
  | n + 1, l, s, h => by
    unfold dutiesR
    split
    · exact take_go h _
    · exact (((((take_go h _).trans fun h => must_go h _).trans fun h => must_go h _).trans fun h => name_go h).trans fun h => most_go h _ _).trans fun h => duties_go n _ _ h
theorem duts_go (h : s.ok L) : Goes L s (dutsR s).2 := duties_go _ _ _ h
theorem nod_go (h : s.ok L) (bag : Bool) {p : Int} (hp : 0 ≤ p ∧ p ≤ (L : Int)) (l : List Nod) (n : Nod) : Goes L s (nodR bag p l n s).2 := by
  unfold nodR
  simp only
  split
  · exact (most_go h _ _).trans fun h => fail_go h (.inl rfl) hp
  · exact most_go h _ _
/-- What a call's parts add, and what they take. -/
theorem expr_go : ∀ (n : Nat) (l : List Nod) (bag : Bool) (s : Pz), s.ok L → s.rest.length ≤ n → Goes L s (exprR n l bag s).2 ∧ (exprR n l bag s).1.length + 2 * (exprR n l bag s).2.rest.length ≤ l.length + 2 * s.rest.length + 1
  | 0, l, bag, s, h, hn => by have := h.pos; omega
  | n + 1, l, bag, s, h, hn => by
    have ht := take_go h [m_lp]
    have hp := h.hd_ok.2.1
    unfold exprR
    split
    · rename_i h0
      have hl := takeR_len h [m_lp]
      rw [if_neg (by omega)] at hl
      simp only [callR]
      generalize (takeR [m_lp] s).2 = s1 at *
      have hm := must_go ht.1 [w_one, w_size, w_has, w_eq, w_less, w_add, w_sub, w_mul, w_not, w_and, w_or]
      generalize mustR [w_one, w_size, w_has, w_eq, w_less, w_add, w_sub, w_mul, w_not, w_and, w_or] s1 = m at *
      obtain ⟨i, s2⟩ := m
      simp only at hm ⊢
      obtain ⟨he, hel⟩ := expr_go n l (isBag (2 + (i : Int))) s2 hm.1 (by have := hm.2; omega)
      generalize exprR n l (isBag (2 + (i : Int))) s2 = e at *
      obtain ⟨l3, s3⟩ := e
      simp only at he hel ⊢
      have key : ∀ f : List Nod × Pz, f = (if isTwo (2 + (i : Int)) = true then exprR n l3 false s3 else (l3, s3)) → Goes L s3 f.2 ∧ f.1.length + 2 * f.2.rest.length ≤ l3.length + 2 * s3.rest.length + 1 := by
        intro f hf
        split at hf
        · subst hf
          exact expr_go n l3 false s3 he.1 (by have := hm.2; have := he.2; omega)
        · subst hf
          exact ⟨.refl he.1, by simp only; omega⟩
      obtain ⟨hf, hfl⟩ := key _ rfl
      generalize (if isTwo (2 + (i : Int)) = true then exprR n l3 false s3 else (l3, s3)) = f at *
      obtain ⟨l4, s4⟩ := f
      simp only at hf hfl ⊢
      have hr := must_go hf.1 [m_rp]
      have hN := nod_go hr.1 bag hp l4 ⟨2 + (i : Int), zeroV, zeroA⟩
      refine ⟨⟨hN.1, ?_⟩, ?_⟩
      · have := hN.2; have := hr.2; have := hf.2; have := he.2; have := hm.2; have := ht.2; omega
      · have e1 : (nodR bag s.hd.p l4 ⟨2 + (i : Int), zeroV, zeroA⟩ (mustR [m_rp] s4).2).1.length = l4.length + 1 := by simp [nodR]
        have := hN.2; have := hr.2; have := hf.2; have := he.2; have := hm.2
        omega
    · have hlf := leaf_go ht.1
      have hN := nod_go hlf.1 bag hp l (leafR (takeR [m_lp] s).2).1
      have hl := takeR_len h [m_lp]
      refine ⟨⟨hN.1, ?_⟩, ?_⟩
      · have := hN.2; have := hlf.2; have := ht.2; omega
      · have e1 : (nodR bag s.hd.p l (leafR (takeR [m_lp] s).2).1 (leafR (takeR [m_lp] s).2).2).1.length = l.length + 1 := by simp [nodR]
        have := hN.2; have := hlf.2
        omega
theorem cond_go (h : s.ok L) : Goes L s (condR s).2 := by
  unfold condR
  split
  · exact take_go h _
  · exact (take_go h _).trans fun h => (expr_go _ [] false _ h (Nat.le_refl _)).1
theorem rule_go (h : s.ok L) : Goes L s (ruleR s).2 := by
  have h1 := must_go h [w_permit, w_deny]
  have h2 := h1.trans fun h => name_go h
  have h3 := h2.trans fun h => target_go h
  have h4 := h3.trans fun h => cond_go h
  have h5 := h4.trans fun h => duts_go h
  have h6 := h5.trans fun h => must_go h [m_semi]
  unfold ruleR
  simp only
  exact h6

/-! ### What is read is such as Go has -/
theorem zeroV_ok : zeroV.ok := by decide
theorem zeroA_ok : zeroA.ok := by decide
theorem attr_ok (h : s.ok L) {cat : Int} (hc : InI cat) : (attrR cat s).1.ok := by
  have h1 : Goes L s (if cat = 0 then wrongR s else s) := by
    split
    · exact wrong_go h
    · exact .refl h
  exact ⟨hc, nameR_size (h1.trans fun h => must_go h [m_dot]).1⟩
theorem in_small {n : Int} (h1 : -100 ≤ n) (h2 : n ≤ 100) : InI n := by unfold InI; omega
theorem kindR_in (k : Int) : InI (kindR k) := by
  unfold kindR
  repeat' split
  all_goals exact in_small (by omega) (by omega)
theorem value_ok (h : s.ok L) : (valueR s).1.ok := by
  unfold valueR
  split
  · have := mustR_le [w_false, w_true] s
    have : (mustR [w_false, w_true] s).1 ≤ 2 := this
    exact ⟨in_small (by show -100 ≤ (1 : Int); omega) (by show (1 : Int) ≤ 100; omega), in_small (by show -100 ≤ ((mustR [w_false, w_true] s).1 : Int) - 1; omega) (by show ((mustR [w_false, w_true] s).1 : Int) - 1 ≤ 100; omega), Nat.zero_le _⟩
  · exact ⟨kindR_in _, h.hd_ok.2.2.1, h.hd_ok.2.2.2⟩
theorem cat_in (s : Pz) : InI ((catR s).1 : Int) := by
  have : (catR s).1 ≤ 4 := takeR_le _ _
  exact in_small (by omega) (by omega)
theorem match_ok (h : s.ok L) : (matchR s).1.ok := by
  have h1 : (catR s).2.ok L := h.take _
  have h2 := attr_go h1 ((catR s).1 : Int)
  have h3 : (mustR [m_eqm, m_lt, m_gt] (attrR ((catR s).1 : Int) (catR s).2).2).1 ≤ 3 := mustR_le _ _
  exact ⟨attr_ok h1 (cat_in s), in_small (by show -100 ≤ ((mustR [m_eqm, m_lt, m_gt] (attrR ((catR s).1 : Int) (catR s).2).2).1 : Int); omega) (by show ((mustR [m_eqm, m_lt, m_gt] (attrR ((catR s).1 : Int) (catR s).2).2).1 : Int) ≤ 100; omega), value_ok (h2.trans fun h => must_go h _).1⟩
theorem leaf_ok (h : s.ok L) : (leafR s).1.ok := by
  have h1 : (catR s).2.ok L := h.take _
  unfold leafR
  split
  · exact ⟨in_small (by show -100 ≤ (2 : Int); omega) (by show (2 : Int) ≤ 100; omega), zeroV_ok, attr_ok h1 (cat_in s)⟩
  · exact ⟨in_small (by show -100 ≤ (1 : Int); omega) (by show (1 : Int) ≤ 100; omega), value_ok h1, zeroA_ok⟩
end
end Go.Proofs.YtincnopaclmppaaDoor
/- The parser, plainly: who counts rules; what takes a token. -/
namespace Go.Proofs.YtincnopaclmppaaDoor
set_option linter.unusedVariables false

section
variable {L : Nat} {s s1 s2 : Pz}
theorem failR_met (e p : Int) (s : Pz) : (failR e p s).met = s.met := by unfold failR; split <;> rfl
theorem wrongR_met (s : Pz) : (wrongR s).met = s.met := failR_met _ _ _
theorem mostR_met (n l : Int) (s : Pz) : (mostR n l s).met = s.met := by
  unfold mostR
  split
  · exact failR_met _ _ _
  · rfl
theorem takeR_met (ws : List ByteArray) (s : Pz) : (takeR ws s).2.met = s.met := by unfold takeR; split <;> rfl
theorem mustR_met (ws : List ByteArray) (s : Pz) : (mustR ws s).2.met = s.met := by
  unfold mustR
  split
  · exact wrongR_met _
  · rfl
theorem nameR_met (s : Pz) : (nameR s).2.met = s.met := by
  unfold nameR
  split
  · rfl
  · exact wrongR_met _
theorem attrR_met (cat : Int) (s : Pz) : (attrR cat s).2.met = s.met := by
  unfold attrR
  simp only
  rw [takeR_met, nameR_met, mustR_met]
  split
  · exact wrongR_met _
  · rfl
theorem valueR_met (s : Pz) : (valueR s).2.met = s.met := by
  unfold valueR
  split
  · exact mustR_met _ _
  · rfl
theorem catR_met (s : Pz) : (catR s).2.met = s.met := takeR_met _ _
theorem matchR_met (s : Pz) : (matchR s).2.met = s.met := by
  unfold matchR
  simp only
  rw [valueR_met, mustR_met, attrR_met, catR_met]
theorem leafR_met (s : Pz) : (leafR s).2.met = s.met := by
  unfold leafR
  split
  · simp only; rw [attrR_met, catR_met]
  · simp only; rw [valueR_met, catR_met]
theorem rowR_met {α : Type} {one : Pz → α × Pz} {btw : ByteArray} (ho : ∀ s, (one s).2.met = s.met) : ∀ (n : Nat) (l : List α) (s : Pz), (rowR one btw n l s).2.met = s.met
  | 0, _, _ => rfl
  | n + 1, l, s => by
    unfold rowR
    simp only
    split
    · rw [takeR_met, mostR_met, ho]
    · rw [rowR_met ho n, takeR_met, mostR_met, ho]
theorem allOfR_met (s : Pz) : (allOfR s).2.met = s.met := rowR_met matchR_met _ _ _
theorem anyOfR_met (s : Pz) : (anyOfR s).2.met = s.met := by
  unfold anyOfR
  simp only
  rw [mustR_met, rowR_met allOfR_met, mustR_met]
theorem targetR_met (s : Pz) : (targetR s).2.met = s.met := by
  unfold targetR
  split
  · exact takeR_met _ _
  · rw [rowR_met anyOfR_met, takeR_met]
theorem dutiesR_met : ∀ (n : Nat) (l : List Dut) (s : Pz), (dutiesR n l s).2.met = s.met
  | 0, _, _ => rfl
  | n + 1, l, s => by
    unfold dutiesR
    split
    · exact takeR_met _ _
    · simp only
      rw [dutiesR_met n, mostR_met, nameR_met, mustR_met, mustR_met, takeR_met]
theorem dutsR_met (s : Pz) : (dutsR s).2.met = s.met := dutiesR_met _ _ _
theorem nodR_met (bag : Bool) (p : Int) (l : List Nod) (n : Nod) (s : Pz) : (nodR bag p l n s).2.met = s.met := by
  unfold nodR
  simp only
  split
  · rw [failR_met, mostR_met]
  · rw [mostR_met]
theorem callR_met {ex : List Nod → Bool → Pz → List Nod × Pz} (he : ∀ l b s, (ex l b s).2.met = s.met) (l : List Nod) (s : Pz) : (callR ex l s).2.2.met = s.met := by
  unfold callR
  simp only
  rw [mustR_met]
  split
  · rw [he, he, mustR_met]
  · rw [he, mustR_met]
theorem exprR_met : ∀ (n : Nat) (l : List Nod) (b : Bool) (s : Pz), (exprR n l b s).2.met = s.met
  | 0, _, _, _ => rfl
  | n + 1, l, b, s => by
    unfold exprR
    split
    · simp only
      rw [nodR_met, callR_met (exprR_met n), takeR_met]
    · rw [nodR_met, leafR_met, takeR_met]
theorem condR_met (s : Pz) : (condR s).2.met = s.met := by
  unfold condR
  split
  · exact takeR_met _ _
  · rw [exprR_met, takeR_met]
theorem ruleR_met (s : Pz) : (ruleR s).2.met = s.met := by
  unfold ruleR
  simp only
  rw [mustR_met, dutsR_met, condR_met, targetR_met, nameR_met, mustR_met]

/-- Either nothing was too many, or the end alone is left. -/
theorem most_or (h : s.ok L) (n l : Int) : mostR n l s = s ∨ (mostR n l s).rest.length = 1 := by
  unfold mostR
  split
  · exact .inr (failR_len _ _ h)
  · exact .inl rfl
theorem sees_more (h : s.ok L) {ws : List ByteArray} (h0 : seesR ws s ≠ 0) : 2 ≤ s.rest.length := h.more (seesR_more h h0)
theorem sees_one (h : s.ok L) (h1 : s.rest.length = 1) (ws : List ByteArray) : seesR ws s = 0 := by
  apply Decidable.byContradiction
  intro h0
  have := sees_more h h0
  omega
theorem must_one (h : s.ok L) (h1 : s.rest.length = 1) (ws : List ByteArray) : (mustR ws s).1 = 0 := by
  unfold mustR
  rw [if_pos (sees_one h h1 ws)]
theorem must_less (h : s.ok L) {ws : List ByteArray} (h0 : seesR ws s ≠ 0) : (mustR ws s).2.rest.length + 1 = s.rest.length := by
  have := sees_more h h0
  unfold mustR
  rw [if_neg h0]
  show (nextR s).rest.length + 1 = _
  rw [nextR_len]
  omega
theorem rule_less (h : s.ok L) (h0 : seesR [w_permit, w_deny] s ≠ 0) : (ruleR s).2.rest.length < s.rest.length := by
  have h1 := must_less h h0
  have h2 := (((((Goes.refl (h.must [w_permit, w_deny])).trans fun h => name_go h).trans fun h => target_go h).trans fun h => cond_go h).trans fun h => duts_go h).trans fun h => must_go h [m_semi]
  have h3 : (ruleR s).2.rest.length ≤ (mustR [w_permit, w_deny] s).2.rest.length := by unfold ruleR; simp only; exact h2.2
  omega
/-- One more rule is met. -/
theorem met_ok (h : s.ok L) (hm : s.met + s.rest.length ≤ 5990) : (metR s).ok L := by
  obtain ⟨h1, h2, h3, h4⟩ := h
  exact ⟨h1, h2, ⟨h3.1, by show s.met + 1 + s.rest.length ≤ 6000; omega, h3.2.2⟩, h4⟩
theorem metR_sees (ws : List ByteArray) (s : Pz) : seesR ws (metR s) = seesR ws s := rfl
/-- What a round of rules leaves. -/
theorem round_rule (h : s.ok L) (hm : s.met + s.rest.length ≤ 5990) (h0 : seesR [w_permit, w_deny] s ≠ 0) (n : Int) :
    (mostR n 16 (metR s)).ok L ∧ (mostR ((mostR n 16 (metR s)).met : Int) 64 (mostR n 16 (metR s))).ok L ∧ (mostR n 16 (metR s)).met = s.met + 1 ∧
    Goes L s (ruleR (mostR ((mostR n 16 (metR s)).met : Int) 64 (mostR n 16 (metR s)))).2 ∧ (ruleR (mostR ((mostR n 16 (metR s)).met : Int) 64 (mostR n 16 (metR s)))).2.rest.length < s.rest.length ∧
    (ruleR (mostR ((mostR n 16 (metR s)).met : Int) 64 (mostR n 16 (metR s)))).2.met = s.met + 1 := by
  have k0 := met_ok h hm
  have k1 := k0.most n 16
  have e1 : (mostR n 16 (metR s)).met = s.met + 1 := mostR_met _ _ _
  have k2 := k1.most ((mostR n 16 (metR s)).met : Int) 64
  have hr : (metR s).rest.length = s.rest.length := rfl
  have l2 := sees_more h h0
  have lr := rule_go k2
  have key : (ruleR (mostR ((mostR n 16 (metR s)).met : Int) 64 (mostR n 16 (metR s)))).2.rest.length < s.rest.length := by
    rcases most_or k1 ((mostR n 16 (metR s)).met : Int) 64 with e | e
    · rcases most_or k0 n 16 with e' | e'
      · rw [e, e']
        have := rule_less k0 (by rw [metR_sees]; exact h0)
        omega
      · have := lr.2
        rw [e] at this ⊢
        omega
    · have := lr.2
      omega
  refine ⟨k1, k2, e1, ⟨lr.1, by omega⟩, key, ?_⟩
  rw [ruleR_met, mostR_met, e1]
theorem rules_go : ∀ (n : Nat) (l : List Rul) (s : Pz), s.ok L → s.met + s.rest.length ≤ 5990 → Goes L s (rulesR n l s).2 ∧ (rulesR n l s).2.met + (rulesR n l s).2.rest.length ≤ s.met + s.rest.length
  | 0, l, s, h, hm => ⟨.refl h, Nat.le_refl _⟩
  | n + 1, l, s, h, hm => by
    unfold rulesR
    split
    · exact ⟨.refl h, Nat.le_refl _⟩
    · rename_i h0
      obtain ⟨k1, k2, e1, g, hl, hmt⟩ := round_rule h hm h0 ((l.length : Int) + 1)
      simp only
      obtain ⟨a, b⟩ := rules_go n (l ++ [(ruleR (mostR ((mostR ((l.length : Int) + 1) 16 (metR s)).met : Int) 64 (mostR ((l.length : Int) + 1) 16 (metR s)))).1]) _ g.1 (by omega)
      exact ⟨g.trans fun _ => a, by omega⟩
/-- A policy's reader: what it leaves. -/
def PoGo (L : Nat) (po : Pz → Pol × Pz) : Prop := ∀ s : Pz, s.ok L → s.met + s.rest.length ≤ 5990 → Goes L s (po s).2 ∧ (po s).2.met + (po s).2.rest.length ≤ s.met + s.rest.length ∧ (seesR [w_policy, w_set] s ≠ 0 → (po s).2.rest.length < s.rest.length)
theorem most_sum (h : s.ok L) (n l : Int) : (mostR n l s).met + (mostR n l s).rest.length ≤ s.met + s.rest.length := by
  have := mostR_len h n l
  rw [mostR_met]
  omega
theorem round_kid {po : Pz → Pol × Pz} (hp : PoGo L po) (h : s.ok L) (hm : s.met + s.rest.length ≤ 5990) (h0 : seesR [w_policy, w_set] s ≠ 0) (n : Int) :
    Goes L s (po (mostR n 16 s)).2 ∧ (po (mostR n 16 s)).2.rest.length < s.rest.length ∧ (po (mostR n 16 s)).2.met + (po (mostR n 16 s)).2.rest.length ≤ s.met + s.rest.length := by
  have k1 := h.most n 16
  have l1 := mostR_len h n 16
  have m1 := most_sum h n 16
  have l2 := sees_more h h0
  obtain ⟨a, b, c⟩ := hp _ k1 (by omega)
  refine ⟨⟨a.1, Nat.le_trans a.2 l1⟩, ?_, by omega⟩
  rcases most_or h n 16 with e | e
  · rw [e] at c ⊢
    exact c h0
  · have := a.2
    omega
theorem kids_go {po : Pz → Pol × Pz} (hp : PoGo L po) : ∀ (n : Nat) (l : List Pol) (s : Pz), s.ok L → s.met + s.rest.length ≤ 5990 → Goes L s (kidsR po n l s).2 ∧ (kidsR po n l s).2.met + (kidsR po n l s).2.rest.length ≤ s.met + s.rest.length
  | 0, l, s, h, hm => ⟨.refl h, Nat.le_refl _⟩
  | n + 1, l, s, h, hm => by
    unfold kidsR
    split
    · exact ⟨.refl h, Nat.le_refl _⟩
    · rename_i h0
      obtain ⟨g, hl, hmt⟩ := round_kid hp h hm h0 ((l.length : Int) + 1)
      simp only
      obtain ⟨a, b⟩ := kids_go hp n (l ++ [(po (mostR ((l.length : Int) + 1) 16 s)).1]) _ g.1 (by omega)
      exact ⟨g.trans fun _ => a, by omega⟩
/-- .. and the rules are not more than the tokens. -/
def Go2 (L : Nat) (s s' : Pz) : Prop := Goes L s s' ∧ s'.met + s'.rest.length ≤ s.met + s.rest.length
theorem Go2.of (g : Goes L s s1) (m : s1.met = s.met) : Go2 L s s1 := ⟨g, by have := g.2; omega⟩
theorem Go2.trans (h1 : Go2 L s s1) (h2 : s1.ok L → Go2 L s1 s2) : Go2 L s s2 := ⟨h1.1.trans fun h => (h2 h).1, Nat.le_trans (h2 h1.1.1).2 h1.2⟩
abbrev w_algs : List ByteArray := [w_denyover, w_permitover, w_first, w_only, w_denyunless, w_permitunless]
/-- What stands in a policy's brackets. -/
def inR (f : Nat) (a : Nat) (s : Pz) : List Rul × List Pol × Pz :=
  if a = 2 then ([], kidsR (polR f) s.rest.length [] s) else ((rulesR s.rest.length [] s).1, [], (rulesR s.rest.length [] s).2)
theorem polR_eq (f : Nat) (s : Pz) {s0 s1 s2 s3 s4 s5 s6 s7 s8 : Pz} {a c d e : Nat} {b : ByteArray} {t : Tgt} {r : List Rul} {k : List Pol} {o : List Dut} (h0 : mostR (5 - (f : Int)) 4 s = s0) (h1 : mustR [w_policy, w_set] s0 = (a, s1)) (h2 : nameR s1 = (b, s2)) (h3 : mustR w_algs s2 = (c, s3))
    (h4 : targetR s3 = (t, s4)) (h5 : mustR [m_lb] s4 = (d, s5)) (h6 : inR f a s5 = (r, k, s6)) (h7 : mustR [m_rb] s6 = (e, s7)) (h8 : dutsR s7 = (o, s8)) :
    polR (f + 1) s = (.mk b (decide (a = 2)) (c : Int) t r k o, s8) := by
  unfold polR
  simp only [h0, h1, h2, h3, h4, h5]
  unfold inR at h6
  split at h6
  · rename_i ha
    have e1 : ((kidsR (polR f) s5.rest.length [] s5).1, (kidsR (polR f) s5.rest.length [] s5).2) = (k, s6) := by injection h6
    have e2 : ([] : List Rul) = r := by injection h6
    injection e1 with e3 e4
    subst e2 e3 e4
    simp only [if_pos ha, h7, h8]
  · rename_i ha
    injection h6 with e1 e2
    injection e2 with e2 e3
    subst e1 e2 e3
    simp only [if_neg ha, h7, h8]
theorem pol_step (f : Nat) (ih : ∀ f', f = f' + 1 → PoGo L (polR f)) : ∀ s : Pz, s.ok L → s.met + s.rest.length ≤ 5990 → ∀ {a : Nat} {s1 : Pz}, mustR [w_policy, w_set] (mostR (5 - (f : Int)) 4 s) = (a, s1) →
    ∀ s5 : Pz, Go2 L s1 s5 → s5.ok L → s5.met + s5.rest.length ≤ 5990 → Go2 L s5 (inR f a s5).2.2 := by
  intro s h hm a s1 h1 s5 g5 k5 m5
  unfold inR
  split
  · rename_i ha
    match f, ih with
    | 0, ih =>
      have h5 : (mostR (5 - ((0 : Nat) : Int)) 4 s).rest.length = 1 := by
        unfold mostR
        rw [if_pos (by omega)]
        exact failR_len _ _ h
      have := must_one (h.most (5 - ((0 : Nat) : Int)) 4) h5 [w_policy, w_set]
      rw [h1] at this
      simp only at this
      omega
    | f' + 1, ih => exact kids_go (ih f' rfl) _ _ _ k5 m5
  · exact rules_go _ _ _ k5 m5
theorem pol_key (f : Nat) (ih : ∀ f', f = f' + 1 → PoGo L (polR f)) : PoGo L (polR (f + 1)) := by
  intro s h hm
  obtain ⟨s0, h0⟩ : ∃ t, mostR (5 - (f : Int)) 4 s = t := ⟨_, rfl⟩
  obtain ⟨a, s1, h1⟩ : ∃ a t, mustR [w_policy, w_set] s0 = (a, t) := ⟨_, _, rfl⟩
  obtain ⟨b, s2, h2⟩ : ∃ a t, nameR s1 = (a, t) := ⟨_, _, rfl⟩
  obtain ⟨c, s3, h3⟩ : ∃ a t, mustR w_algs s2 = (a, t) := ⟨_, _, rfl⟩
  obtain ⟨t, s4, h4⟩ : ∃ a t, targetR s3 = (a, t) := ⟨_, _, rfl⟩
  obtain ⟨d, s5, h5⟩ : ∃ a t, mustR [m_lb] s4 = (a, t) := ⟨_, _, rfl⟩
  obtain ⟨r, k, s6, h6⟩ : ∃ x y z, inR f a s5 = (x, y, z) := ⟨_, _, _, rfl⟩
  obtain ⟨e, s7, h7⟩ : ∃ a t, mustR [m_rb] s6 = (a, t) := ⟨_, _, rfl⟩
  obtain ⟨o, s8, h8⟩ : ∃ a t, dutsR s7 = (a, t) := ⟨_, _, rfl⟩
  have G0 : Go2 L s s0 := .of (h0 ▸ most_go h _ _) (h0 ▸ mostR_met _ _ _)
  have k0 := G0.1.1
  have G1 : Go2 L s0 s1 := .of (by have := must_go k0 [w_policy, w_set]; rwa [h1] at this) (by have := mustR_met [w_policy, w_set] s0; rwa [h1] at this)
  have k1 := G1.1.1
  have G2 : Go2 L s1 s2 := .of (by have := name_go k1; rwa [h2] at this) (by have := nameR_met s1; rwa [h2] at this)
  have k2 := G2.1.1
  have G3 : Go2 L s2 s3 := .of (by have := must_go k2 w_algs; rwa [h3] at this) (by have := mustR_met w_algs s2; rwa [h3] at this)
  have k3 := G3.1.1
  have G4 : Go2 L s3 s4 := .of (by have := target_go k3; rwa [h4] at this) (by have := targetR_met s3; rwa [h4] at this)
  have k4 := G4.1.1
  have G5 : Go2 L s4 s5 := .of (by have := must_go k4 [m_lb]; rwa [h5] at this) (by have := mustR_met [m_lb] s4; rwa [h5] at this)
  have k5 := G5.1.1
  have G15 : Go2 L s1 s5 := ((G2.trans fun _ => G3).trans fun _ => G4).trans fun _ => G5
  have G6 : Go2 L s5 s6 := by
    have := pol_step f ih s h hm (by rw [h0]; exact h1) s5 G15 k5 (by have := G0.2; have := G1.2; have := G15.2; omega)
    rwa [h6] at this
  have k6 := G6.1.1
  have G7 : Go2 L s6 s7 := .of (by have := must_go k6 [m_rb]; rwa [h7] at this) (by have := mustR_met [m_rb] s6; rwa [h7] at this)
  have k7 := G7.1.1
  have G8 : Go2 L s7 s8 := .of (by have := duts_go k7; rwa [h8] at this) (by have := dutsR_met s7; rwa [h8] at this)
  have G18 : Go2 L s1 s8 := ((G15.trans fun _ => G6).trans fun _ => G7).trans fun _ => G8
  have G08 := G0.trans fun _ => G1.trans fun _ => G18
  rw [polR_eq f s h0 h1 h2 h3 h4 h5 h6 h7 h8]
  refine ⟨G08.1, G08.2, fun hs => ?_⟩
  have l2 := sees_more h hs
  have := G18.1.2
  rcases most_or h (5 - (f : Int)) 4 with e | e
  · rw [h0] at e
    subst e
    have := must_less k0 hs
    rw [h1] at this
    simp only at this ⊢
    omega
  · rw [h0] at e
    have := G1.1.2
    simp only
    omega
theorem pol_go : ∀ f : Nat, PoGo L (polR (f + 1))
  | 0 => pol_key 0 (fun f' e => by omega)
  | f + 1 => pol_key (f + 1) (fun f' e => by obtain rfl : f = f' := by omega
                                             exact pol_go f)
end
end Go.Proofs.YtincnopaclmppaaDoor
/- The parser, plainly: the tokens it begins with; what it answers. -/
namespace Go.Proofs.YtincnopaclmppaaDoor
set_option linter.unusedVariables false

theorem decD_le {most : Nat} {d : List UInt8} {x : Nat} (h : decD most d = some x) : x ≤ most := by
  unfold decD at h
  split at h
  · cases h
  · rename_i hn
    cases h
    exact Nat.le_of_not_lt fun h => hn (.inr (.inr h))
/-- A token's numbers are such as Go has. -/
theorem tokB_in {l : List UInt8} {k n : Int} {s : List UInt8} {m : Nat} (h : tokB l = some (k, n, s, m)) : (1 ≤ k ∧ k ≤ 6) ∧ InI n := by
  cases l with
  | nil => cases h
  | cons c r =>
    rw [tokB] at h
    have z : InI 0 := by unfold InI; omega
    split at h
    · split at h
      · cases h; exact ⟨by omega, z⟩
      · cases h
    · split at h
      · cases hq : decD 9223372036854775807 ((c :: r).takeWhile dgt) with
        | none => rw [hq] at h; cases h
        | some x =>
          have := decD_le hq
          rw [hq] at h
          cases h
          exact ⟨by omega, by unfold InI; omega⟩
      · split at h
        · cases hq : decD 9223372036854775808 (r.takeWhile dgt) with
          | none => rw [hq] at h; cases h
          | some x =>
            have := decD_le hq
            rw [hq] at h
            simp only [Option.bind_some] at h
            split at h
            · cases h
            · cases h; exact ⟨by omega, by unfold InI; omega⟩
        · split at h
          · cases hq : decD 1099511627776 (r.takeWhile dgt) with
            | none => rw [hq] at h; cases h
            | some x =>
              have := decD_le hq
              rw [hq] at h; cases h; exact ⟨by omega, by unfold InI; omega⟩
          · split at h
            · split at h
              · cases h; exact ⟨by omega, z⟩
              · cases h
            · split at h
              · cases hq : qtB r with
                | none => rw [hq] at h; cases h
                | some q =>
                  rw [hq] at h
                  simp only [Option.bind_some] at h
                  split at h
                  · cases h; exact ⟨by omega, z⟩
                  · cases h
              · split at h
                · cases h; exact ⟨by omega, z⟩
                · cases h
theorem lexB_in : ∀ (n : Nat) (l : List UInt8) (p : Nat) (ts : List Tk), l.length ≤ n → lexB l p = .ok ts → ∀ t ∈ ts, InI t.k ∧ InI t.n ∧ t.s.size ≤ l.length
  | n, [], p, ts, _, h => by
    rw [lexB_nil] at h
    cases h
    intro t ht
    simp at ht
    subst ht
    refine ⟨by unfold InI; simp, by unfold InI; simp, Nat.zero_le _⟩
  | 0, c :: r, p, ts, hl, h => by simp at hl
  | n + 1, c :: r, p, ts, hl, h => by
    cases hb : blk c with
    | true =>
      rw [lexB_blank hb] at h
      intro t ht
      obtain ⟨a, b, c⟩ := lexB_in n r (p + 1) ts (by simpa using hl) h t ht
      exact ⟨a, b, by simp only [List.length_cons]; omega⟩
    | false =>
      cases hq : tokB (c :: r) with
      | none => rw [lexB_bad hb hq] at h; cases h
      | some q =>
        obtain ⟨k, m, s, j⟩ := q
        rw [lexB_tok hb hq] at h
        obtain ⟨j1, j2, j3⟩ := tokB_pos hq
        obtain ⟨⟨k1, k2⟩, hn⟩ := tokB_in hq
        cases hr : lexB ((c :: r).drop j) (p + j) with
        | error e => rw [hr] at h; cases h
        | ok us =>
          rw [hr] at h
          simp only [cat, Except.ok.injEq] at h
          subst h
          intro t ht
          rcases List.mem_append.1 ht with ht | ht
          · simp at ht
            subst ht
            exact ⟨in_small (by show -100 ≤ k; omega) (by show k ≤ 100; omega), hn, by show s.toArray.size ≤ _; simp only [List.size_toArray]; omega⟩
          · obtain ⟨a, b, d⟩ := lexB_in n _ _ us (by simp only [List.length_drop]; simp only [List.length_cons] at hl ⊢; omega) hr t ht
            exact ⟨a, b, by simp only [List.length_drop] at d; omega⟩
/-- The state that the parser begins with. -/
theorem start_ok {s : ByteArray} {ts : List Tk} (hs : s.size ≤ 4096) (h : lexB s.data.toList 0 = .ok ts) : (⟨ts, 0, 0, 0⟩ : Pz).ok s.size ∧ ts.length ≤ 4097 := by
  have hl : s.data.toList.length = s.size := rfl
  obtain ⟨us, e, hu⟩ := lexB_ne _ _ 0 ts (Nat.le_refl _) h
  have hp := lexB_places _ _ 0 ts (Nat.le_refl _) h
  have hi := lexB_in _ _ 0 ts (Nat.le_refl _) h
  rw [hl] at hu hp hi
  have hlen : ts.length ≤ 4097 := by rw [e]; simp; omega
  refine ⟨⟨⟨_, by rw [e]; exact List.getLast?_concat, rfl⟩, fun t ht => ?_, ⟨by show ts.length ≤ 5000; omega, by show 0 + ts.length ≤ 6000; omega, hs⟩, .inl rfl, Int.le_refl _, by show (0 : Int) ≤ (s.size : Int); omega⟩, hlen⟩
  obtain ⟨a, b, c⟩ := hi t ht
  obtain ⟨d, f⟩ := hp t ht
  exact ⟨a, ⟨by omega, by omega⟩, b, by unfold maxLen; omega⟩
theorem pair_eq {α β : Type} (x : α × β) : ∃ a b, x = (a, b) := ⟨x.1, x.2, rfl⟩
/-- What parseR comes to. -/
theorem parseR_big {s : ByteArray} (h : 4096 < s.size) : parseR s = (noPol, 6, 4096) := by unfold parseR; rw [if_pos h]
theorem parseR_bad {s : ByteArray} {p : Nat} (h : s.size ≤ 4096) (hl : lexB s.data.toList 0 = .error p) : parseR s = (noPol, 5, (p : Int)) := by unfold parseR; rw [if_neg (by omega), hl]
theorem parseR_ok {s : ByteArray} {ts : List Tk} {p : Pol} {s1 z : Pz} (h : s.size ≤ 4096) (hl : lexB s.data.toList 0 = .ok ts) (hp : polR 5 ⟨ts, 0, 0, 0⟩ = (p, s1)) (hz : endR s1 = z) :
    parseR s = if z.err = 0 then (if rightE p = 0 then (p, 0, 0) else (noPol, 5, (s.size : Int))) else (noPol, z.err, z.at_) := by
  unfold parseR
  rw [if_neg (by omega), hl]
  simp only [hp, hz]
/-- An error is one of the two, and its place is in the text. -/
theorem parseR_err (s : ByteArray) (hs : s.size ≤ 4096) : (parseR s).2.1 = 0 ∧ (parseR s).2.2 = 0 ∧ rightE (parseR s).1 = 0 ∨ ((parseR s).2.1 = 5 ∨ (parseR s).2.1 = 6) ∧ (parseR s).1 = noPol ∧ 0 ≤ (parseR s).2.2 ∧ (parseR s).2.2 ≤ (s.size : Int) := by
  cases hl : lexB s.data.toList 0 with
  | error p =>
    rw [parseR_bad hs hl]
    have := lexB_err_le _ _ 0 p (Nat.le_refl _) hl
    have e : s.data.toList.length = s.size := rfl
    exact .inr ⟨.inl rfl, rfl, by show (0 : Int) ≤ (p : Int); omega, by show (p : Int) ≤ _; omega⟩
  | ok ts =>
    obtain ⟨h0, hlen⟩ := start_ok hs hl
    have g := (pol_go (L := s.size) 4 ⟨ts, 0, 0, 0⟩ h0 (by show 0 + ts.length ≤ 5990; omega)).1
    obtain ⟨q, s1, hq⟩ := pair_eq (polR 5 ⟨ts, 0, 0, 0⟩)
    change Goes _ _ (polR 5 _).2 at g
    rw [hq] at g
    have k := (end_go g.1).1
    obtain ⟨z, hz⟩ : ∃ z, endR s1 = z := ⟨_, rfl⟩
    rw [parseR_ok hs hl hq hz]
    change (endR s1).ok _ at k
    rw [hz] at k
    split
    · split
      · rename_i hr
        exact .inl ⟨rfl, rfl, hr⟩
      · exact .inr ⟨.inl rfl, rfl, by show (0 : Int) ≤ (s.size : Int); omega, Int.le_refl _⟩
    · rename_i he
      exact .inr ⟨k.2.2.2.1.resolve_left he, rfl, k.2.2.2.2.1, k.2.2.2.2.2⟩
end Go.Proofs.YtincnopaclmppaaDoor
/- The parser, plainly: places don't matter to what is read. -/
namespace Go.Proofs.YtincnopaclmppaaDoor
set_option linter.unusedVariables false

/-- A token without its place; a state without places. -/
def Tk.z (t : Tk) : Tk := ⟨t.k, 0, t.n, t.s⟩
def Pz.st (s : Pz) : Pz := ⟨s.rest.map Tk.z, s.met, s.err, 0⟩
section
variable {s : Pz}
theorem st_hd : s.st.hd = s.hd.z := by
  unfold Pz.hd Pz.st
  cases s.rest <;> rfl
theorem st_len : s.st.rest.length = s.rest.length := List.length_map ..
theorem st_fail (e a : Int) (s : Pz) : failR e 0 s.st = (failR e a s).st := by
  unfold failR
  show (if s.err = 0 then _ else _) = _
  split <;> simp [Pz.st, List.map_drop]
theorem st_wrong : wrongR s.st = (wrongR s).st := by
  unfold wrongR
  rw [st_hd]
  exact st_fail 5 _ s
theorem st_most (n l : Int) : mostR n l s.st = (mostR n l s).st := by
  unfold mostR
  split
  · rw [st_hd]
    exact st_fail 6 _ s
  · rfl
theorem st_sees (ws : List ByteArray) : seesR ws s.st = seesR ws s := by
  unfold seesR
  rw [st_hd]
  rfl
theorem st_next : nextR s.st = (nextR s).st := by
  unfold nextR
  simp [Pz.st]
theorem st_take (ws : List ByteArray) : takeR ws s.st = ((takeR ws s).1, (takeR ws s).2.st) := by
  unfold takeR
  rw [st_sees]
  split
  · rfl
  · rw [st_next]
theorem st_must (ws : List ByteArray) : mustR ws s.st = ((mustR ws s).1, (mustR ws s).2.st) := by
  unfold mustR
  rw [st_sees]
  split
  · rw [st_wrong]
  · rw [st_next]
theorem st_end : endR s.st = (endR s).st := by
  unfold endR
  rw [st_hd]
  show (if s.hd.k = 7 then _ else _) = _
  split
  · rfl
  · exact st_wrong
theorem st_name : nameR s.st = ((nameR s).1, (nameR s).2.st) := by
  unfold nameR
  rw [st_hd]
  show (if s.hd.k = 1 then _ else _) = _
  split
  · rw [st_next]; rfl
  · rw [st_wrong]
theorem st_cat : catR s.st = ((catR s).1, (catR s).2.st) := st_take _
theorem st_attr (cat : Int) (s : Pz) : attrR cat s.st = ((attrR cat s).1, (attrR cat s).2.st) := by
  have h0 : (if cat = 0 then wrongR s.st else s.st) = (if cat = 0 then wrongR s else s).st := by
    split
    · exact st_wrong
    · rfl
  unfold attrR
  simp only
  rw [h0, st_must]
  simp only
  rw [st_name]
  simp only
  rw [st_take]
theorem st_value (s : Pz) : valueR s.st = ((valueR s).1, (valueR s).2.st) := by
  unfold valueR
  rw [st_hd, st_must, st_next]
  show (if kindR s.hd.k = 1 then _ else _) = _
  split <;> rfl
theorem st_match (s : Pz) : matchR s.st = ((matchR s).1, (matchR s).2.st) := by
  unfold matchR
  simp only
  rw [st_cat]
  simp only
  rw [st_attr]
  simp only
  rw [st_must]
  simp only
  rw [st_value]
theorem st_leaf (s : Pz) : leafR s.st = ((leafR s).1, (leafR s).2.st) := by
  unfold leafR
  rw [st_cat]
  simp only
  rw [st_attr, st_value]
  split <;> rfl
theorem st_row {α : Type} {one : Pz → α × Pz} {btw : ByteArray} (ho : ∀ s : Pz, one s.st = ((one s).1, (one s).2.st)) : ∀ (n : Nat) (l : List α) (s : Pz), rowR one btw n l s.st = ((rowR one btw n l s).1, (rowR one btw n l s).2.st)
  | 0, l, s => rfl
  | n + 1, l, s => by
    unfold rowR
    simp only
    rw [ho]
    simp only
    rw [st_most, st_take]
    simp only
    split
    · rfl
    · exact st_row ho n _ _
theorem st_allOf (s : Pz) : allOfR s.st = ((allOfR s).1, (allOfR s).2.st) := by
  unfold allOfR
  rw [st_len]
  exact st_row st_match _ _ _
theorem st_anyOf (s : Pz) : anyOfR s.st = ((anyOfR s).1, (anyOfR s).2.st) := by
  unfold anyOfR
  simp only
  rw [st_must]
  simp only
  rw [st_len, st_row st_allOf]
  simp only
  rw [st_must]
theorem st_target (s : Pz) : targetR s.st = ((targetR s).1, (targetR s).2.st) := by
  unfold targetR
  rw [st_take]
  simp only
  split
  · rfl
  · rw [st_len, st_row st_anyOf]
theorem st_duties : ∀ (n : Nat) (l : List Dut) (s : Pz), dutiesR n l s.st = ((dutiesR n l s).1, (dutiesR n l s).2.st)
  | 0, l, s => rfl
  | n + 1, l, s => by
    unfold dutiesR
    rw [st_take]
    simp only
    split
    · rfl
    · rw [st_must]
      simp only
      rw [st_must]
      simp only
      rw [st_name]
      simp only
      rw [st_most]
      exact st_duties n _ _
theorem st_duts (s : Pz) : dutsR s.st = ((dutsR s).1, (dutsR s).2.st) := by
  unfold dutsR
  rw [st_len]
  exact st_duties _ _ _
theorem st_nod (bag : Bool) (p : Int) (l : List Nod) (n : Nod) (s : Pz) : nodR bag 0 l n s.st = ((nodR bag p l n s).1, (nodR bag p l n s).2.st) := by
  unfold nodR
  rw [st_most]
  split
  · rw [st_fail 5 p]
  · rfl
theorem st_call {ex : List Nod → Bool → Pz → List Nod × Pz} (he : ∀ l b s, ex l b (Pz.st s) = ((ex l b s).1, (ex l b s).2.st)) (l : List Nod) (s : Pz) : callR ex l s.st = ((callR ex l s).1, (callR ex l s).2.1, (callR ex l s).2.2.st) := by
  unfold callR
  simp only
  rw [st_must]
  simp only
  rw [he]
  simp only
  rw [he]
  split
  · simp only
    rw [st_must]
  · simp only
    rw [st_must]
theorem st_expr : ∀ (n : Nat) (l : List Nod) (b : Bool) (s : Pz), exprR n l b s.st = ((exprR n l b s).1, (exprR n l b s).2.st)
  | 0, _, _, _ => rfl
  | n + 1, l, b, s => by
    unfold exprR
    rw [st_take, st_hd]
    simp only
    split
    · rw [st_call (st_expr n)]
      exact st_nod b s.hd.p _ _ _
    · rw [st_leaf]
      exact st_nod b s.hd.p _ _ _
theorem st_cond (s : Pz) : condR s.st = ((condR s).1, (condR s).2.st) := by
  unfold condR
  rw [st_take]
  simp only
  split
  · rfl
  · rw [st_len, st_expr]
theorem st_rule (s : Pz) : ruleR s.st = ((ruleR s).1, (ruleR s).2.st) := by
  unfold ruleR
  simp only
  rw [st_must]
  simp only
  rw [st_name]
  simp only
  rw [st_target]
  simp only
  rw [st_cond]
  simp only
  rw [st_duts]
  simp only
  rw [st_must]
theorem st_met : metR s.st = (metR s).st := rfl
theorem st_rules : ∀ (n : Nat) (l : List Rul) (s : Pz), rulesR n l s.st = ((rulesR n l s).1, (rulesR n l s).2.st)
  | 0, _, _ => rfl
  | n + 1, l, s => by
    unfold rulesR
    rw [st_sees]
    split
    · rfl
    · simp only
      rw [st_met, st_most]
      have e : ∀ x : Pz, x.st.met = x.met := fun _ => rfl
      rw [e, st_most, st_rule]
      simp only
      exact st_rules n _ _
theorem st_kids {po : Pz → Pol × Pz} (hp : ∀ s : Pz, po s.st = ((po s).1, (po s).2.st)) : ∀ (n : Nat) (l : List Pol) (s : Pz), kidsR po n l s.st = ((kidsR po n l s).1, (kidsR po n l s).2.st)
  | 0, _, _ => rfl
  | n + 1, l, s => by
    unfold kidsR
    rw [st_sees]
    split
    · rfl
    · simp only
      rw [st_most, hp]
      simp only
      exact st_kids hp n _ _
theorem st_in {f : Nat} (hp : ∀ s : Pz, polR f s.st = ((polR f s).1, (polR f s).2.st)) (a : Nat) (s : Pz) : inR f a s.st = ((inR f a s).1, (inR f a s).2.1, (inR f a s).2.2.st) := by
  unfold inR
  split
  · rw [st_len, st_kids hp]
  · rw [st_len, st_rules]
theorem st_pol : ∀ (f : Nat) (s : Pz), polR f s.st = ((polR f s).1, (polR f s).2.st)
  | 0, s => rfl
  | f + 1, s => by
    obtain ⟨s0, h0⟩ : ∃ t, mostR (5 - (f : Int)) 4 s = t := ⟨_, rfl⟩
    obtain ⟨a, s1, h1⟩ := pair_eq (mustR [w_policy, w_set] s0)
    obtain ⟨b, s2, h2⟩ := pair_eq (nameR s1)
    obtain ⟨c, s3, h3⟩ := pair_eq (mustR w_algs s2)
    obtain ⟨t, s4, h4⟩ := pair_eq (targetR s3)
    obtain ⟨d, s5, h5⟩ := pair_eq (mustR [m_lb] s4)
    obtain ⟨r, ks, h6⟩ := pair_eq (inR f a s5)
    obtain ⟨k, s6⟩ := ks
    obtain ⟨e, s7, h7⟩ := pair_eq (mustR [m_rb] s6)
    obtain ⟨o, s8, h8⟩ := pair_eq (dutsR s7)
    rw [polR_eq f s h0 h1 h2 h3 h4 h5 h6 h7 h8]
    exact polR_eq f s.st (by rw [st_most, h0]) (by rw [st_must, h1]) (by rw [st_name, h2]) (by rw [st_must, h3]) (by rw [st_target, h4]) (by rw [st_must, h5]) (by rw [st_in (st_pol f), h6]) (by rw [st_must, h7]) (by rw [st_duts, h8])
/-- Tokens that are the same but for their places are read as the same. -/
theorem read_same {a b : List Tk} (h : a.map Tk.z = b.map Tk.z) : (polR 5 ⟨a, 0, 0, 0⟩).1 = (polR 5 ⟨b, 0, 0, 0⟩).1 ∧ (endR (polR 5 ⟨a, 0, 0, 0⟩).2).err = (endR (polR 5 ⟨b, 0, 0, 0⟩).2).err := by
  have ha := st_pol 5 ⟨a, 0, 0, 0⟩
  have hb := st_pol 5 ⟨b, 0, 0, 0⟩
  have e : (⟨a, 0, 0, 0⟩ : Pz).st = (⟨b, 0, 0, 0⟩ : Pz).st := by
    show (⟨a.map Tk.z, 0, 0, 0⟩ : Pz) = ⟨b.map Tk.z, 0, 0, 0⟩
    rw [h]
  rw [e, hb] at ha
  obtain ⟨p, sa, hpa⟩ := pair_eq (polR 5 ⟨a, 0, 0, 0⟩)
  obtain ⟨q, sb, hpb⟩ := pair_eq (polR 5 ⟨b, 0, 0, 0⟩)
  rw [hpa, hpb] at ha ⊢
  simp only [Prod.mk.injEq] at ha
  refine ⟨ha.1.symm, ?_⟩
  have h1 : (endR sa.st).err = (endR sa).err := by rw [st_end]; rfl
  have h2 : (endR sb.st).err = (endR sb).err := by rw [st_end]; rfl
  rw [← h1, ← h2, ha.2]
end
end Go.Proofs.YtincnopaclmppaaDoor
/- ParseBlanks, plainly: blanks ahead and behind change nothing. -/
namespace Go.Proofs.YtincnopaclmppaaDoor
set_option linter.unusedVariables false

/-- What is read without an error. -/
theorem parseR_fine {s : ByteArray} {p : Pol} {i : Int} (hs : s.size ≤ 4096) (h : parseR s = (p, 0, i)) : ∃ ts, lexB s.data.toList 0 = .ok ts ∧ (polR 5 ⟨ts, 0, 0, 0⟩).1 = p ∧ (endR (polR 5 ⟨ts, 0, 0, 0⟩).2).err = 0 ∧ rightE p = 0 ∧ i = 0 := by
  cases hl : lexB s.data.toList 0 with
  | error q => rw [parseR_bad hs hl] at h; simp at h
  | ok ts =>
    obtain ⟨q, s1, hq⟩ := pair_eq (polR 5 ⟨ts, 0, 0, 0⟩)
    obtain ⟨z, hz⟩ : ∃ z, endR s1 = z := ⟨_, rfl⟩
    rw [parseR_ok hs hl hq hz] at h
    split at h
    · rename_i he
      split at h
      · rename_i hr
        simp only [Prod.mk.injEq] at h
        obtain ⟨rfl, _, hi⟩ := h
        exact ⟨ts, rfl, by rw [hq], by rw [hq, hz]; exact he, hr, hi.symm⟩
      · simp at h
    · rename_i he
      simp only [Prod.mk.injEq] at h
      exact absurd h.2.1 he
theorem parseR_of {s : ByteArray} {ts : List Tk} {p : Pol} (hs : s.size ≤ 4096) (hl : lexB s.data.toList 0 = .ok ts) (hp : (polR 5 ⟨ts, 0, 0, 0⟩).1 = p) (he : (endR (polR 5 ⟨ts, 0, 0, 0⟩).2).err = 0) (hr : rightE p = 0) : parseR s = (p, 0, 0) := by
  obtain ⟨q, s1, hq⟩ := pair_eq (polR 5 ⟨ts, 0, 0, 0⟩)
  obtain ⟨z, hz⟩ : ∃ z, endR s1 = z := ⟨_, rfl⟩
  rw [hq] at hp he
  simp only at hp
  subst hp
  change (endR s1).err = 0 at he
  rw [hz] at he
  rw [parseR_ok hs hl hq hz, if_pos he, if_pos hr]
theorem z_sh (d : Nat) (t : Tk) : (shT d t).z = t.z := rfl
theorem lexB_blanks : ∀ (g : List UInt8) (p : Nat), (∀ c ∈ g, blk c = true) → lexB g p = .ok [⟨7, ((p + g.length : Nat) : Int), 0, ⟨#[]⟩⟩] := by
  intro g p hg
  have := lexB_ahead g [] p hg
  rw [List.append_nil] at this
  rw [this, lexB_nil]
/-- .. and what stands there is the same but for its places. -/
theorem blanks_toks {g a : List UInt8} {ts : List Tk} (hg : ∀ c ∈ g, blk c = true) (h : lexB a 0 = .ok ts) : ∃ us, lexB ((10 :: g) ++ (a ++ (10 :: g))) 0 = .ok us ∧ us.map Tk.z = ts.map Tk.z := by
  have hg' : ∀ c ∈ (10 :: g), blk c = true := by
    intro c hc
    rcases List.mem_cons.1 hc with rfl | hc
    · decide
    · exact hg c hc
  rw [lexB_ahead _ _ _ hg', lexB_from, lexB_join (.inr rfl) h, lexB_blanks g _ hg]
  refine ⟨_, rfl, ?_⟩
  obtain ⟨us, e, _⟩ := lexB_ne _ _ 0 ts (Nat.le_refl _) h
  rw [e]
  simp [Tk.z, shT]
theorem blanks_read {s t : ByteArray} {p : Pol} {i : Int} {g : List UInt8} (hs : s.size ≤ 600) (h : parseR s = (p, 0, i)) (hg : ∀ c ∈ g, blk c = true) (hgl : g.length ≤ 10) (ht : t.data.toList = (10 :: g) ++ (s.data.toList ++ (10 :: g))) : parseR t = (p, 0, 0) := by
  obtain ⟨ts, hl, hp, he, hr, _⟩ := parseR_fine (by omega) h
  obtain ⟨us, hu, hz⟩ := blanks_toks hg hl
  have e := read_same hz
  have hsz : t.size = (10 :: g).length + (s.size + (10 :: g).length) := by
    have : t.size = t.data.toList.length := rfl
    rw [this, ht, List.length_append, List.length_append]
    rfl
  refine parseR_of (by simp only [List.length_cons] at hsz; omega) (by rw [ht]; exact hu) (e.1.trans hp) (e.2.trans he) hr
end Go.Proofs.YtincnopaclmppaaDoor
/- The parser, plainly: closed texts are read by reckoning. -/
namespace Go.Proofs.YtincnopaclmppaaDoor
set_option linter.unusedVariables false

/-- lexB, by how many steps it may go. -/
def lexF : Nat → List UInt8 → Nat → Except Nat (List Tk)
  | 0, _, _ => .error 0
  | n + 1, [], p => .ok [⟨7, p, 0, ⟨#[]⟩⟩]
  | n + 1, c :: r, p => if blk c = true then lexF n r (p + 1) else
      match tokB (c :: r) with
      | none => .error p
      | some (k, m, s, j) => cat [⟨k, p, m, ⟨s.toArray⟩⟩] (lexF n ((c :: r).drop j) (p + j))
theorem lexF_eq : ∀ (n : Nat) (l : List UInt8) (p : Nat), l.length < n → lexF n l p = lexB l p
  | 0, _, _, h => by omega
  | n + 1, [], p, h => by rw [lexB_nil]; rfl
  | n + 1, c :: r, p, h => by
    simp only [List.length_cons] at h
    unfold lexF
    cases hb : blk c with
    | true => rw [if_pos rfl, lexB_blank hb, lexF_eq n r (p + 1) (by omega)]
    | false =>
      rw [if_neg (by simp)]
      cases hq : tokB (c :: r) with
      | none => rw [lexB_bad hb hq]
      | some q =>
        obtain ⟨k, m, s, j⟩ := q
        have := (tokB_pos hq).1
        rw [lexB_tok hb hq]
        simp only
        rw [lexF_eq n _ (p + j) (by simp only [List.length_drop, List.length_cons]; omega)]
def parseF (n : Nat) (l : List UInt8) : Pol × Int × Int :=
  if 4096 < l.length then (noPol, 6, 4096) else
  match lexF n l 0 with
  | .error p => (noPol, 5, (p : Int))
  | .ok ts =>
    let u := polR 5 ⟨ts, 0, 0, 0⟩
    let z := endR u.2
    if z.err = 0 then (if rightE u.1 = 0 then (u.1, 0, 0) else (noPol, 5, (l.length : Int))) else (noPol, z.err, z.at_)
theorem parseF_eq (s : ByteArray) : parseR s = parseF (s.data.toList.length + 1) s.data.toList := by
  unfold parseR parseF
  rw [lexF_eq _ _ 0 (Nat.lt_succ_self _)]
  rfl
theorem parse_eval {s : ByteArray} {n : Nat} {x : Pol × Int × Int} (h : parseF (n + 1) s.data.toList = x) (hn : s.data.toList.length = n) : parseR s = x := by
  rw [parseF_eq, hn, h]
theorem run_b : parseR ⟨#[112, 111, 108, 105, 99, 121, 32, 112, 32, 111, 110, 108, 121, 32, 123, 32, 125]⟩ = (noPol, 5, 17) := parse_eval (n := 17) (by kernel_rfl) (by kernel_rfl)
end Go.Proofs.YtincnopaclmppaaDoor
/- The parser, plainly: texts as rows of tokens, places aside. -/
namespace Go.Proofs.YtincnopaclmppaaDoor
set_option linter.unusedVariables false

/-- The tokens of a text, places aside. -/
def Zx (l : List UInt8) (zs : List Tk) : Prop := ∃ ts, lexB l 0 = .ok ts ∧ ts.map Tk.z = zs
def tEnd : Tk := ⟨7, 0, 0, ⟨#[]⟩⟩
def tName (s : ByteArray) : Tk := ⟨1, 0, 0, s⟩
def tMark (c : UInt8) : Tk := ⟨6, 0, 0, ⟨#[c]⟩⟩
theorem Zx.nil : Zx [] [tEnd] := ⟨_, lexB_nil 0, rfl⟩
theorem map_sh (d : Nat) (ts : List Tk) : (ts.map (shT d)).map Tk.z = ts.map Tk.z := by simp [Tk.z, shT]
theorem Zx.at_ {l : List UInt8} {zs : List Tk} (h : Zx l zs) (p : Nat) : ∃ ts, lexB l p = .ok ts ∧ ts.map Tk.z = zs := by
  obtain ⟨ts, h1, h2⟩ := h
  exact ⟨ts.map (shT p), by rw [lexB_from, h1]; rfl, by rw [map_sh, h2]⟩
theorem Zx.blank {c : UInt8} {r : List UInt8} {zs : List Tk} (hc : blk c = true) (h : Zx r zs) : Zx (c :: r) zs := by
  obtain ⟨ts, h1, h2⟩ := h.at_ (0 + 1)
  exact ⟨ts, by rw [lexB_blank hc, h1], h2⟩
theorem Zx.sp {r : List UInt8} {zs : List Tk} (h : Zx r zs) : Zx (32 :: r) zs := h.blank (by decide)
theorem Zx.tok {c : UInt8} {r : List UInt8} {zs : List Tk} {k n : Int} {s : List UInt8} {m : Nat} (hc : blk c = false) (ht : tokB (c :: r) = some (k, n, s, m)) (h : Zx ((c :: r).drop m) zs) : Zx (c :: r) (⟨k, 0, n, ⟨s.toArray⟩⟩ :: zs) := by
  obtain ⟨ts, h1, h2⟩ := h.at_ (0 + m)
  refine ⟨_, by rw [lexB_tok hc ht, h1]; rfl, ?_⟩
  rw [← h2]
  rfl
theorem lett_blk {a : UInt8} (h : lett a = true) : blk a = false := by
  unfold lett at h
  unfold blk
  simp at h ⊢
  omega
theorem take_name {l : List UInt8} (hl : ∀ b ∈ l, inm b = true) {c : UInt8} (hc : inm c = false) (r : List UInt8) : (l ++ c :: r).takeWhile inm = l := by
  induction l with
  | nil => simp [hc]
  | cons a l ih =>
    rw [List.cons_append, List.takeWhile_cons, if_pos (hl a (by simp)), ih (fun b hb => hl b (by simp [hb]))]
theorem Named.inm {l : List UInt8} (h : Named l) : ∀ b ∈ l, inm b = true := by
  intro b hb
  obtain ⟨j, hj, rfl⟩ := List.mem_iff_getElem.1 hb
  have := h.2 j hj
  unfold okAt at this
  unfold Go.Proofs.YtincnopaclmppaaDoor.inm
  simp at this ⊢
  rcases this with h | h
  · exact .inl h
  · exact .inr h.2
theorem Zx.name {nm : List UInt8} (hn : Named nm) {c : UInt8} (hc : inm c = false) {r : List UInt8} {zs : List Tk} (h : Zx (c :: r) zs) : Zx (nm ++ c :: r) (tName ⟨nm.toArray⟩ :: zs) := by
  have hi := hn.inm
  have ht := take_name hi hc r
  cases nm with
  | nil => exact absurd hn.1.1 (by simp)
  | cons a l =>
    have ha : lett a = true := by
      have := hn.2 0 (by simp)
      unfold okAt at this
      simpa using this
    refine Zx.tok (k := 1) (n := 0) (s := a :: l) (m := (a :: l).length) (lett_blk ha) ?_ ?_
    · show tokB ((a :: l) ++ c :: r) = _
      rw [List.cons_append, tokB, if_pos ha, ← List.cons_append, ht, if_pos hn]
    · show Zx (((a :: l) ++ c :: r).drop (a :: l).length) zs
      rw [List.drop_left]
      exact h
theorem Zx.mark {c : UInt8} (hb : blk c = false) (ht : ∀ r, tokB (c :: r) = some (6, 0, [c], 1)) {r : List UInt8} {zs : List Tk} (h : Zx r zs) : Zx (c :: r) (tMark c :: zs) :=
  Zx.tok (k := 6) (n := 0) (s := [c]) (m := 1) hb (ht r) h
theorem markT (c : UInt8) (h : lett c = false ∧ dgt c = false ∧ c ≠ 45 ∧ c ≠ 64 ∧ c ≠ 35 ∧ c ≠ 34 ∧ mrk c = true) : ∀ r, tokB (c :: r) = some (6, 0, [c], 1) := by
  intro r
  obtain ⟨h1, h2, h3, h4, h5, h6, h7⟩ := h
  rw [tokB, if_neg (by rw [h1]; simp), if_neg (by rw [h2]; simp), if_neg h3, if_neg h4, if_neg h5, if_neg h6, if_pos h7]
theorem Zx.m123 {r : List UInt8} {zs : List Tk} (h : Zx r zs) : Zx (123 :: r) (tMark 123 :: zs) := h.mark (by decide) (markT _ (by decide))
theorem Zx.m125 {r : List UInt8} {zs : List Tk} (h : Zx r zs) : Zx (125 :: r) (tMark 125 :: zs) := h.mark (by decide) (markT _ (by decide))
theorem Zx.m40 {r : List UInt8} {zs : List Tk} (h : Zx r zs) : Zx (40 :: r) (tMark 40 :: zs) := h.mark (by decide) (markT _ (by decide))
theorem Zx.m41 {r : List UInt8} {zs : List Tk} (h : Zx r zs) : Zx (41 :: r) (tMark 41 :: zs) := h.mark (by decide) (markT _ (by decide))
theorem Zx.m46 {r : List UInt8} {zs : List Tk} (h : Zx r zs) : Zx (46 :: r) (tMark 46 :: zs) := h.mark (by decide) (markT _ (by decide))
theorem Zx.m44 {r : List UInt8} {zs : List Tk} (h : Zx r zs) : Zx (44 :: r) (tMark 44 :: zs) := h.mark (by decide) (markT _ (by decide))
theorem Zx.m59 {r : List UInt8} {zs : List Tk} (h : Zx r zs) : Zx (59 :: r) (tMark 59 :: zs) := h.mark (by decide) (markT _ (by decide))
theorem Zx.m61 {r : List UInt8} {zs : List Tk} (h : Zx r zs) : Zx (61 :: r) (tMark 61 :: zs) := h.mark (by decide) (markT _ (by decide))
theorem Zx.m60 {r : List UInt8} {zs : List Tk} (h : Zx r zs) : Zx (60 :: r) (tMark 60 :: zs) := h.mark (by decide) (markT _ (by decide))
theorem Zx.m62 {r : List UInt8} {zs : List Tk} (h : Zx r zs) : Zx (62 :: r) (tMark 62 :: zs) := h.mark (by decide) (markT _ (by decide))
theorem Zx.m33 {r : List UInt8} {zs : List Tk} (h : Zx r zs) : Zx (33 :: r) (tMark 33 :: zs) := h.mark (by decide) (markT _ (by decide))
/-- What is read, of a text whose tokens are known. -/
theorem Zx.read {s : ByteArray} {zs : List Tk} {p : Pol} {z : Pz} (hs : s.size ≤ 4096) (h : Zx s.data.toList zs) (hp : polR 5 ⟨zs, 0, 0, 0⟩ = (p, z)) (he : (endR z).err = 0) (hr : rightE p = 0) : parseR s = (p, 0, 0) := by
  obtain ⟨ts, h1, h2⟩ := h
  have hz : zs.map Tk.z = zs := by rw [← h2, List.map_map]; rfl
  have e := read_same (h2.trans hz.symm)
  rw [hp] at e
  exact parseR_of hs h1 e.1 (e.2.trans he) hr
end Go.Proofs.YtincnopaclmppaaDoor
/- Digits, plainly. -/
namespace Go.Proofs.YtincnopaclmppaaDoor
set_option linter.unusedVariables false

def AllD (l : List UInt8) : Prop := ∀ c ∈ l, dgt c = true
theorem numD_app (l : List UInt8) (c : UInt8) : numD (l ++ [c]) = 10 * numD l + (c.toNat - 48) := by unfold numD; rw [List.foldl_append]; rfl
theorem numD_mono (l m : List UInt8) : numD l ≤ numD (l ++ m) := by
  induction m generalizing l with
  | nil => simp
  | cons c m ih =>
    have h1 := ih (l ++ [c])
    have h2 := numD_app l c
    rw [List.append_assoc] at h1
    simp only [List.cons_append, List.nil_append] at h1
    omega
end Go.Proofs.YtincnopaclmppaaDoor
/- The texts of values, plainly: which text a right value has; two have the same just if they are the same. -/
namespace Go.Proofs.YtincnopaclmppaaDoor
set_option linter.unusedVariables false

/-! ### Texts -/
def valD (l : List UInt8) : Nat := l.foldl (fun a c => 10 * a + (c.toNat - 48)) 0
theorem valD_dec (u : Nat) : valD (Lib.decDigits u) = u := by
  induction u using Nat.strongRecOn with
  | _ u ih =>
    rw [Lib.decDigits]
    split
    · rename_i h
      have := ofNat_toNat (show 48 + u < 256 by omega)
      simp only [valD, List.foldl_cons, List.foldl_nil, this]; omega
    · rename_i h
      have := ofNat_toNat (show 48 + u % 10 < 256 by omega)
      have ih := ih (u / 10) (by omega)
      unfold valD at *
      rw [List.foldl_append, ih]
      simp only [List.foldl_cons, List.foldl_nil, this]; omega
theorem dec_head (u : Nat) : ∃ c r, Lib.decDigits u = c :: r ∧ 48 ≤ c.toNat ∧ c.toNat ≤ 57 := by
  induction u using Nat.strongRecOn with
  | _ u ih =>
    rw [Lib.decDigits]
    split
    · rename_i h
      exact ⟨_, _, rfl, by rw [ofNat_toNat (by omega)]; omega, by rw [ofNat_toNat (by omega)]; omega⟩
    · rename_i h
      obtain ⟨c, r, e, h1⟩ := ih (u / 10) (by omega)
      exact ⟨c, r ++ [_], by rw [e]; rfl, h1⟩
theorem itoa_head (n : Int) : ∃ c r, Lib.itoa n = c :: r ∧ (c.toNat = 45 ∨ 48 ≤ c.toNat ∧ c.toNat ≤ 57) := by
  unfold Lib.itoa
  split
  · exact ⟨45, _, rfl, .inl rfl⟩
  · obtain ⟨c, r, e, h⟩ := dec_head n.toNat
    exact ⟨c, r, e, .inr h⟩
theorem itoa_inj {m n : Int} (h : Lib.itoa m = Lib.itoa n) : m = n := by
  unfold Lib.itoa at h
  have key : ∀ a b : Nat, Lib.decDigits a = Lib.decDigits b → a = b := fun a b e => by rw [← valD_dec a, ← valD_dec b, e]
  have hd : ∀ (u : Nat) (r : List UInt8), 45 :: r ≠ Lib.decDigits u := fun u r e => by
    obtain ⟨c, r', e2, h1, _⟩ := dec_head u
    rw [e2] at e
    injection e with e _
    subst e
    have : (45 : UInt8).toNat = 45 := rfl
    omega
  split at h
  · split at h
    · injection h with _ h
      have := key _ _ h
      omega
    · exact absurd h (hd _ _)
  · split at h
    · exact absurd h.symm (hd _ _)
    · have := key _ _ h
      omega

theorem hexd_inj : ∀ x y : Fin 16, hexd x.val = hexd y.val → x = y := by decide
theorem quoteC_inj {c d : UInt8} {x y : List UInt8} (h : quoteC c ++ x = quoteC d ++ y) : c = d ∧ x = y := by
  have plain : ∀ e : UInt8, odd8 e = false → e ≠ 92 := fun e he hh => by subst hh; revert he; decide
  unfold quoteC at h
  cases hc : odd8 c <;> cases hd : odd8 d <;> simp only [hc, hd, if_true, Bool.false_eq_true, if_false, List.cons_append, List.nil_append] at h
  · injection h with h1 h2; exact ⟨h1, h2⟩
  · injection h with h1 _; exact absurd h1 (plain c hc)
  · injection h with h1 _; exact absurd h1.symm (plain d hd)
  · injection h with _ h
    injection h with h1 h
    injection h with h2 h3
    have l1 := c.toNat_lt
    have l2 := d.toNat_lt
    have e1 := hexd_inj ⟨c.toNat / 16, by omega⟩ ⟨d.toNat / 16, by omega⟩ h1
    have e2 := hexd_inj ⟨c.toNat % 16, by omega⟩ ⟨d.toNat % 16, by omega⟩ h2
    injection e1 with e1
    injection e2 with e2
    exact ⟨UInt8.toNat_inj.1 (by omega), h3⟩
theorem quoteC_ne (c : UInt8) (x : List UInt8) : ∃ d r, quoteC c ++ x = d :: r ∧ (d = 34 → False) := by
  unfold quoteC
  cases hc : odd8 c
  · refine ⟨c, x, rfl, fun e => ?_⟩
    subst e; revert hc; decide
  · exact ⟨92, _, rfl, by decide⟩
theorem quoteL_inj : ∀ (l m : List UInt8), quoteL l ++ [34] = quoteL m ++ [34] → l = m
  | [], [], _ => rfl
  | [], d :: m, h => by
    obtain ⟨e, r, h1, h2⟩ := quoteC_ne d (quoteL m ++ [34])
    simp only [quoteL, List.nil_append, List.append_assoc] at h
    rw [h1] at h
    injection h with h _
    exact (h2 h.symm).elim
  | c :: l, [], h => by
    obtain ⟨e, r, h1, h2⟩ := quoteC_ne c (quoteL l ++ [34])
    simp only [quoteL, List.nil_append, List.append_assoc] at h
    rw [h1] at h
    injection h with h _
    exact (h2 h).elim
  | c :: l, d :: m, h => by
    simp only [quoteL, List.append_assoc] at h
    obtain ⟨rfl, h2⟩ := quoteC_inj h
    rw [quoteL_inj l m h2]
theorem quoteB_inj {l m : List UInt8} (h : quoteB l = quoteB m) : l = m := by
  unfold quoteB at h
  simp only [List.cons_append, List.nil_append] at h
  injection h with _ h
  exact quoteL_inj _ _ h

/-- A right value's text, by its kind. -/
theorem show_cases {v : Vl} (h : v.right) : (v.k = 1 ∧ v.l = [] ∧ (v.n = 0 ∧ showB v = [102, 97, 108, 115, 101] ∨ v.n = 1 ∧ showB v = [116, 114, 117, 101])) ∨ (v.k = 2 ∧ v.l = [] ∧ showB v = Lib.itoa v.n) ∨
    (v.k = 3 ∧ v.n = 0 ∧ showB v = quoteB v.l) ∨ (v.k = 4 ∧ v.l = [] ∧ showB v = 64 :: Lib.itoa v.n) ∨ (v.k = 5 ∧ v.n = 0 ∧ showB v = 35 :: v.l) := by
  have hr := h
  unfold Vl.right RightV at h
  unfold showB
  rw [if_pos hr]
  rcases h with ⟨hk, hl, hn⟩ | ⟨hk, hl⟩ | ⟨hk, hn, _⟩ | ⟨hk, hl, _⟩ | ⟨hk, hn, _⟩ <;> rw [hk]
  · refine .inl ⟨rfl, hl, ?_⟩
    rcases hn with hn | hn <;> rw [hn] <;> simp
  · exact .inr (.inl ⟨rfl, hl, by simp⟩)
  · exact .inr (.inr (.inl ⟨rfl, hn, by simp⟩))
  · exact .inr (.inr (.inr (.inl ⟨rfl, hl, by simp⟩)))
  · exact .inr (.inr (.inr (.inr ⟨rfl, hn, by simp⟩)))
theorem show_ne {v : Vl} (h : v.right) : showB v ≠ [] := by
  obtain ⟨c, r, e, _⟩ := itoa_head v.n
  rcases show_cases h with ⟨_, _, ⟨_, h⟩ | ⟨_, h⟩⟩ | ⟨_, _, h⟩ | ⟨_, _, h⟩ | ⟨_, _, h⟩ | ⟨_, _, h⟩ <;> rw [h]
  · simp
  · simp
  · rw [e]; simp
  · simp [quoteB]
  · simp
  · simp
theorem head_ne {c d : UInt8} {r s : List UInt8} (h : c :: r = d :: s) (hne : c.toNat ≠ d.toNat) : False := by
  injection h with h _
  subst h
  exact hne rfl
theorem show_inj {a b : Vl} (ha : a.right) (hb : b.right) (h : showB a = showB b) : a = b := by
  obtain ⟨c, r, ec, hc⟩ := itoa_head a.n
  obtain ⟨d, s, ed, hd⟩ := itoa_head b.n
  have q : ∀ l, quoteB l = 34 :: (quoteL l ++ [34]) := fun _ => rfl
  rcases show_cases ha with ⟨ka, la, ⟨na, h1⟩ | ⟨na, h1⟩⟩ | ⟨ka, la, h1⟩ | ⟨ka, na, h1⟩ | ⟨ka, la, h1⟩ | ⟨ka, na, h1⟩ <;>
  rcases show_cases hb with ⟨kb, lb, ⟨nb, h2⟩ | ⟨nb, h2⟩⟩ | ⟨kb, lb, h2⟩ | ⟨kb, nb, h2⟩ | ⟨kb, lb, h2⟩ | ⟨kb, nb, h2⟩ <;>
  rw [h1, h2] at h
  all_goals first
    | exact Vl.ext' (by omega) (by omega) (by rw [la, lb])
    | exact Vl.ext' (by omega) (itoa_inj h) (by rw [la, lb])
    | exact Vl.ext' (by omega) (by omega) (quoteB_inj h)
    | exact Vl.ext' (by omega) (itoa_inj ((List.cons.inj h).2)) (by rw [la, lb])
    | exact Vl.ext' (by omega) (by omega) ((List.cons.inj h).2)
    | (exfalso; exact head_ne h (by decide))
    | (exfalso; rw [ec] at h; exact head_ne h (by simp; omega))
    | (exfalso; rw [ed] at h; exact head_ne h (by simp; omega))
    | (exfalso; rw [q] at h; exact head_ne h (by decide))
    | (exfalso; rw [ec, q] at h; exact head_ne h (by simp; omega))
    | (exfalso; rw [ed, q] at h; exact head_ne h (by simp; omega))
end Go.Proofs.YtincnopaclmppaaDoor
