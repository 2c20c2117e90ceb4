/- The reference's RightAsk. -/
import Derived.Test.YtjpkemamfccfdaaAskC
import Derived.Test.YtjpkemamfccfdaaAskA
import Derived.Test.YtjpkemamfccfdaaRefGetA
import Derived.Deep.CutRange
namespace Go.Proofs.Ytjpkemamfccfdaa
set_option linter.unusedVariables false
open Go.RowKit Go.Sort

theorem wrong_dup {ah : List Giv} {g : Giv} {j : Nat} {x : Giv} (h1 : attrB ⟨g.cat, g.name, false⟩ = true) (h2 : bagB g.bag = true) (hx : ah[j]? = some x) (hg : isG g.cat g.name x = true) : wrongA ah g = 11 := by
  unfold wrongA
  rw [if_pos ⟨h1, h2⟩, if_pos]
  have hj := (List.getElem?_eq_some_iff.1 hx).1
  rcases Nat.lt_or_ge (idxA ah g.cat g.name) ah.length with h | h
  · exact h
  · exact absurd (idx_before (c := g.cat) (s := g.name) hx (by omega)) (by rw [hg]; simp)
theorem wrong_bad {ah : List Giv} {g : Giv} (h : ¬ (attrB ⟨g.cat, g.name, false⟩ = true ∧ bagB g.bag = true)) : wrongA ah g = 1 := by
  unfold wrongA
  rw [if_neg h]
set_option maxRecDepth 100000 in
set_option maxHeartbeats 12800000 in
theorem rright_any {w : World} {R : Nat → Prop} {A : Option Addr} {n c : Nat} {l : List Giv} (h : Gvs w R A n c l) :
    Calls Try.prog 27 #[.slice A n c] w fun e w' => e = .returned (.int .i64 (rightA l)) ∧ Below w.heap.size w w' := by
  have hle := Rw.le h
  have hcap := Rw.cap h
  have HL := Lib.hid (Rw.len h)
  unfold maxLen at hcap
  have H := Lib.hid h
  clear h
  by_cases h64 : 64 < n
  · have h64' : (64 : Int) < (n : Int) := by omega
    have HE : Hid (rightA l = 6) := by show rightA l = 6; unfold rightA; rw [if_pos (by have := HL.out; omega)]
    clear h64
    go_enter Try.func27, Try.ntmps27
    go_wp2_with fail
    go_ret
    exact ⟨ret_int HE.out.symm, Below.refl _ _⟩
  have h64' : ¬ (64 : Int) < (n : Int) := by omega
  have HE : Hid (rightA l = rightL [] l) := by show rightA l = _; unfold rightA; rw [if_neg (by have := HL.out; omega)]
  generalize rightA l = r at *
  go_enter Try.func27, Try.ntmps27
  go_wp2_with fail
  go_loopw [11] (fun i wr => ∃ k : Nat, k ≤ n ∧ i = .int .i64 k ∧ rightL [] l = rightL (l.take k) (l.drop k) ∧ Below w.heap.size w wr) (fun i _ => n - (intOf i).toNat)
  case atStart => exact ⟨0, Nat.zero_le _, rfl, by simp, Below.refl _ _⟩
  case round =>
    obtain ⟨k, hk, rfl, hf, hb⟩ := hrel
    have HF := Lib.hid hf
    have HB := Lib.hid hb
    clear hf hb
    by_cases hlt : k < n
    case neg =>
      obtain rfl : k = n := by omega
      have HEND : Hid (r = 0) := HE.out.trans (HF.out.trans (rightL_end (by have := HL.out; omega)))
      go_wp2
      go_ret
      exact ⟨ret_int HEND.out.symm, HB.out⟩
    have HGV := Lib.hid (H.out.keep (Kept.all HB.out R) (R' := fun _ => True) (fun _ _ _ => trivial))
    obtain ⟨b, o, x, A', n', c', rfl, hRb, hbl, hx, hok, ⟨x0, x1, x2⟩, hin⟩ := Gvs.at_ HGV.out hlt
    have HX := Lib.hid hx
    have HST := Lib.hid (HE.out.trans (HF.out.trans (rightL_step hx)))
    have CN := Lib.hid (refname_any x.name hok.2)
    have BX : Hid (Below wr.heap.size wr (wr.alloc (.cells #[.int .i64 x.cat, .string x.name, .slice A' n' c'] 48))) := (Below.refl _ _).alloc (Nat.le_refl _) _
    have CB := Lib.hid (vrefbag_any (Vls.vs (Vls.keep hin (Kept.all BX.out _) (R' := fun _ => True) (fun _ _ _ => trivial))) (Nat.le_refl _))
    have OX := Lib.hid (Ob.made wr 48 #[.int .i64 x.cat, .string x.name, .slice A' n' c'])
    have BL := Lib.hid (below_step HB.out BX.out)
    have HAB : Hid (attrB ⟨x.cat, x.name, false⟩ = (decide (1 ≤ x.cat) && decide (x.cat ≤ 4) && decide (Named (bl x.name)))) := rfl
    have HIF := Lib.hid (fun (y : Giv) => isG_beq x.cat x.name y)
    have HDUP := Lib.hid (fun (j : Nat) (y : Giv) (h1 : attrB ⟨x.cat, x.name, false⟩ = true) (h2 : bagB x.bag = true) (hy : (l.take k)[j]? = some y) (hg : isG x.cat x.name y = true) => wrong_dup h1 h2 hy hg)
    have HBAD := Lib.hid (fun (h : ¬ (attrB ⟨x.cat, x.name, false⟩ = true ∧ bagB x.bag = true)) => wrong_bad (ah := l.take k) h)
    have HOKW := Lib.hid (wrongA_iff (ah := l.take k) (g := x))
    obtain ⟨xc, xn, xb⟩ := x
    simp only at x0 x1 x2 CN CB OX BX BL HAB HIF HDUP HBAD HOKW
    have CN : Hid (∀ V : World, Calls Try.prog 45 #[.string xn] V fun e w' => e = .returned (.bool (decide (Named (bl xn)))) ∧ w' = V) := CN.out
    have BADW : Hid (¬ (attrB ⟨xc, xn, false⟩ = true ∧ bagB xb = true) → r = 1) := fun hh => by have := HST.out; rw [HBAD.out hh] at this; simpa using this
    obtain ⟨nb, hnb⟩ : ∃ nb, decide (Named (bl xn)) = nb := ⟨_, rfl⟩
    obtain ⟨gb, hgb⟩ : ∃ gb, bagB xb = gb := ⟨_, rfl⟩
    rw [hnb] at CN HAB
    rw [hgb] at CB
    have y0 := OX.out.cell 0
    have y1 := OX.out.cell 1
    have y2 := OX.out.cell 2
    have HGB := Lib.hid hgb
    clear hx hok hin hnb hgb
    by_cases c1 : xc < 1
    · have HW1 := Lib.hid (BADW.out (fun hh => by have := hh.1; rw [HAB.out, decide_eq_false (show ¬ 1 ≤ xc by omega)] at this; simp at this))
      go_wp2_with fail
      go_ret
      exact ⟨ret_int HW1.out.symm, BL.out⟩
    by_cases c4 : 4 < xc
    · have HW1 := Lib.hid (BADW.out (fun hh => by have := hh.1; rw [HAB.out, decide_eq_false (show ¬ xc ≤ 4 by omega)] at this; simp at this))
      go_wp2_with fail
      go_ret
      exact ⟨ret_int HW1.out.symm, BL.out⟩
    cases nb
    · have HW1 := Lib.hid (BADW.out (fun hh => by have := hh.1; rw [HAB.out] at this; simp at this))
      go_wp2_with (first
        | (go_at_call 45; (with_reducible refine (CN.out _).mono ?_); rintro e wn ⟨rfl, rfl⟩))
      go_ret
      exact ⟨ret_int HW1.out.symm, BL.out⟩
    cases gb
    · have HW1 := Lib.hid (BADW.out (fun hh => by have := hh.2; rw [HGB.out] at this; cases this))
      go_wp2_with (first
        | (go_at_call 45; (with_reducible refine (CN.out _).mono ?_); rintro e wn ⟨rfl, rfl⟩)
        | (go_at_call 46; (with_reducible refine CB.out.mono ?_); rintro e wb ⟨rfl, hb⟩; have BB := Lib.hid (below_step BL.out hb); have OB := Lib.hid (OX.out.below hb OX.out.lt); clear hb))
      go_ret
      exact ⟨ret_int HW1.out.symm, BB.out⟩
    have HAT : Hid (attrB ⟨xc, xn, false⟩ = true) := by show _ = _; rw [HAB.out, decide_eq_true (show 1 ≤ xc by omega), decide_eq_true (show xc ≤ 4 by omega)]; rfl
    go_upto_region 9 with (first
      | (go_at_call 45; (with_reducible refine (CN.out _).mono ?_); rintro e wn ⟨rfl, rfl⟩)
      | (go_at_call 46; (with_reducible refine CB.out.mono ?_); rintro e wb ⟨rfl, hb⟩; have BB := Lib.hid (below_step BL.out hb); have OB := Lib.hid (OX.out.below hb OX.out.lt); clear hb))
    clear x0 x1 x2 y0 y1 y2 CN CB BADW HBAD HAB
    go_loopw [5] (fun i wq => ∃ j : Nat, j ≤ k ∧ i = .int .i64 j ∧ (∀ (q : Nat) (y : Giv), l[q]? = some y → q < j → isG xc xn y = false) ∧ Below wb.heap.size wb wq) (fun i _ => k - (intOf i).toNat)
    case atStart => exact ⟨0, Nat.zero_le _, rfl, fun _ _ _ h => absurd h (Nat.not_lt_zero _), Below.refl _ _⟩
    case round =>
      obtain ⟨j, hj, rfl, hf, hbq⟩ := hrel
      have HFQ := Lib.hid hf
      have HBQ := Lib.hid hbq
      have HBW := Lib.hid (below_step BB.out hbq)
      have OQ := Lib.hid (OB.out.below hbq OB.out.lt)
      clear hf hbq
      by_cases hjk : j < k
      case neg =>
        obtain rfl : j = k := by omega
        have HZ : Hid (wrongA (l.take j) ⟨xc, xn, xb⟩ = 0) := HOKW.out.2 ⟨HAT.out, HGB.out, fun q y hy => by
          rw [List.getElem?_take] at hy
          split at hy
          · rename_i hq; exact HFQ.out q y hy hq
          · cases hy⟩
        have HNX : Hid (rightL [] l = rightL (l.take (j + 1)) (l.drop (j + 1))) := by
          have h1 := HST.out
          rw [HZ.out] at h1
          simp only [ne_eq, not_true_eq_false, if_false] at h1
          exact HE.out.symm.trans h1
        go_wp2_with fail
        go_roundw
        case rel => exact ⟨j + 1, by omega, by go_num, HNX.out, HBW.out⟩
        case measure => simp [intOf]; omega
      obtain ⟨b2, o2, y, A2, n2, c2, hA, _, _, hy, _, ⟨z0, z1, z2⟩, _⟩ := (H.out.keep (Kept.all HBW.out R) (R' := fun _ => True) (fun _ _ _ => trivial)).at_ (show j < n by omega)
      injection hA with hA
      injection hA with hA1 hA2
      subst hA1 hA2
      have HY := Lib.hid hy
      have HIY := Lib.hid (HIF.out y)
      obtain ⟨yc, yn, yb⟩ := y
      simp only at z0 z1 z2 HIY
      obtain ⟨p0, p1, p2⟩ := OQ.out.grown3
      have z0 := fun d os => cell_regrown z0 d os
      have z1 := fun d os => cell_regrown z1 d os
      have jn0 : (0 : Int) ≤ (j : Int) := by omega
      have jn1 : (j : Int) < (n : Int) := by omega
      have jk1 : (j : Int) < (k : Int) := by omega
      clear hy z2
      go_upto_region 11 with fail
      by_cases e1 : yc = xc
      rotate_left
      · have e1b : (yc == xc) = false := by rw [beq_eq_false_iff_ne]; exact e1
        have HNO : Hid (isG xc xn ⟨yc, yn, yb⟩ = false) := by show _ = _; rw [HIY.out, e1b]; rfl
        clear e1
        refine wp_region_quiet_below (by kernel_rfl) (by kernel_rfl) ?_
        repeat (go_big_quiet_step (fail))
        refine wpQuiet_nil ?_
        intro _ hw'
        obtain ⟨⟨dq, osq⟩, hw''⟩ := hw'
        subst hw''
        have BQ := Lib.hid (below_step HBQ.out (below_regrown wr dq osq))
        clear p0 p1 p2 z0 z1
        generalize hwZ : grow (redrawn wr ({ d := dq, os := osq } : Regrown).d) ({ d := dq, os := osq } : Regrown).os = wZ at *
        clear hwZ
        have HSTEP : Hid (∀ (q : Nat) (y : Giv), l[q]? = some y → q < j + 1 → isG xc xn y = false) := fun q y hy hq => by
          by_cases e : q = j
          · subst e; rw [HY.out] at hy; injection hy with hy; subst hy; exact HNO.out
          · exact HFQ.out q y hy (by omega)
        go_wp2_with fail
        go_roundw
        case rel => exact ⟨j + 1, by omega, by go_num, HSTEP.out, BQ.out⟩
        case measure => simp [intOf]; omega
      subst e1
      have e1b : (yc == yc) = true := by simp
      cases e2 : (yn.toList == xn.toList)
      · have HNO : Hid (isG yc xn ⟨yc, yn, yb⟩ = false) := by show _ = _; rw [HIY.out, e1b, e2]; rfl
        refine wp_region_quiet_below (by kernel_rfl) (by kernel_rfl) ?_
        repeat (go_big_quiet_step (fail))
        refine wpQuiet_nil ?_
        intro _ hw'
        obtain ⟨⟨dq, osq⟩, hw''⟩ := hw'
        subst hw''
        have BQ := Lib.hid (below_step HBQ.out (below_regrown wr dq osq))
        clear p0 p1 p2 z0 z1 e2 e1b
        generalize hwZ : grow (redrawn wr ({ d := dq, os := osq } : Regrown).d) ({ d := dq, os := osq } : Regrown).os = wZ at *
        clear hwZ
        have HSTEP : Hid (∀ (q : Nat) (y : Giv), l[q]? = some y → q < j + 1 → isG yc xn y = false) := fun q y hy hq => by
          by_cases e : q = j
          · subst e; rw [HY.out] at hy; injection hy with hy; subst hy; exact HNO.out
          · exact HFQ.out q y hy (by omega)
        go_wp2_with fail
        go_roundw
        case rel => exact ⟨j + 1, by omega, by go_num, HSTEP.out, BQ.out⟩
        case measure => simp [intOf]; omega
      · have HYES : Hid (isG yc xn ⟨yc, yn, yb⟩ = true) := by show _ = _; rw [HIY.out, e1b, e2]; rfl
        have HW1 : Hid (r = 11) := by
          have h1 := HDUP.out j ⟨yc, yn, yb⟩ HAT.out HGB.out (by rw [List.getElem?_take, if_pos hjk]; exact HY.out) HYES.out
          have h2 := HST.out
          rw [h1, if_pos (by decide)] at h2
          exact h2
        refine wp_region_quiet_below (by kernel_rfl) (by kernel_rfl) ?_
        repeat (go_big_quiet_step (fail))
        refine wpQuiet_nil ?_
        intro _ hw'
        obtain ⟨⟨dq, osq⟩, hw''⟩ := hw'
        subst hw''
        go_wp2_with fail
        go_ret
        exact ⟨ret_int HW1.out.symm, below_step HBW.out (below_regrown wr dq osq)⟩
end Go.Proofs.Ytjpkemamfccfdaa
