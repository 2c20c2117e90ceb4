/- ValueBags: the walk. -/
import Derived.Test.YtcelkfahkodlhaaDoorVApp
import Derived.Test.YtcelkfahkodlhaaDoorVBagsMath
import Derived.Test.YtcelkfahkodlhaaDoorVBag
import Derived.Test.YtcelkfahkodlhaaDoorVHas
import Derived.Test.YtcelkfahkodlhaaDoorVFew
import Derived.Test.YtcelkfahkodlhaaDoorVBoxPut
import Derived.Test.YtcelkfahkodlhaaDoorVRuns
import Derived.Test.YtcelkfahkodlhaaDoorOpenVals
import Derived.Test.YtcelkfahkodlhaaDoorWithin
import Derived.Deep.DeepCutAuto
import Derived.Lib.SmallJoins
namespace Go.Proofs.YtcelkfahkodlhaaDoor
set_option linter.unusedVariables false
open Go.RowKit Go.Sort

set_option maxHeartbeats 6400000 in
set_option maxRecDepth 100000 in
theorem valueBags_walk (w : World) (A : Option Addr) (n c : Nat) (hl0 : ∃ l, Vs w w.heap.size A n c l) (v : Vl) (hv : v.ok) (m : Int) (hm : (Lit.int .i64 m).wf = true) (htab : Tab w) :
    Calls Tryd.prog 8 #[.slice A n c, v.val, .int .i64 m] w fun e w' => e = .returned (.bool true) ∧ Below w.heap.size w w' := by
  obtain ⟨l0, hl⟩ := hl0
  have hnc := hl.2.1
  have hcap := hl.2.2.1
  unfold maxLen at hcap
  have ht : ∀ w', Below w.heap.size w w' → Tab w' := fun w' hb => htab.then_ hb
  have HT := Lib.hid ht
  obtain ⟨kv, nv, sv⟩ := v
  obtain ⟨tv, htv, hsv⟩ : ∃ tv, fewV ⟨kv, nv, sv⟩ = ⟨kv, nv, tv⟩ ∧ tv.size ≤ 80 := ⟨_, rfl, fewV_size _⟩
  have HSV := Lib.hid hsv
  have OKV : Hid (Vl.ok ⟨kv, nv, tv⟩) := ⟨hv.1, hv.2.1, Nat.le_trans hsv (by simp [maxLen])⟩
  have FEW := Lib.hid (fun W => by have := few_any kv nv sv hv.2.2 W; rw [htv] at this; exact this)
  have H := Lib.hid hl
  clear hl ht htab hm hv htv hsv
  show Calls _ _ #[.slice A n c, .agg #[.int .i64 kv, .int .i64 nv, .string sv], .int .i64 m] w _
  go_enter Tryd.func8, Tryd.ntmps8
  go_upto_region 1 with fail
  have BV0 := Lib.hid (Bx.made w kv nv sv)
  have D0 := Lib.hid ((Below.refl w.heap.size w).alloc (Nat.le_refl _) (.cells #[.int .i64 kv, .int .i64 nv, .string sv] 26))
  generalize w.alloc (.cells #[.int .i64 kv, .int .i64 nv, .string sv] 26) = w1 at *
  go_cut [0] (fun u wx => ∃ (n1 : Nat) (l : List Vl), u = .slice A n1 c ∧ Vs w w.heap.size A n1 c l ∧ n1 ≤ 16 ∧ n1 ≤ c ∧ w1 = wx)
  case first =>
    go_wp2_with fail
    go_meet
    exact ⟨(min (n : Int) 16).toNat, l0.take (min (n : Int) 16).toNat, rfl, H.out.take (by omega), by omega, by omega, rfl⟩
  case rest =>
    obtain ⟨n1, l, rfl, hl, hn1, hnc1, hwx⟩ := hcut
    subst hwx
    have hlen : l.length = n1 := hl.1
    have HL := Lib.hid hl
    have HLEN := Lib.hid hlen
    clear hl hlen H hnc
    go_wp2_with fail
    go_loop [18] (fun i => ∃ k : Nat, k ≤ n1 ∧ i = .int .i64 k) (fun i => n1 - (intOf i).toNat)
    case atStart => exact ⟨0, Nat.zero_le _, rfl⟩
    case round =>
      obtain ⟨k, hk, rfl⟩ := hrel
      by_cases hlt : k < n1
      · obtain ⟨b, o, x, rfl, hbB, hx, hok, x0, x1, x2⟩ := (HL.out.below D0.out).at_ hlt
        clear hx hok
        by_cases h80 : 80 < x.s.size
        · go_wp2_with fail
          refine (vruns_any _ (HT.out _ D0.out)).mono ?_
          rintro e w9 ⟨rfl, hb9⟩
          have D9 := Lib.hid (below_step D0.out hb9)
          clear hb9
          go_wp2_with fail
          go_ret
          exact ⟨rfl, D9.out⟩
        · go_wp2_with fail
          go_round
          case rel => exact ⟨k + 1, by omega, by go_num⟩
          case measure => simp [intOf]; omega
      · obtain rfl : n1 = k := by omega
        have c0 := BV0.out.c3
        go_wp2_with fail
        refine (FEW.out _).mono ?_
        rintro e w2 ⟨rfl, hb2⟩
        have c0 := (BV0.out.then_ hb2).c3
        have f0 := (BV0.out.then_ hb2).fz
        have BV2 := Lib.hid ((BV0.out.then_ hb2).put kv nv tv)
        have D2 := Lib.hid (below_put (below_step D0.out hb2) (g := w.heap.size) (Nat.le_refl _) (.int .i64 kv) (.int .i64 nv) (.string tv))
        clear BV0 D0 hb2
        dsimp only [Vl.val]
        go_wp2_with fail
        clear c0 f0
        generalize ((w2.setCell ⟨w.heap.size, 0, none⟩ (.int .i64 kv)).setCell ⟨w.heap.size, 1, none⟩ (.int .i64 nv)).setCell ⟨w.heap.size, 2, none⟩ (.string tv) = W3 at *
        have c0 := BV2.out.c3
        cases hbl : bagB l with
        | false =>
          have HBL := Lib.hid hbl
          clear hbl
          refine (bag_at HBL.out (HL.out.below D2.out) D2.out.size).mono ?_
          rintro e w4 ⟨rfl, hb⟩
          have D4 := Lib.hid (below_step D2.out hb)
          clear hb c0 D2 BV2
          go_wp2_with fail
          refine (bag_at bag_nil (Vs.nil_ _ 0) (Nat.zero_le _)).mono ?_
          rintro e w5 ⟨rfl, hb⟩
          have D5 := Lib.hid (below_step D4.out hb)
          clear hb D4
          go_wp2_with fail
          refine (vruns_any _ (HT.out _ D5.out)).mono ?_
          rintro e w9 ⟨rfl, hb⟩
          have D9 := Lib.hid (below_step D5.out hb)
          clear hb
          go_wp2_with fail
          go_ret
          exact ⟨rfl, D9.out⟩
        | true =>
          have HBL := Lib.hid hbl
          clear hbl
          refine (bag_at HBL.out (HL.out.below D2.out) D2.out.size).mono ?_
          rintro e w4 ⟨rfl, hb⟩
          have D4 := Lib.hid (below_step D2.out hb)
          have BV4 := Lib.hid (BV2.out.then_ hb)
          clear hb c0 D2 BV2
          have c0 := BV4.out.c3
          cases hrv : decide (Vl.right ⟨kv, nv, tv⟩) with
          | false =>
            have HRV := Lib.hid hrv
            clear hrv
            go_wp2_with fail
            refine (right_at HRV.out OKV.out.2.2 _).mono ?_
            rintro e w5 ⟨rfl, hb⟩
            have D5 := Lib.hid (below_step D4.out hb)
            clear hb c0 D4 BV4
            go_wp2_with fail
            refine (bag_at bag_nil (Vs.nil_ _ 0) (Nat.zero_le _)).mono ?_
            rintro e w6 ⟨rfl, hb⟩
            have D6 := Lib.hid (below_step D5.out hb)
            clear hb D5
            go_wp2_with fail
            refine (vruns_any _ (HT.out _ D6.out)).mono ?_
            rintro e w9 ⟨rfl, hb⟩
            have D9 := Lib.hid (below_step D6.out hb)
            clear hb
            go_wp2_with fail
            go_ret
            exact ⟨rfl, D9.out⟩
          | true =>
            have HRV := Lib.hid hrv
            clear hrv
            have hwi := within_le (n := m) (lo := 0) (hi := (n1 : Int)) (by omega)
            have WI := Lib.hid (fun W => within_any (n := m) (lo := 0) (hi := (n1 : Int)) (w := W) (by omega) (by omega) (by omega))
            obtain ⟨k, hk⟩ : ∃ k : Nat, withinOf m 0 (n1 : Int) = (k : Int) := ⟨(withinOf m 0 (n1 : Int)).toNat, by omega⟩
            rw [hk] at hwi WI
            have hkn : k ≤ n1 := by omega
            have hkc : k ≤ c := by omega
            clear hk hwi
            go_wp2_with fail
            refine (right_at HRV.out OKV.out.2.2 _).mono ?_
            rintro e w5 ⟨rfl, hb⟩
            have D5 := Lib.hid (below_step D4.out hb)
            have BV5 := Lib.hid (BV4.out.then_ hb)
            clear hb c0 D4 BV4
            have c0 := BV5.out.c3
            go_wp2_with fail
            refine (WI.out _).mono ?_
            rintro e w6 ⟨rfl, hw6⟩
            subst hw6
            go_upto_region 12 with fail
            go_cut [9] (fun u wx => ∃ w6 A' c', w6 = wx ∧ u = .slice A' (n1 + 1) c' ∧ Vs wx wx.heap.size A' (n1 + 1) c' (moreB l k ⟨kv, nv, tv⟩) ∧ Below w5.heap.size w5 wx)
            case first =>
              have OKS : Hid (∀ u ∈ moreB l k ⟨kv, nv, tv⟩, u.ok) := fun u hu => by
                rcases more_mem.1 hu with rfl | hu
                · exact OKV.out
                · exact HL.out.2.2.2.2 u hu
              have SRC : Hid (∀ W', Below w5.heap.size w5 W' → Vs W' w.heap.size A n1 c l) := fun W' hb => HL.out.below (D5.out.trans (hb.mono D5.out.size))
              have DA := Lib.hid (below_drewN ((Below.refl w5.heap.size w5).alloc (Nat.le_refl _) (.cells #[] 26)) 1)
              have DB := Lib.hid (below_drewN (((Below.refl w5.heap.size w5).alloc (Nat.le_refl _) (.cells #[] 26)).alloc (by rw [size_al]; omega) (.cells #[.int .i64 kv, .int .i64 nv, .string tv] 26)) 1)
              have DC := Lib.hid (below_drewN (((Below.refl w5.heap.size w5).alloc (Nat.le_refl _) (.cells #[.int .i64 kv, .int .i64 nv, .string tv] 26)).alloc (by rw [size_al]; omega) (.cells #[] 26)) 1)
              have cwa := (BV5.out.alloc (.cells #[] 26)).c3
              go_region_law (first
                | (refine step_append_vals k (l.take k) (by exact own_e1 w5) (by exact (SRC.out _ DA.out).take hkn) (by omega) (by rfl) (by omega) (by exact DA.out.size) rfl (.tmp 48) (.tmp 51) rfl (by simp [Act.eval]) (by simp [Act.eval]) ?_
                   rintro A1 c1 w6 o1 b1 g1
                   have O1 := Lib.hid o1
                   have B1 := Lib.hid (DA.out.trans b1)
                   have cw6 := (BV5.out.then_ B1.out).c3
                   clear o1 b1 g1)
                | (refine step_append_vals k (l.take k) (by exact own_e2 w5 _) (by exact (SRC.out _ DB.out).take hkn) (by omega) (by rfl) (by omega) (by exact DB.out.size) rfl (.tmp 48) (.tmp 51) rfl (by simp [Act.eval]) (by simp [Act.eval]) ?_
                   rintro A1 c1 w6 o1 b1 g1
                   have O1 := Lib.hid o1
                   have B1 := Lib.hid (DB.out.trans b1)
                   have LIT := Lib.hid (lit_keep (v := ⟨kv, nv, tv⟩) OKV.out g1)
                   clear o1 b1 g1)
                | (refine step_append_vals (k + 1) (l.take k ++ [⟨kv, nv, tv⟩]) (by exact O1.out) (by exact LIT.out) (by omega) (by rfl) (by omega) (by exact B1.out.size) rfl (.tmp 52) (.tmp 54) rfl (by simp [Act.eval]) (by simp [Act.eval]) ?_
                   rintro A2 c2 w7 o2 b2 g2
                   have O2 := Lib.hid o2
                   have B2 := Lib.hid (B1.out.trans b2)
                   clear o2 b2 g2)
                | (refine step_append_vals (k + 1) (l.take k ++ [⟨kv, nv, tv⟩]) (by exact O1.out.alloc _) (by exact Vs.lit1 w6 ⟨kv, nv, tv⟩ OKV.out) (by omega) (by rfl) (by omega) (by have := B1.out.size; rw [size_al]; omega) rfl (.tmp 52) (.tmp 54) rfl (by simp [Act.eval]) (by simp [Act.eval]) ?_
                   rintro A2 c2 w7 o2 b2 g2
                   have O2 := Lib.hid o2
                   have B2 := Lib.hid ((B1.out.alloc B1.out.size (.cells #[.int .i64 kv, .int .i64 nv, .string tv] 26)).trans b2)
                   clear o2 b2 g2)
                | (refine step_append_vals (n1 + 1) (moreB l k ⟨kv, nv, tv⟩) (by exact O2.out) (by exact (SRC.out _ B2.out).drop hkn) (by omega) (by rfl) (by omega) (by exact B2.out.size) rfl (.tmp 55) (.tmp 58) rfl (by simp [Act.eval]) (by simp [Act.eval]) ?_
                   rintro A3 c3 w8 o3 b3 g3
                   generalize (if c = k then A else Option.map (fun x => x.add (k * 3)) A) = A58
                   have O3 := Lib.hid o3
                   have B3 := Lib.hid (B2.out.trans b3)
                   clear o3 b3 g3)
                | (refine step_append_vals k (l.take k) (by exact own_e3 w5 _) (by exact (SRC.out _ DC.out).take hkn) (by omega) (by rfl) (by omega) (by exact size_e3 w5 _ _) rfl (.tmp 48) (.tmp 51) rfl (by simp [Act.eval]) (by simp [Act.eval]) ?_
                   rintro A1 c1 w6 o1 b1 g1
                   have O1 := Lib.hid (Go.Joins.ownsRow_le (base' := w5.heap.size) o1 (by omega))
                   have B1 := Lib.hid (DC.out.trans (b1.mono (by omega)))
                   have LIT := Lib.hid (lit_below (v := ⟨kv, nv, tv⟩) OKV.out b1)
                   clear o1 b1 g1))
              all_goals
                go_wp2_with fail
                go_meet
                exact ⟨_, A3, c3, rfl, rfl, Vs.of_own O3.out OKS.out, B3.out⟩
            case rest =>
              obtain ⟨w6, A3, c3, hwx, rfl, hvs, hb⟩ := hcut
              subst hwx
              have VM := Lib.hid hvs
              have D6 := Lib.hid (below_step D5.out hb)
              have BV6 := Lib.hid (BV5.out.then_ hb)
              clear hvs hb c0 D5 BV5 WI
              go_wp2_with fail
              go_cut [10] (fun u wx => ∃ w7, w7 = wx ∧ u = .bool (bagB (moreB l k ⟨kv, nv, tv⟩)) ∧ Below w6.heap.size w6 wx)
              case first =>
                obtain ⟨g0, g1, g2⟩ := BV6.out.grown
                by_cases h16 : n1 = 16
                · subst h16
                  refine wp_region_quiet_below (by kernel_rfl) (by kernel_rfl) ?_
                  repeat (go_big_quiet_step (fail))
                  refine wpQuiet_nil ?_
                  intro _ hw'
                  obtain ⟨⟨dq, osq⟩, hw''⟩ := hw'
                  subst hw''
                  have hbel := below_regrown w6 dq osq
                  go_wp2_with fail
                  go_meet
                  exact ⟨_, rfl, by rw [more_full (by have := HLEN.out; omega)], hbel⟩
                · have hle : (n1 : Int) + 1 ≤ 16 := by omega
                  by_cases h0 : n1 = 0
                  · subst h0
                    refine wp_region_quiet_below (by kernel_rfl) (by kernel_rfl) ?_
                    repeat (go_big_quiet_step (fail))
                    refine wpQuiet_nil ?_
                    intro _ hw'
                    obtain ⟨⟨dq, osq⟩, hw''⟩ := hw'
                    subst hw''
                    have hbel := below_regrown w6 dq osq
                    go_wp2_with fail
                    go_meet
                    refine ⟨_, rfl, ?_, hbel⟩
                    rw [more_yes HBL.out (of_decide_eq_true HRV.out) (by have := HLEN.out; omega) (fun y hy => by
                      rw [List.eq_nil_of_length_eq_zero HLEN.out] at hy
                      simp at hy)]
                  · obtain ⟨b, o, y, hA, hbB, hy, hok, y0, y1, y2⟩ := (HL.out.below D6.out).at_ (k := 0) (by omega)
                    subst hA
                    simp only [Nat.zero_mul, Nat.add_zero] at y0
                    obtain ⟨ky, ny, sy⟩ := y
                    have HY := Lib.hid hy
                    have hn0 : (0 : Int) < (n1 : Int) := by omega
                    have hn0' : ¬ (n1 : Int) = 0 := by omega
                    have hnb : ((n1 : Int) == 0) = false := by simp [h0]
                    have hnb' : (n1 == 0) = false := by simp [h0]
                    clear hy hok y1 y2
                    have z0 : ∀ d os, (grow (redrawn w6 d) os).cell? ⟨b, o, none⟩ = some (.int .i64 ky) := fun d os => cell_regrown y0 d os
                    by_cases hkk : ky = kv
                    · have hee : (ky == kv) = true := by simp [hkk]
                      have HK := Lib.hid hkk
                      clear hkk
                      refine wp_region_quiet_below (by kernel_rfl) (by kernel_rfl) ?_
                      repeat (go_big_quiet_step (fail))
                      refine wpQuiet_nil ?_
                      intro _ hw'
                      obtain ⟨⟨dq, osq⟩, hw''⟩ := hw'
                      subst hw''
                      have hbel := below_regrown w6 dq osq
                      go_wp2_with fail
                      go_meet
                      refine ⟨_, rfl, ?_, hbel⟩
                      rw [more_yes HBL.out (of_decide_eq_true HRV.out) (by have := HLEN.out; omega) (fun x hx => by
                        obtain rfl := Option.some.inj (HY.out.symm.trans hx)
                        exact HK.out)]
                    · have hee : (ky == kv) = false := by simp [hkk]
                      have HK := Lib.hid hkk
                      clear hkk
                      refine wp_region_quiet_below (by kernel_rfl) (by kernel_rfl) ?_
                      repeat (go_big_quiet_step (fail))
                      refine wpQuiet_nil ?_
                      intro _ hw'
                      obtain ⟨⟨dq, osq⟩, hw''⟩ := hw'
                      subst hw''
                      have hbel := below_regrown w6 dq osq
                      go_wp2_with fail
                      go_meet
                      refine ⟨_, rfl, ?_, hbel⟩
                      rw [more_no HY.out HK.out]
              case rest =>
                obtain ⟨w7, hwx, rfl, hb⟩ := hcut
                subst hwx
                have D7 := Lib.hid (below_step D6.out hb)
                have BV7 := Lib.hid (BV6.out.then_ hb)
                have VM7 := Lib.hid (VM.out.then_ hb)
                clear hb D6 BV6 VM
                obtain ⟨ft, hft⟩ : ∃ ft, bagB (moreB l k ⟨kv, nv, tv⟩) = ft := ⟨_, rfl⟩
                have HFT := Lib.hid hft
                rw [hft]
                clear hft
                have hbb : (ft == ft) = true := by simp
                go_wp2_with fail
                refine (bag_at HFT.out VM7.out (Nat.le_refl _)).mono ?_
                rintro e v1 ⟨rfl, hb⟩
                have D8 := Lib.hid (below_step D7.out hb)
                have BV8 := Lib.hid (BV7.out.then_ hb)
                have VM8 := Lib.hid (VM7.out.then_ hb)
                clear hb D7 BV7 VM7
                have c0 := BV8.out.c3
                go_wp2_with fail
                refine (has_at (more_has _ _ _) VM8.out (Nat.le_refl _)).mono ?_
                rintro e v2 ⟨rfl, hb⟩
                have D9 := Lib.hid (below_step D8.out hb)
                have BV9 := Lib.hid (BV8.out.then_ hb)
                clear hb c0 D8 BV8 VM8
                go_wp2_with fail
                refine (bag_at (bag_take HBL.out k) ((HL.out.below D9.out).take hkn) D9.out.size).mono ?_
                rintro e v3 ⟨rfl, hb⟩
                have D10 := Lib.hid (below_step D9.out hb)
                have BV10 := Lib.hid (BV9.out.then_ hb)
                clear hb D9 BV9
                go_wp2_with fail
                all_goals
                  first
                    | (have hck : c = k := by assumption
                       have VD := (HL.out.below D10.out).drop_eq hkn hck
                       refine (bag_at (bag_drop HBL.out k) VD D10.out.size).mono ?_
                       clear VD)
                    | (have hck : ¬ c = k := by assumption
                       have VD := (HL.out.below D10.out).drop_ne hkn hck
                       refine (bag_at (bag_drop HBL.out k) VD D10.out.size).mono ?_
                       clear VD)
                  rintro e v4 ⟨rfl, hb⟩
                  have D11 := Lib.hid (below_step D10.out hb)
                  have BV11 := Lib.hid (BV10.out.then_ hb)
                  clear hb D10 BV10
                  have c0 := BV11.out.c3
                  go_wp2_with fail
                  refine (has_at has_nil (Vs.nil_ _ 0) (Nat.zero_le _)).mono ?_
                  rintro e v5 ⟨rfl, hb⟩
                  have D12 := Lib.hid (below_step D11.out hb)
                  clear hb D11 BV11 c0
                  go_wp2_with fail
                  refine (vruns_any _ (HT.out _ D12.out)).mono ?_
                  rintro e v6 ⟨rfl, hb⟩
                  have D13 := Lib.hid (below_step D12.out hb)
                  clear hb
                  go_wp2_with fail
                  go_ret
                  exact ⟨rfl, D13.out⟩
end Go.Proofs.YtcelkfahkodlhaaDoor
