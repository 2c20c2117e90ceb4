/- LexBack: the walk. -/
import Derived.Test.YtpedfkigneahgaaDoorLexRuns
import Derived.Test.YtpedfkigneahgaaDoorLexBackT
import Derived.Test.YtpedfkigneahgaaDoorWithin
import Derived.Test.YtpedfkigneahgaaDoorLaid7
import Derived.Test.YtpedfkigneahgaaDoorIntRow
import Derived.Deep.CutRange
import Derived.Lib.QuietBelow
import Derived.Lib.MinMax
namespace Go.Proofs.YtpedfkigneahgaaDoor
set_option linter.unusedVariables false
open Go.RowKit

theorem backP_ok {W w' : World} {ts : List Tk} {e : Ending} (h : AllP W (.ok ts) e w') : ∃ (A : Option Addr) (n c : Nat), e = .returned (.tuple #[.slice A n c, .int .i64 0, .int .i64 0]) ∧ Ts w' w'.heap.size A n c ts ∧ ts.length = n ∧ Below W.heap.size W w' := by
  obtain ⟨A, n, c, rfl, ho, hb⟩ := h
  exact ⟨A, n, c, rfl, Ts.of_own ho, by have := ho.1; rw [cells4_len] at this; omega, hb⟩

theorem Ts.four {w : World} {B n c b o : Nat} {l : List Tk} (h : Ts w B (some ⟨b, o, none⟩) n c l) {k : Nat} {v : Tk} (hk : k < n) (hv : l[k]? = some v) : w.cell? ⟨b, o + k * 4, none⟩ = some (.int .i64 v.k) ∧ w.cell? ⟨b, o + k * 4 + 1, none⟩ = some (.int .i64 v.p) ∧ w.cell? ⟨b, o + k * 4 + 2, none⟩ = some (.int .i64 v.n) ∧ w.cell? ⟨b, o + k * 4 + 3, none⟩ = some (.string v.s) := by
  obtain ⟨b', o', v', e, _, hv', h4⟩ := h.at_ hk
  injection e with e
  injection e with e1 e2
  subst e1 e2
  rw [hv] at hv'
  obtain rfl := Option.some.inj hv'
  exact h4

set_option maxRecDepth 100000 in
set_option maxHeartbeats 3200000 in
theorem lexBack_walk (W : World) (s : ByteArray) (hs : s.size ≤ maxLen) (a : Int) (ha : -9223372036854775808 ≤ a ∧ a ≤ 9223372036854775807) (htab : Tab W) : Calls Tryd.prog 3 #[.string s, .int .i64 a] W fun e w' => e = .returned (.bool true) ∧ Below W.heap.size W w' := by
  have HT := Lib.hid (fun w' (hb : Below W.heap.size W w') => htab.then_ hb)
  have HS0 := Lib.hid hs
  have HA0 := Lib.hid ha
  have HR := Lib.hid (fun w => lexruns_any w)
  clear htab hs ha
  go_enter Tryd.func3, Tryd.ntmps3
  have hsz : ∃ t : ByteArray, t.size ≤ 400 ∧ (400 < s.size → s.extract 0 400 = t) ∧ (¬ 400 < s.size → s = t) := by
    by_cases hc : 400 < s.size
    · exact ⟨s.extract 0 400, by rw [ByteArray.size_extract]; omega, fun _ => rfl, fun h => absurd hc h⟩
    · exact ⟨s, by omega, fun h => absurd h hc, fun _ => rfl⟩
  obtain ⟨t, ht4, ht1, ht2⟩ := hsz
  have HA := Lib.hid (fun w => all_any t (by omega) w)
  have H4 := Lib.hid ht4
  have HD := Lib.hid (data_len t)
  clear ht4
  go_upto_if 18 with fail
  go_cut [0] from 16 to 20 (fun u wx => u = .string t ∧ wx = W)
  case first =>
    by_cases hc : (400 : Int) < (s.size : Int)
    · have ht := ht1 (by omega)
      clear ht1 ht2
      go_wp2_with fail
      go_meet
      exact ⟨by rw [← ht], rfl⟩
    · have ht := ht2 (by omega)
      clear ht1 ht2
      subst ht
      go_wp2_with fail
      go_meet
      exact ⟨rfl, rfl⟩
  case rest =>
    obtain ⟨rfl, hcw⟩ := hcut
    obtain rfl := hcw.symm
    clear ht1 ht2
    cases hlex : lexB t.data.toList 0 with
    | error e1 =>
      rw [hlex] at HA
      go_wp2_with fail
      refine (HA.out _).mono ?_
      rintro e w1 ⟨rfl, hb1⟩
      go_wp2_with fail
      refine (HR.out _).mono ?_
      rintro e w4 ⟨rfl, hb4⟩
      go_wp2_with fail
      go_ret
      exact ⟨rfl, below_step hb1 hb4⟩
    | ok ts =>
      rw [hlex] at HA
      go_wp2_with fail
      refine (HA.out _).mono ?_
      intro e w1 h1
      obtain ⟨A1, n1, c1, rfl, t1, hl1, hb1⟩ := backP_ok h1
      clear h1
      have T1 := Lib.hid t1
      have D1 := Lib.hid hb1
      obtain ⟨us, hts, hus1, hus2, hus3, hus4⟩ := lex_back _ _ _ _ (Nat.le_refl _) hlex
      have W3 := Lib.hid (fun w => within_any (n := a) (lo := 0) (hi := 2) (w := w) (by omega) (by omega) (by omega))
      have hg := within_le (n := a) (lo := 0) (hi := 2) (by omega)
      obtain ⟨g, hg1, hg2⟩ : ∃ g : Nat, withinOf a 0 2 = (g : Int) ∧ g ≤ 2 := ⟨(withinOf a 0 2).toNat, by omega, by omega⟩
      rw [hg1] at W3
      clear hg hg1 hlex t1 hb1
      go_wp2_with fail
      refine (W3.out _).mono ?_
      rintro e w2 ⟨rfl, rfl⟩
      have hgap : (⟨#[32, 32, 32]⟩ : ByteArray).extract 0 (1 + g) = ⟨(List.replicate (g + 1) 32).toArray⟩ := by
        rcases (show g = 0 ∨ g = 1 ∨ g = 2 by omega) with rfl | rfl | rfl <;> decide +kernel
      have hn1 : n1 = us.length + 1 := by rw [← hl1, hts, List.length_append]; rfl
      have HU4 := Lib.hid hus4
      have HU3 := Lib.hid hus3
      have HTS := Lib.hid hts
      have hul : us.length ≤ 400 := by have := HD.out; have := H4.out; omega
      have HN1 := Lib.hid hn1
      clear hus4 hus3 hts hl1 hn1
      go_wp2_with fail
      try rw [hgap]
      go_loopw [8, 10, 11] (fun x y i wr => ∃ k : Nat, k ≤ us.length ∧ x = .string ⟨(wrL (g + 1) (us.take k)).toArray⟩ ∧ (∃ A2 c2, y = .slice A2 k c2 ∧ wr.ownsRow (w1.heap.size) 3 1 (.slice A2 k c2) k ((List.range k).map fun j => Value.int .i64 ((wrL (g + 1) (us.take j)).length : Int))) ∧ i = .int .i64 (k : Int) ∧ Below w1.heap.size w1 wr) (fun x y i _ => us.length - (intOf i).toNat)
      case atStart => exact ⟨0, Nat.zero_le _, rfl, ⟨none, 0, rfl, World.ownsRow_nil w1 _ _ _⟩, rfl, Below.refl _ _⟩
      case round =>
        obtain ⟨k, hk, hx, ⟨A2, c2, rfl, hown⟩, rfl, hbr⟩ := hrel
        obtain ⟨tx, htx⟩ : ∃ tx : ByteArray, tx = ⟨(wrL (g + 1) (us.take k)).toArray⟩ := ⟨_, rfl⟩
        rw [← htx] at hx
        subst hx
        have HTX := Lib.hid htx
        clear htx
        have BR := Lib.hid hbr
        have OW := Lib.hid hown
        clear hbr hown
        by_cases hlt : k < us.length
        · have T1r := Lib.hid (T1.out.then_ BR.out)
          obtain ⟨bx, ox, vx, hAx, hbx, hvx, x0, x1, x2, x3⟩ := T1r.out.at_ (k := k) (by have := HN1.out; omega)
          subst hAx
          obtain ⟨kx, px, nx, sx⟩ := vx
          dsimp only at x0 x1 x2 x3
          have hux : us[k]? = some ⟨kx, px, nx, sx⟩ := by rw [HTS.out, List.getElem?_append_left hlt] at hvx; exact hvx
          have hp0 : 0 ≤ px := rises_at us 0 k _ HU3.out hux
          have hag := HU4.out _ (List.mem_of_getElem? hux)
          have HUX := Lib.hid hux
          clear hvx hux hbx
          have hpx : ¬ px < 0 := by omega
          have hkn : (k : Int) < (n1 : Int) := by have := HN1.out; omega
          have hkn1 : (k : Int) + 1 < (n1 : Int) := by have := HN1.out; omega
          have hkn2 : k < n1 := by have := HN1.out; omega
          have hk0 : 0 ≤ (k : Int) ∧ (k : Int) < (n1 : Int) := by omega
          go_wp2_with fail
          go_cut [69] from 46 to 69 (fun u wx => u = .bool false ∧ Below wr.heap.size wr wx)
          case first =>
            have z1 := fun d os => cell_regrown x1 d os
            have hpx1 : (px < 0) = False := eq_false (by omega)
            have hpx2 : decide (px < 0) = false := decide_eq_false (by omega)
            by_cases k0 : 0 < k
            · have T1s := Lib.hid (T1.out.then_ BR.out)
              obtain ⟨bv, ov, vv, hAv, hbv, hvv, v0, v1, v2, v3⟩ := T1s.out.at_ (k := k - 1) (by omega)
              injection hAv with hAv
              injection hAv with h1 h2 h3
              subst h1 h2
              obtain ⟨kv, pv, nv', sv⟩ := vv
              have huv : us[k - 1]? = some ⟨kv, pv, nv', sv⟩ := by rw [HTS.out, List.getElem?_append_left (by omega)] at hvv; exact hvv
              have hlt2 : pv < px := rises_next us 0 (k - 1) _ _ HU3.out huv (by rw [show k - 1 + 1 = k by omega]; exact HUX.out)
              dsimp only at v1
              have y1 := fun d os => cell_regrown v1 d os
              have hkm : (0 : Int) ≤ (k : Int) - 1 := by omega
              have hkm2 : (k : Int) - 1 < (n1 : Int) := by omega
              have hkm3 : (0 : Int) ≤ (k : Int) - 1 ∧ (k : Int) - 1 < (n1 : Int) := by omega
              have hkm4 : ((k : Int) - 1).toNat = k - 1 := by omega
              have hle : (px ≤ pv) = False := eq_false (by omega)
              have hle2 : decide (px ≤ pv) = false := decide_eq_false (by omega)
              clear x0 x1 x2 x3 v0 v1 v2 v3 huv hvv hbv T1s hlt2
              refine wp_region_quiet_below (by kernel_rfl) (by kernel_rfl) ?_
              repeat (go_big_quiet_step (fail))
              refine wpQuiet_nil ?_
              intro _ hw'
              obtain ⟨⟨dq, osq⟩, hw''⟩ := hw'
              subst hw''
              have BG := Lib.hid (below_regrown wr dq osq)
              generalize «Sort».grow (redrawn wr dq) osq = wq at *
              go_wp2_with fail
              go_meet
              exact ⟨rfl, BG.out⟩
            · have hkz : ((0 : Int) < (k : Int)) = False := eq_false (by omega)
              have hkz2 : decide ((0 : Int) < (k : Int)) = false := decide_eq_false (by omega)
              have hkz3 : (0 < k) = False := eq_false k0
              clear x0 x1 x2 x3
              refine wp_region_quiet_below (by kernel_rfl) (by kernel_rfl) ?_
              repeat (go_big_quiet_step (fail))
              refine wpQuiet_nil ?_
              intro _ hw'
              obtain ⟨⟨dq, osq⟩, hw''⟩ := hw'
              subst hw''
              have BG := Lib.hid (below_regrown wr dq osq)
              generalize «Sort».grow (redrawn wr dq) osq = wq at *
              go_wp2_with fail
              go_meet
              exact ⟨rfl, BG.out⟩
          case rest =>
            obtain ⟨rfl, hbc⟩ := hcut
            have BC := Lib.hid (BR.out.trans (hbc.mono BR.out.size))
            have T1c := Lib.hid (T1.out.then_ BC.out)
            have OC := Lib.hid (own_tok OW.out hbc)
            clear hbc x0 x1 x2 x3
            obtain ⟨A3, c3, w3, hrun, hown3, hb3⟩ := append_int (ty := 28) (tx.size : Int) OC.out (by omega) BC.out.size
            have HAP := Lib.hid hrun
            have O3 := Lib.hid hown3
            have B3 := Lib.hid (BC.out.trans hb3)
            have T13 := Lib.hid (T1.out.then_ B3.out)
            have hvx : ts[k]? = some ⟨kx, px, nx, sx⟩ := by rw [HTS.out, List.getElem?_append_left hlt]; exact HUX.out
            obtain ⟨x0, x1, x2, x3⟩ := T13.out.four hkn2 hvx
            dsimp only at x0 x1 x2 x3
            have hsz : sx.size ≤ 1000000 := tok_small hag (by have := wrL_mem 0 (List.mem_of_getElem? HUX.out); have := HD.out; have := H4.out; omega)
            have hwl : (Tk.w ⟨kx, px, nx, sx⟩).length ≤ 400 := by have := wrL_mem 0 (List.mem_of_getElem? HUX.out); have := HD.out; have := H4.out; omega
            have htl : tx.size ≤ 2000 := by
              rw [HTX.out]
              show (wrL (g + 1) (us.take k)).toArray.size ≤ 2000
              rw [List.size_toArray, wrL_len]
              have h1 := wrL_take 0 us k
              have h2 : (us.take k).length ≤ 400 := by rw [List.length_take]; omega
              have h3 : (g + 1) * (us.take k).length ≤ 3 * 400 := Nat.mul_le_mul (by omega) h2
              have := HD.out; have := H4.out; omega
            have hx1 : (9223372036854775807 < tx.size + (Tk.w ⟨kx, px, nx, sx⟩).length) = False := eq_false (by omega)
            have hx2 : (9223372036854775807 < tx.size + (Tk.w ⟨kx, px, nx, sx⟩).length + (g + 1)) = False := eq_false (by omega)
            clear htl hwl
            have HW := Lib.hid (fun w hw => write_any kx px nx sx hsz hag w hw)
            clear hrun hown3 hb3 hvx hsz
            go_wp2_with (at_builtin; refine wpList_append_run rfl _ _ _ _ rfl rfl rfl HAP.out ?_)
            refine (HW.out _ (HT.out _ (D1.out.trans (B3.out.mono D1.out.size)))).mono ?_
            rintro e w5 ⟨rfl, hb5⟩
            have B5 := Lib.hid (B3.out.trans (hb5.mono B3.out.size))
            have O5 := Lib.hid (own_tok O3.out hb5)
            clear hb5 x0 x1 x2 x3
            go_wp2_with fail
            go_roundw
            case rel =>
              (repeat apply Exists.intro)
              exact ⟨⟨k + 1, by omega, by rw [text_step _ HUX.out HTX.out], ⟨A3, c3, rfl, by rw [← ats_step _ HTX.out]; exact O5.out⟩, by go_num, B5.out⟩, rfl⟩
            case measure => simp [intOf]; omega
        · obtain rfl : k = us.length := by omega
          have htx : tx = ⟨(wrL (g + 1) us).toArray⟩ := by rw [HTX.out, List.take_length]
          have htl : tx.size ≤ 4096 := by
            rw [htx]
            show (wrL (g + 1) us).toArray.size ≤ 4096
            rw [List.size_toArray, wrL_len]
            have h3 : (g + 1) * us.length ≤ 3 * 400 := Nat.mul_le_mul (by omega) hul
            have := HD.out; have := H4.out; omega
          have HM := Lib.hid (fun w => all_any tx htl w)
          rw [show tx.data.toList = wrL (g + 1) us by rw [htx], lex_wr (by omega) us 0 HU4.out] at HM
          have hxo : ¬ (us.length : Int) + 1 < (n1 : Int) := by have := HN1.out; omega
          clear htx htl
          go_wp2_with fail
          refine (HM.out _).mono ?_
          intro e w2 h2
          obtain ⟨A4, n4, c4, rfl, t4, hl4, hb4⟩ := backP_ok h2
          clear h2
          have hn4 : n4 = n1 := by rw [← hl4, List.length_append, placed_len, HN1.out]; rfl
          obtain rfl : n1 = n4 := hn4.symm
          have B2 := Lib.hid (BR.out.trans (hb4.mono BR.out.size))
          have T12 := Lib.hid (T1.out.then_ B2.out)
          have T42 := Lib.hid t4
          have O2 := Lib.hid (own_tok OW.out hb4)
          have hpos : us.length < n1 := by have := HN1.out; omega
          obtain ⟨bx, ox, vx, hAx, hbx, hvx, x0, x1, x2, x3⟩ := T12.out.at_ hpos
          subst hAx
          have hux : ts[us.length]? = some ⟨7, (t.size : Int), 0, ⟨#[]⟩⟩ := by
            rw [HTS.out, List.getElem?_append_right (Nat.le_refl _), Nat.sub_self, HD.out, Nat.zero_add]; rfl
          rw [hux] at hvx
          obtain rfl := (Option.some.inj hvx).symm
          dsimp only at x0 x1 x2 x3
          have hm0 : (0 : Int) ≤ (n1 : Int) - 1 ∧ (n1 : Int) - 1 < (n1 : Int) := by omega
          have hm1 : ((n1 : Int) - 1).toNat = us.length := by have := HN1.out; omega
          have hm2 : ((n1 : Int) == 0) = false := by rw [beq_eq_false_iff_ne]; omega
          clear t4 hl4 hb4 hux hbx x2 x3 hvx
          go_wp2_with fail
          have S2 := Lib.hid (Sl.of_own O2.out)
          clear x0 x1 hm0 hm1 hm2 hxo
          go_loopw [15] (fun i wr => ∃ k : Nat, k ≤ us.length ∧ i = .int .i64 (k : Int) ∧ Below w2.heap.size w2 wr) (fun i _ => us.length - (intOf i).toNat)
          case atStart => exact ⟨0, Nat.zero_le _, rfl, Below.refl _ _⟩
          case round =>
            obtain ⟨k, hk, rfl, hbx⟩ := hrel
            have BX := Lib.hid hbx
            clear hbx
            by_cases hlt : k < us.length
            · have T1x := Lib.hid (T12.out.then_ BX.out)
              have T4x := Lib.hid (T42.out.then_ BX.out)
              have S2x := Lib.hid (S2.out.then_ BX.out)
              obtain ⟨⟨kx, px, nx, sx⟩, hux⟩ : ∃ v, us[k]? = some v := ⟨us[k], List.getElem?_eq_getElem hlt⟩
              have hvx : ts[k]? = some ⟨kx, px, nx, sx⟩ := by rw [HTS.out, List.getElem?_append_left hlt]; exact hux
              have hvz : (placed (g + 1) 0 us ++ [⟨7, ((0 + (wrL (g + 1) us).length : Nat) : Int), 0, ⟨#[]⟩⟩])[k]? = some ⟨kx, (((wrL (g + 1) (us.take k)).length : Nat) : Int), nx, sx⟩ := by
                rw [List.getElem?_append_left (by rw [placed_len]; exact hlt), placed_at _ _ _ _ _ hux, Nat.zero_add]
              obtain ⟨x0, x1, x2, x3⟩ := T1x.out.four (by omega) hvx
              obtain ⟨bz, oz, vz, hAz, hbz, hvz2, z0, z1, z2, z3⟩ := T4x.out.at_ (k := k) (by omega)
              rw [hvz] at hvz2
              obtain rfl := Option.some.inj hvz2
              subst hAz
              obtain ⟨ba, oa, va, hAa, hba, hva, a0⟩ := S2x.out.at_ hlt
              subst hAa
              have hva2 : va = .int .i64 ((wrL (g + 1) (us.take k)).length : Int) := by
                rw [List.getElem?_map, List.getElem?_range hlt] at hva
                exact (Option.some.inj hva).symm
              subst hva2
              dsimp only at x0 x1 x2 x3 z0 z1 z2 z3
              generalize (((wrL (g + 1) (us.take k)).length : Nat) : Int) = pz at *
              have hss : (sx.toList != sx.toList) = false := by simp
              have hkn : (k : Int) + 1 < (n1 : Int) := by omega
              have hk0 : 0 ≤ (k : Int) ∧ (k : Int) < (n1 : Int) := by omega
              have hk1 : 0 ≤ (k : Int) ∧ (k : Int) < (us.length : Int) := by omega
              clear hvx hvz hvz2 hux hbz hba hva
              go_wp2_with fail
              go_cut [181] from 126 to 181 (fun u wx => u = .bool false ∧ Below wr.heap.size wr wx)
              case first =>
                have y0 := fun d os => cell_regrown x0 d os
                have y2 := fun d os => cell_regrown x2 d os
                have y3 := fun d os => cell_regrown x3 d os
                have u0 := fun d os => cell_regrown z0 d os
                have u1 := fun d os => cell_regrown z1 d os
                have u2 := fun d os => cell_regrown z2 d os
                have u3 := fun d os => cell_regrown z3 d os
                have b0 := fun d os => cell_regrown a0 d os
                clear x0 x1 x2 x3 z0 z1 z2 z3 a0
                refine wp_region_quiet_below (by kernel_rfl) (by kernel_rfl) ?_
                repeat (go_big_quiet_step (fail))
                refine wpQuiet_nil ?_
                intro _ hw'
                obtain ⟨⟨dq, osq⟩, hw''⟩ := hw'
                subst hw''
                have BG := Lib.hid (below_regrown wr dq osq)
                generalize «Sort».grow (redrawn wr dq) osq = wq at *
                go_wp2_with fail
                go_meet
                exact ⟨rfl, BG.out⟩
              case rest =>
                obtain ⟨rfl, hbc⟩ := hcut
                have BC := Lib.hid (BX.out.trans (hbc.mono BX.out.size))
                clear hbc x0 x1 x2 x3 z0 z1 z2 z3 a0
                go_wp2_with fail
                go_roundw
                case rel => exact ⟨k + 1, by omega, by go_num, BC.out⟩
                case measure => simp [intOf]; omega
            · obtain rfl : k = us.length := by omega
              have hxo : ¬ (us.length : Int) + 1 < (n1 : Int) := by have := HN1.out; omega
              go_wp2_with fail
              refine (HR.out _).mono ?_
              rintro e w4 ⟨rfl, hb4⟩
              go_wp2_with fail
              go_ret
              exact ⟨rfl, D1.out.trans ((B2.out.trans ((below_step BX.out hb4).mono B2.out.size)).mono D1.out.size)⟩
end Go.Proofs.YtpedfkigneahgaaDoor
