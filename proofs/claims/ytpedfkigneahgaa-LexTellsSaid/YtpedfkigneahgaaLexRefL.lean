/- The reference's Lex. -/
import Derived.Test.YtpedfkigneahgaaLexRefWA
import Derived.Test.YtpedfkigneahgaaLexRefWB
import Derived.Test.YtpedfkigneahgaaLexRefWC
import Derived.Test.YtpedfkigneahgaaLexRefWD
namespace Go.Proofs.Ytpedfkigneahgaa
set_option linter.unusedVariables false
open Go.RowKit

noncomputable def b4Code : Code := (findBlock 4 ((Try.f10.body).getD .skip)).getD .skip
theorem b4_use {Q : Exit → Act → World → Prop} {a : Act} {w : World} (h : ∃ R, findBlock 4 ((Try.f10.body).getD .skip) = some R ∧ R.wp Try.prog Q a w) : b4Code.wp Try.prog Q a w := by
  obtain ⟨R, h1, h2⟩ := h
  unfold b4Code
  rw [h1]
  exact h2

set_option maxRecDepth 100000 in
set_option maxHeartbeats 800000 in
theorem rlex_big (s : ByteArray) (hs : 4096 < s.size) (hm : s.size ≤ maxLen) (w : World) : Calls Try.prog 10 #[.string s] w fun e w' => e = .returned (.tuple #[.slice none 0 0, .int .i64 6, .int .i64 4096]) ∧ w' = w := by
  unfold maxLen at hm
  go_enter Try.func10, Try.ntmps10
  go_wp2_with fail
  go_ret3
  exact ⟨rfl, rfl⟩

set_option maxRecDepth 100000 in
set_option maxHeartbeats 6400000 in
theorem rlex_any (s : ByteArray) (hs : s.size ≤ 4096) (W : World) : Calls Try.prog 10 #[.string s] W fun e w' => RLexP W (lexB s.data.toList 0) e w' := by
  have HD : Hid (∀ k (h : k < s.size), s.data.toList[k]? = some s[k]) := Lib.hid fun k h => data_at h
  have HST : Hid (RLRel s W (.slice none 0 0) (.int .i64 0) W) := Lib.hid ⟨[], none, 0, 0, 0, rfl, rfl, ⟨rfl, .inl ⟨rfl, rfl⟩⟩, Below.refl _ _, Nat.le_refl _, Nat.zero_le _, by rw [List.drop_zero, cat_nil]⟩
  have hbig : decide (4096 < (s.size : Int)) = false := decide_eq_false (by omega)
  have hbig2 : ¬ 4096 < (s.size : Int) := by omega
  go_enter Try.func10, Try.ntmps10
  go_wp2_with fail
  go_loopw [5, 6] (fun l a wr => RLRel s W l a wr) (fun _ a _ => s.size - (intOf a).toNat)
  case atStart => exact HST.out
  case round =>
    obtain ⟨ts, A, m, c, k, rfl, rfl, hb⟩ := hrel
    have HB := Lib.hid hb
    have hks : k ≤ s.size := hb.2.2.2.1
    clear hb
    obtain ⟨wo, rfl⟩ : ∃ wo : World, wo = wr := ⟨_, rfl⟩
    go_wp2_with fail
    go_loop [6] (fun v => ∃ j : Nat, k ≤ j ∧ j ≤ s.size ∧ v = .int .i64 (j : Int) ∧ PastTo s.data.toList blk k j) (fun v => s.size - (intOf v).toNat)
    case atStart => exact ⟨k, Nat.le_refl _, hks, rfl, rfl⟩
    case round =>
      obtain ⟨j, hkj, hj, rfl, hp⟩ := hrel
      have HP := Lib.hid hp
      clear hp
      by_cases hlt : j < s.size
      · have hji : 0 ≤ (j : Int) ∧ (j : Int) < s.size := by omega
        have hd := HD.out j hlt
        generalize hbb : s[j] = b at *
        have HDB := Lib.hid hd
        have hbk := blk_eq b
        cases h32 : ((b.toNat : Int) == 32) with
        | true =>
          rw [h32] at hbk
          have HBK := Lib.hid hbk
          clear hd hbk
          go_wp2_with fail
          go_round
          case rel => exact ⟨j + 1, by omega, by omega, by go_num, HP.out.step HDB.out (by rw [HBK.out]; rfl)⟩
          case measure => simp [intOf]; omega
        | false =>
          rw [h32] at hbk
          cases h10 : ((b.toNat : Int) == 10) with
          | true =>
            rw [h10] at hbk
            have HBK := Lib.hid hbk
            clear hd hbk
            go_wp2_with fail
            go_round
            case rel => exact ⟨j + 1, by omega, by omega, by go_num, HP.out.step HDB.out (by rw [HBK.out]; rfl)⟩
            case measure => simp [intOf]; omega
          | false =>
            rw [h10] at hbk
            have HBK : Hid (blk b = false) := hbk
            have HB1 := Lib.hid (HB.out.skip (HP.out.stop hd hbk))
            have HDR := Lib.hid (drop_at hd)
            have hge : ¬ (s.size : Int) ≤ (j : Int) := by omega
            clear hd hbk
            go_upto_region 8 with (fail)
            have T1 := Lib.hid (newTok_tb wo (j : Int))
            have D1 := Lib.hid (newTok_below wo (j : Int))
            obtain ⟨w1, hw1⟩ : ∃ w1, w1 = newTok wo (j : Int) := ⟨_, rfl⟩
            rw [← hw1] at T1 D1
            have HW1 : Hid (newTok wo (j : Int) = w1) := hw1.symm
            have e1 := HW1.out
            unfold newTok at e1
            rw [e1]
            clear hw1 e1
            have c1 := T1.out.c4
            have f1 := T1.out.fz
            go_upto_block 4 with (fail)
            go_cut [8, 9, 11, 12, 13] from 51 to 208 (fun e o _ _ _ wx => RCut s wo j e o wx)
            case first =>
              have HKJ := Lib.hid hkj
              rcases six_ways b with ⟨e1, hg⟩ | ⟨e1, e2, hg⟩ | ⟨e1, e2, e3, hg⟩ | ⟨e1, e2, e3, e4, hg⟩ | ⟨e1, e2, e3, e4, e5, hg⟩ | ⟨e1, e2, e3, e4, e5, e6, hg⟩ | ⟨e1, e2, e3, e4, e5, e6, hg⟩
              · exact b4_use (sw0 s hs wo w1 j hlt b HDB.out T1 D1 _ _ (fun _ _ _ _ _ _ _ _ _ _ _ _ _ _ _ _ _ _ _ _ _ _ _ _ _ _ _ _ _ _ _ _ _ _ _ _ _ _ _ _ _ _ _ _ _ _ _ _ _ _ _ _ _ _ _ _ _ _ _ _ _ _ _ _ _ _ _ _ _ _ _ _ _ _ _ _ _ _ _ _ _ _ _ _ _ _ _ _ _ _ _ _ _ _ _ _ _ _ _ _ _ _ _ _ _ _ _ _ _ _ _ _ _ _ _ _ _ _ _ _ _ _ _ _ _ _ _ _ _ _ _ _ _ _ _ _ _ _ _ _ _ _ _ _ _ _ _ _ _ _ _ _ _ _ _ _ _ _ _ _ _ _ _ h => by dsimp only; go_step; go_meet; exact h) e1)
              · exact b4_use (sw1 s hs wo w1 j hlt b HDB.out T1 D1 _ _ (fun _ _ _ _ _ _ _ _ _ _ _ _ _ _ _ _ _ _ _ _ _ _ _ _ _ _ _ _ _ _ _ _ _ _ _ _ _ _ _ _ _ _ _ _ _ _ _ _ _ _ _ _ _ _ _ _ _ _ _ _ _ _ _ _ _ _ _ _ _ _ _ _ _ _ _ _ _ _ _ _ _ _ _ _ _ _ _ _ _ _ _ _ _ _ _ _ _ _ _ _ _ _ _ _ _ _ _ _ _ _ _ _ _ _ _ _ _ _ _ _ _ _ _ _ _ _ _ _ _ _ _ _ _ _ _ _ _ _ _ _ _ _ _ _ _ _ _ _ _ _ _ _ _ _ _ _ _ _ _ _ _ _ _ h => by dsimp only; go_step; go_meet; exact h) e1 e2)
              · exact b4_use (sw2 s hs wo w1 j hlt b HDB.out T1 D1 _ _ (fun _ _ _ _ _ _ _ _ _ _ _ _ _ _ _ _ _ _ _ _ _ _ _ _ _ _ _ _ _ _ _ _ _ _ _ _ _ _ _ _ _ _ _ _ _ _ _ _ _ _ _ _ _ _ _ _ _ _ _ _ _ _ _ _ _ _ _ _ _ _ _ _ _ _ _ _ _ _ _ _ _ _ _ _ _ _ _ _ _ _ _ _ _ _ _ _ _ _ _ _ _ _ _ _ _ _ _ _ _ _ _ _ _ _ _ _ _ _ _ _ _ _ _ _ _ _ _ _ _ _ _ _ _ _ _ _ _ _ _ _ _ _ _ _ _ _ _ _ _ _ _ _ _ _ _ _ _ _ _ _ _ _ _ h => by dsimp only; go_step; go_meet; exact h) e1 e2 e3)
              · exact b4_use (sw3 s hs wo w1 j hlt b HDB.out T1 D1 _ _ (fun _ _ _ _ _ _ _ _ _ _ _ _ _ _ _ _ _ _ _ _ _ _ _ _ _ _ _ _ _ _ _ _ _ _ _ _ _ _ _ _ _ _ _ _ _ _ _ _ _ _ _ _ _ _ _ _ _ _ _ _ _ _ _ _ _ _ _ _ _ _ _ _ _ _ _ _ _ _ _ _ _ _ _ _ _ _ _ _ _ _ _ _ _ _ _ _ _ _ _ _ _ _ _ _ _ _ _ _ _ _ _ _ _ _ _ _ _ _ _ _ _ _ _ _ _ _ _ _ _ _ _ _ _ _ _ _ _ _ _ _ _ _ _ _ _ _ _ _ _ _ _ _ _ _ _ _ _ _ _ _ _ _ _ h => by dsimp only; go_step; go_meet; exact h) e1 e2 e3 e4)
              · exact b4_use (sw4 s hs wo w1 j hlt b HDB.out T1 D1 _ _ (fun _ _ _ _ _ _ _ _ _ _ _ _ _ _ _ _ _ _ _ _ _ _ _ _ _ _ _ _ _ _ _ _ _ _ _ _ _ _ _ _ _ _ _ _ _ _ _ _ _ _ _ _ _ _ _ _ _ _ _ _ _ _ _ _ _ _ _ _ _ _ _ _ _ _ _ _ _ _ _ _ _ _ _ _ _ _ _ _ _ _ _ _ _ _ _ _ _ _ _ _ _ _ _ _ _ _ _ _ _ _ _ _ _ _ _ _ _ _ _ _ _ _ _ _ _ _ _ _ _ _ _ _ _ _ _ _ _ _ _ _ _ _ _ _ _ _ _ _ _ _ _ _ _ _ _ _ _ _ _ _ _ _ _ h => by dsimp only; go_step; go_meet; exact h) e1 e2 e3 e4 e5)
              · exact b4_use (sw5 s hs wo w1 j hlt b HDB.out T1 D1 _ _ (fun _ _ _ _ _ _ _ _ _ _ _ _ _ _ _ _ _ _ _ _ _ _ _ _ _ _ _ _ _ _ _ _ _ _ _ _ _ _ _ _ _ _ _ _ _ _ _ _ _ _ _ _ _ _ _ _ _ _ _ _ _ _ _ _ _ _ _ _ _ _ _ _ _ _ _ _ _ _ _ _ _ _ _ _ _ _ _ _ _ _ _ _ _ _ _ _ _ _ _ _ _ _ _ _ _ _ _ _ _ _ _ _ _ _ _ _ _ _ _ _ _ _ _ _ _ _ _ _ _ _ _ _ _ _ _ _ _ _ _ _ _ _ _ _ _ _ _ _ _ _ _ _ _ _ _ _ _ _ _ _ _ _ _ h => by dsimp only; go_step; go_meet; exact h) e1 e2 e3 e4 e5 e6)
              · exact b4_use (sw6 s hs wo w1 j hlt b HDB.out T1 D1 _ _ (fun _ _ _ _ _ _ _ _ _ _ _ _ _ _ _ _ _ _ _ _ _ _ _ _ _ _ _ _ _ _ _ _ _ _ _ _ _ _ _ _ _ _ _ _ _ _ _ _ _ _ _ _ _ _ _ _ _ _ _ _ _ _ _ _ _ _ _ _ _ _ _ _ _ _ _ _ _ _ _ _ _ _ _ _ _ _ _ _ _ _ _ _ _ _ _ _ _ _ _ _ _ _ _ _ _ _ _ _ _ _ _ _ _ _ _ _ _ _ _ _ _ _ _ _ _ _ _ _ _ _ _ _ _ _ _ _ _ _ _ _ _ _ _ _ _ _ _ _ _ _ _ _ _ _ _ _ _ _ _ _ _ _ _ h => by dsimp only; go_step; go_meet; exact h) e1 e2 e3 e4 e5 e6)
            case rest =>
              obtain ⟨e', ok, kk, nn, ss, rfl, rfl, t3, d3, bk⟩ := hcut
              have hkj' := hkj
              clear hkj hji hbb HP c1 f1 T1 D1 HW1 HDB
              cases hto : tokB (s.data.toList.drop j) with
              | none =>
                rw [hto] at bk
                obtain rfl : ok = false := bk.1
                have HTK := Lib.hid hto
                have D3 := Lib.hid d3
                clear bk hto t3 d3
                go_wp2_with fail
                go_ret3
                exact rlex_bad (HB1.out.bad HDR.out HBK.out HTK.out) rfl (HB1.out.then_ D3.out).2.1
              | some qq =>
                obtain ⟨k', n', st, q⟩ := qq
                rw [hto] at bk
                obtain rfl : ok = true := bk.1
                obtain ⟨rfl, _, rfl, rfl, rfl⟩ := bk.2 _ _ _ _ rfl
                have HTK := Lib.hid hto
                have hm : ts.length = m := by have := HB1.out.1.1; rw [cells4_len] at this; omega
                have htl := HB1.out.2.2.1
                have hap := append_tok (ty := 22) (HB1.out.then_ d3).1 ⟨kk, j, nn, ⟨st.toArray⟩⟩ (by omega) (HB1.out.then_ d3).2.1.size
                obtain ⟨A2, c2', w4, hap, hown2, hbel2⟩ := hap
                have HAP := Lib.hid hap
                have HPU := Lib.hid (HB1.out.push HDR.out HBK.out HTK.out hown2 ((HB1.out.then_ d3).2.1.trans hbel2))
                have hq := (tokB_pos HTK.out).1
                have c9 := t3.c4
                clear bk hto hap hown2 hbel2 hm htl t3 d3
                generalize (⟨st.toArray⟩ : ByteArray) = xx at *
                go_wp2_with (at_builtin; refine wpList_append_run rfl _ _ _ _ rfl rfl rfl HAP.out ?_)
                go_roundw
                case rel => exact ⟨_, A2, m + 1, c2', _, rfl, by first | rfl | exact int_eq (by omega), HPU.out⟩
                case measure => simp [intOf]; omega
      · obtain rfl : j = s.size := by omega
        have HB1 := Lib.hid (HB.out.skip (HP.out.end (by rw [data_len]; exact Nat.le_refl _)))
        have HV := Lib.hid HB1.out.end
        go_upto_region 8 with (fail)
        have T1 := Lib.hid (newTok_tb wo (s.size : Int))
        have D1 := Lib.hid (newTok_below wo (s.size : Int))
        obtain ⟨w1, hw1⟩ : ∃ w1, w1 = newTok wo (s.size : Int) := ⟨_, rfl⟩
        rw [← hw1] at T1 D1
        have HW1 : Hid (newTok wo (s.size : Int) = w1) := hw1.symm
        have e1 := HW1.out
        unfold newTok at e1
        rw [e1]
        clear hw1 e1
        have D2 := Lib.hid (D1.out.setCell (p := ⟨wo.heap.size, 0, none⟩) (Nat.le_refl _) (.int .i64 7))
        have HB2 := Lib.hid (HB1.out.then_ D2.out)
        have T2 := Lib.hid (T1.out.setK 7)
        have hm : ts.length = m := by have := HB2.out.1.1; rw [cells4_len] at this; omega
        have htl := HB2.out.2.2.1
        have hap := append_tok (ty := 22) HB2.out.1 ⟨7, (s.size : Int), 0, ⟨#[]⟩⟩ (by omega) HB2.out.2.1.size
        obtain ⟨A2, c2', w2, hap, hown2, hbel2⟩ := hap
        rw [size_set] at hap
        have HAP := Lib.hid hap
        have HO := Lib.hid hown2
        have HBE := Lib.hid (HB2.out.2.1.trans hbel2)
        have c1 := T1.out.c4
        have f1 := T1.out.fz
        have c2 := T2.out.c4
        clear hap hown2 hbel2 hm htl
        go_wp2_with (at_builtin; refine wpList_append_run rfl _ _ _ _ rfl rfl rfl HAP.out ?_)
        go_ret3
        exact rlex_ok HV.out rfl HO.out HBE.out
end Go.Proofs.Ytpedfkigneahgaa
