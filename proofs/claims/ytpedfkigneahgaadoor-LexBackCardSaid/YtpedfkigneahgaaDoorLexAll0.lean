/- lex.All: from label to label. -/
import Derived.Test.YtpedfkigneahgaaDoorLexAll7
import Derived.Deep.Cut
namespace Go.Proofs.YtpedfkigneahgaaDoor
set_option linter.unusedVariables false
open Go.RowKit

/-- What stands behind the label 'blanks'. -/
noncomputable def blankCode : Code := match findLabel allCode 0 with | some (.seq _ c) => c | _ => .skip
theorem ABase.skip {s : ByteArray} {W wr : World} {ts : List Tk} {A : Option Addr} {m c k : Nat} (h : ABase s W ts A m c k wr) : ABase s W ts A m c (k + ((s.data.toList.drop k).takeWhile blk).length) wr := by
  obtain ⟨h1, h2, h3, h4, h5, h6⟩ := h
  exact ⟨h1, h2, h3, by omega, tw_le s blk k h5, by rw [h6, lexB_skip, List.drop_drop]⟩
theorem skip_not (s : ByteArray) (k : Nat) {b : UInt8} (h : s.data.toList[k + ((s.data.toList.drop k).takeWhile blk).length]? = some b) : blk b = false := by
  have hd := drop_at' h
  rw [← List.drop_drop] at hd
  exact drop_tw hd
theorem six_ways (b : UInt8) : (lett b = true ∧ goesTo b = 1) ∨ (lett b = false ∧ dgt b = true ∧ goesTo b = 2) ∨ (lett b = false ∧ dgt b = false ∧ ((b.toNat : Int) == 45) = true ∧ goesTo b = 2) ∨
    (lett b = false ∧ dgt b = false ∧ ((b.toNat : Int) == 45) = false ∧ ((b.toNat : Int) == 64) = true ∧ goesTo b = 3) ∨ (lett b = false ∧ dgt b = false ∧ ((b.toNat : Int) == 45) = false ∧ ((b.toNat : Int) == 64) = false ∧ ((b.toNat : Int) == 35) = true ∧ goesTo b = 4) ∨
    (lett b = false ∧ dgt b = false ∧ ((b.toNat : Int) == 45) = false ∧ ((b.toNat : Int) == 64) = false ∧ ((b.toNat : Int) == 35) = false ∧ ((b.toNat : Int) == 34) = true ∧ goesTo b = 5) ∨
    (lett b = false ∧ dgt b = false ∧ ((b.toNat : Int) == 45) = false ∧ ((b.toNat : Int) == 64) = false ∧ ((b.toNat : Int) == 35) = false ∧ ((b.toNat : Int) == 34) = false ∧ goesTo b = 6) := by
  have e : ∀ q : UInt8, ((b.toNat : Int) == (q.toNat : Int)) = decide (b = q) := fun q => by
    rw [Bool.eq_iff_iff, beq_iff_eq, decide_eq_true_iff]
    exact ⟨fun h => UInt8.toNat_inj.1 (by omega), fun h => by rw [h]⟩
  have e1 : ((b.toNat : Int) == 45) = decide (b = 45) := e 45
  have e2 : ((b.toNat : Int) == 64) = decide (b = 64) := e 64
  have e3 : ((b.toNat : Int) == 35) = decide (b = 35) := e 35
  have e4 : ((b.toNat : Int) == 34) = decide (b = 34) := e 34
  rw [e1, e2, e3, e4]
  unfold goesTo
  cases lett b <;> cases dgt b <;> by_cases h1 : b = 45 <;> by_cases h2 : b = 64 <;> by_cases h3 : b = 35 <;> by_cases h4 : b = 34 <;> simp [h1, h2, h3, h4]
set_option maxRecDepth 100000 in
set_option maxHeartbeats 800000 in
theorem blankPass' (s : ByteArray) (W : World) (hs : s.size ≤ 4096) (a : Act) (wr : World) (hJ : JBlank s W a wr) : ∃ R, findLabel allCode 0 = some (.seq .skip R) ∧ R.wp Tryd.prog (exitsTo (fun l' a' w' => JAll s W l' a' w' ∧ muAll s l' a' w' < muAll s 0 a wr) (allQ s W)) a wr := by
  obtain ⟨ts, A, m, c, k, ve, vo, vc, kk, pp, nn, ss, hf, hb, ht⟩ := hJ
  rw [mu_eq hf]
  obtain ⟨u, rfl⟩ := hf
  have hpa := past_blank s (by unfold maxLen; omega) k hb.2.2.2.2.1 wr
  have hb2 := hb.skip
  have hsk := fun b => skip_not s k (b := b)
  have hle := tw_le s blk k hb.2.2.2.2.1
  have hge : k ≤ k + ((s.data.toList.drop k).takeWhile blk).length := by omega
  generalize k + ((s.data.toList.drop k).takeWhile blk).length = j at *
  have T1 := Lib.hid (ht.put 0 (j : Int) 0 ⟨#[]⟩)
  have HB1 := Lib.hid ((((hb2.set 0 (.int .i64 0)).set 1 (.int .i64 (j : Int))).set 2 (.int .i64 0)).set 3 (.string ⟨#[]⟩))
  obtain ⟨w1, hw1⟩ : ∃ w1, w1 = (((wr.setCell ⟨W.heap.size, 0, none⟩ (.int .i64 0)).setCell ⟨W.heap.size, 1, none⟩ (.int .i64 (j : Int))).setCell ⟨W.heap.size, 2, none⟩ (.int .i64 0)).setCell ⟨W.heap.size, 3, none⟩ (.string ⟨#[]⟩) := ⟨_, rfl⟩
  rw [← hw1] at T1 HB1
  have HW1 := Lib.hid hw1
  have HPA := Lib.hid hpa
  have HSK := Lib.hid hsk
  have c1 := ht.c4
  have f1 := ht.fz
  clear hb hpa hb2 hsk hw1
  refine ⟨_, rfl, ?_⟩
  go_wp2_with fail
  refine HPA.out.mono ?_
  rintro e' w' ⟨rfl, rfl⟩
  go_upto_region 8 with (fail)
  rw [← HW1.out]
  clear c1 f1 HW1 ht HPA
  have c2 := T1.out.c4
  have f2 := T1.out.fz
  by_cases hjs : j = s.size
  · subst hjs
    have hl : lexB s.data.toList 0 = .ok (ts ++ [⟨7, (s.size : Int), 0, ⟨#[]⟩⟩]) := by
      rw [HB1.out.2.2.2.2.2, List.drop_of_length_le (by rw [data_len]; exact Nat.le_refl _), lexB_nil]
      rfl
    have HV := Lib.hid hl
    have T3 := Lib.hid (T1.out.setK 7)
    have HB3 := Lib.hid (HB1.out.set 0 (.int .i64 7))
    have hm : ts.length = m := by have := HB1.out.1.1; rw [cells4_len] at this; omega
    have htl := HB1.out.2.2.2.1
    obtain ⟨A2, c2', w2, hap, hown2, hbel2⟩ := append_tok (ty := 22) HB3.out.1 ⟨7, (s.size : Int), 0, ⟨#[]⟩⟩ (by omega) HB3.out.2.2.1
    rw [size_set] at hap
    have HAP := Lib.hid hap
    have HO := Lib.hid hown2
    have HBE := Lib.hid (HB3.out.2.1.trans (hbel2.mono (by omega)))
    have c3 := T3.out.c4
    clear hl hap hown2 hbel2 hle hge hm
    go_wp2_with (at_builtin; refine wpList_append_run rfl _ _ _ _ rfl rfl rfl HAP.out ?_)
    rw [exitsTo_ret]
    unfold allQ
    go_ret3
    rw [HV.out]
    exact ⟨A2, m + 1, c2', rfl, HO.out, HBE.out⟩
  · have hlt : j < s.size := by omega
    have hjb : ((j : Int) == (s.size : Int)) = false := by rw [beq_eq_false_iff_ne]; omega
    have hji : 0 ≤ (j : Int) ∧ (j : Int) < s.size := by omega
    have hd := data_at hlt
    generalize hbb : s[j] = b at *
    have HD := Lib.hid hd
    have HBL := Lib.hid (HSK.out b hd)
    have HLT := letter_any b
    have HDG := digit_any b
    have HLT2 := Lib.hid HLT
    have HDG2 := Lib.hid HDG
    clear hd hjs HLT HDG
    rcases six_ways b with ⟨e1, hg⟩ | ⟨e1, e2, hg⟩ | ⟨e1, e2, e3, hg⟩ | ⟨e1, e2, e3, e4, hg⟩ | ⟨e1, e2, e3, e4, e5, hg⟩ | ⟨e1, e2, e3, e4, e5, e6, hg⟩ | ⟨e1, e2, e3, e4, e5, e6, hg⟩
    all_goals
      rw [e1] at HLT2
      try rw [e2] at HDG2
      have HG := Lib.hid hg
      clear hg e1
      try clear e2
      go_wp2_with (first | (go_at_call 13; refine (HLT2.out _).mono ?_; rintro e'' w'' ⟨rfl, rfl⟩) | (go_at_call 14; refine (HDG2.out _).mono ?_; rintro e'' w'' ⟨rfl, rfl⟩))
      go_step3
      refine ⟨JAllT (by omega) (by omega) ⟨ts, A, m, c, j, b, _, _, Fr_mk, (HB1.out : ABase s W ts A m c j _), hlt, HD.out, HBL.out, HG.out, T1.out⟩, ?_⟩
      rw [mu_eq Fr_mk]
      simp
      omega
end Go.Proofs.YtpedfkigneahgaaDoor
