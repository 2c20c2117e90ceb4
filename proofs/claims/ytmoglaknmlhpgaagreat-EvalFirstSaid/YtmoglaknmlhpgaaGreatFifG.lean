/- Several texts in one: LexAll2, LexAll5, LexAll6, LexAll, Parse11, ParIn, Put7, KeepSame, AskFew, AskAsks, AskApart, AskPut, AskWithA, AskShort, EvalRead, ParEval, EvalRunsM, EvalRuns, EvalLaws, KeepTgt. -/
import Derived.Test.YtmoglaknmlhpgaaGreatFifF
import Derived.Test.YtmoglaknmlhpgaaGreatFifB
import Derived.Test.YtmoglaknmlhpgaaGreatFifA
import Derived.Laws.StructEq
import Derived.Laws.Tables
import Derived.Laws.Cover2
import Derived.Lib.QuietBelow
import Derived.Deep.CutRange
import Derived.Test.YtmoglaknmlhpgaaGreatFifC
import Derived.Test.YtmoglaknmlhpgaaGreatFifD
/- lex.All: from label to label. -/
namespace Go.Proofs.YtmoglaknmlhpgaaGreat
set_option linter.unusedVariables false
open Go.RowKit

set_option maxRecDepth 100000 in
set_option maxHeartbeats 1600000 in
theorem pass2 (s : ByteArray) (W : World) (hs : s.size ≤ 4096) (a : Act) (wr : World) (hJ : JTok s W 2 a wr) : ∃ R, findLabel allCode 2 = some R ∧ R.wp Tryz.prog (exitsTo (fun l' a' w' => JAll s W l' a' w' ∧ muAll s l' a' w' < muAll s 2 a wr) (allQ s W)) a wr := by
  refine ⟨_, rfl, ?_⟩
  obtain ⟨ts, A, m, c, k, b, ve, vo, hf, hb, hk, hkb, hbl, hg, ht⟩ := hJ
  rw [mu_eq hf]
  obtain ⟨u, rfl⟩ := hf
  have HB := Lib.hid hb
  have HKB := Lib.hid hkb
  have HBL := Lib.hid hbl
  have HD := Lib.hid (drop_at' hkb)
  have T1 := Lib.hid (ht.setK 2)
  have c1 := ht.c4
  have f1 := ht.fz
  have c2 := T1.out.c4
  have f2 := T1.out.fz
  have hpa := past_digit s (by unfold maxLen; omega) (k + 1) (by omega) wr
  have hle := tw_le s dgt (k + 1) (by omega)
  have hex := ext_tw1 s dgt k hkb
  have hl1 := goes2 hg
  have HV : Hid (tokB (s.data.toList.drop k) = (numbA (b :: (s.data.toList.drop (k + 1)).takeWhile dgt)).map fun n => (2, n, [], ((s.data.toList.drop (k + 1)).takeWhile dgt).length + 1)) := by
    show _ = _
    rw [HD.out, tokB, if_neg (by rw [hl1.1]; simp), numbA]
    by_cases hd : dgt b = true
    · have h45 : b ≠ 45 := by rintro rfl; revert hd; decide
      rw [if_pos hd, if_neg h45, List.takeWhile_cons, if_pos hd, Option.map_map]
      rfl
    · obtain rfl : b = 45 := hl1.2.resolve_left hd
      rw [if_neg hd, if_pos rfl, if_pos rfl]
      cases decD 9223372036854775808 ((s.data.toList.drop (k + 1)).takeWhile dgt) with
      | none => rfl
      | some n =>
        simp only [Option.bind_some]
        by_cases hz : n = 0
        · rw [if_pos hz, if_pos hz]; rfl
        · rw [if_neg hz, if_neg hz]; rfl
  have hal := tw_all dgt (s.data.toList.drop (k + 1))
  generalize hnm : (s.data.toList.drop (k + 1)).takeWhile dgt = ds at *
  generalize he : k + 1 + ds.length = e at *
  have hnv := number_any (s.extract k e) (by rw [ext_size _ hle]; omega) hex hal (by rcases hl1.2 with h | h; exact .inr h; exact .inl h) (wr.setCell ⟨W.heap.size, 0, none⟩ (.int .i64 2))
  rw [hex] at hnv
  generalize numbA (b :: ds) = o at *
  have HX : Hid (nmV o = .tuple #[.int .i64 (o.getD 0), .bool o.isSome]) := rfl
  rw [HX.out] at hnv
  have HBK : Hid (BackT (o.map fun n => (2, n, [], ds.length + 1)) k o.isSome 2 (o.getD 0) ⟨#[]⟩ (e : Int)) := by
    show BackT _ _ _ _ _ _ _
    cases o with
    | none => exact back_none
    | some n => exact back_some rfl (by omega)
  generalize o.getD 0 = x at *
  generalize o.isSome = ok at *
  have HPA := Lib.hid hpa
  have HNV := Lib.hid hnv
  have HB1 := Lib.hid (HB.out.set 0 (.int .i64 2))
  have T3 := Lib.hid (T1.out.setN x)
  have HB3 := Lib.hid (HB1.out.set 2 (.int .i64 x))
  have hki : k ≤ e := by omega
  have hki2 : ((k : Nat) : Int) ≤ (e : Int) := by omega
  have hki3 : (k : Int) + 1 ≤ (e : Int) + 1 := by omega
  have hki4 : ((k : Int) + 1).toNat = k + 1 := by omega
  have hki5 : (0 : Int) ≤ (k : Int) + 1 := by omega
  have hki6 : (k : Int) + 1 ≤ (e : Int) := by omega
  clear hpa hnv hb hkb hbl hg ht hex hnm he hl1 hal
  go_wp2_with fail
  refine HPA.out.mono ?_
  rintro e' w' ⟨rfl, rfl⟩
  go_wp2_with fail
  refine HNV.out.mono ?_
  rintro e' w2 ⟨rfl, rfl⟩
  go_wp2_with fail
  go_step3
  refine ⟨JAll7 ⟨ts, A, m, c, k, b, _, _, _, _, _, _, Fr_mk, (HB3.out : ABase s W ts A m c k _), hk, HKB.out, HBL.out, T3.out, ?_⟩, ?_⟩
  · rw [HV.out]
    exact HBK.out
  · rw [mu_eq Fr_mk]
    simp

set_option maxRecDepth 100000 in
set_option maxHeartbeats 1600000 in
theorem pass3 (s : ByteArray) (W : World) (hs : s.size ≤ 4096) (a : Act) (wr : World) (hJ : JTok s W 3 a wr) : ∃ R, findLabel allCode 3 = some R ∧ R.wp Tryz.prog (exitsTo (fun l' a' w' => JAll s W l' a' w' ∧ muAll s l' a' w' < muAll s 3 a wr) (allQ s W)) a wr := by
  refine ⟨_, rfl, ?_⟩
  obtain ⟨ts, A, m, c, k, b, ve, vo, hf, hb, hk, hkb, hbl, hg, ht⟩ := hJ
  rw [mu_eq hf]
  obtain ⟨u, rfl⟩ := hf
  have HB := Lib.hid hb
  have HKB := Lib.hid hkb
  have HBL := Lib.hid hbl
  have HD := Lib.hid (drop_at' hkb)
  have T1 := Lib.hid (ht.setK 3)
  have c1 := ht.c4
  have f1 := ht.fz
  have c2 := T1.out.c4
  have f2 := T1.out.fz
  have hpa := past_digit s (by unfold maxLen; omega) (k + 1) (by omega) wr
  have hle := tw_le s dgt (k + 1) (by omega)
  have hex := ext_tw s dgt (k + 1)
  have hl1 := goes3 hg
  have HV : Hid (tokB (s.data.toList.drop k) = ((decD 1099511627776 ((s.data.toList.drop (k + 1)).takeWhile dgt)).map fun (n : Nat) => (n : Int)).map fun n => (3, n, [], ((s.data.toList.drop (k + 1)).takeWhile dgt).length + 1)) := by
    show _ = _
    rw [HD.out, hl1, tokB, if_neg (by decide), if_neg (by decide), if_neg (by decide), if_pos rfl, Option.map_map]
    rfl
  have hal := tw_all dgt (s.data.toList.drop (k + 1))
  generalize hnm : (s.data.toList.drop (k + 1)).takeWhile dgt = ds at *
  generalize he : k + 1 + ds.length = e at *
  have hnv := above_any (s.extract (k + 1) e) (by rw [ext_size _ hle]; omega) (by rw [hex]; exact hal) 1099511627776 (by omega) (by omega) (wr.setCell ⟨W.heap.size, 0, none⟩ (.int .i64 3))
  rw [hex] at hnv
  generalize (decD 1099511627776 ds).map (fun (n : Nat) => (n : Int)) = o at *
  have HX : Hid (nmV o = .tuple #[.int .i64 (o.getD 0), .bool o.isSome]) := rfl
  rw [HX.out] at hnv
  have HBK : Hid (BackT (o.map fun n => (3, n, [], ds.length + 1)) k o.isSome 3 (o.getD 0) ⟨#[]⟩ (e : Int)) := by
    show BackT _ _ _ _ _ _ _
    cases o with
    | none => exact back_none
    | some n => exact back_some rfl (by omega)
  generalize o.getD 0 = x at *
  generalize o.isSome = ok at *
  have HPA := Lib.hid hpa
  have HNV := Lib.hid hnv
  have HB1 := Lib.hid (HB.out.set 0 (.int .i64 3))
  have T3 := Lib.hid (T1.out.setN x)
  have HB3 := Lib.hid (HB1.out.set 2 (.int .i64 x))
  have hki : k ≤ e := by omega
  have hki2 : ((k : Nat) : Int) ≤ (e : Int) := by omega
  have hki3 : (k : Int) + 1 ≤ (e : Int) + 1 := by omega
  have hki4 : ((k : Int) + 1).toNat = k + 1 := by omega
  have hki5 : (0 : Int) ≤ (k : Int) + 1 := by omega
  have hki6 : (k : Int) + 1 ≤ (e : Int) := by omega
  clear hpa hnv hb hkb hbl hg ht hex hnm he hl1 hal
  go_wp2_with fail
  refine HPA.out.mono ?_
  rintro e' w' ⟨rfl, rfl⟩
  go_wp2_with fail
  refine HNV.out.mono ?_
  rintro e' w2 ⟨rfl, rfl⟩
  go_wp2_with fail
  go_step3
  refine ⟨JAll7 ⟨ts, A, m, c, k, b, _, _, _, _, _, _, Fr_mk, (HB3.out : ABase s W ts A m c k _), hk, HKB.out, HBL.out, T3.out, ?_⟩, ?_⟩
  · rw [HV.out]
    exact HBK.out
  · rw [mu_eq Fr_mk]
    simp
end Go.Proofs.YtmoglaknmlhpgaaGreat
/- lex.All: from label to label. -/
namespace Go.Proofs.YtmoglaknmlhpgaaGreat
set_option linter.unusedVariables false
open Go.RowKit

set_option maxRecDepth 100000 in
set_option maxHeartbeats 1600000 in
theorem pass5 (s : ByteArray) (W : World) (hs : s.size ≤ 4096) (a : Act) (wr : World) (hJ : JTok s W 5 a wr) : ∃ R, findLabel allCode 5 = some R ∧ R.wp Tryz.prog (exitsTo (fun l' a' w' => JAll s W l' a' w' ∧ muAll s l' a' w' < muAll s 5 a wr) (allQ s W)) a wr := by
  refine ⟨_, rfl, ?_⟩
  obtain ⟨ts, A, m, c, k, b, ve, vo, hf, hb, hk, hkb, hbl, hg, ht⟩ := hJ
  rw [mu_eq hf]
  obtain ⟨u, rfl⟩ := hf
  have HB := Lib.hid hb
  have HKB := Lib.hid hkb
  have HBL := Lib.hid hbl
  have HD := Lib.hid (drop_at' hkb)
  have T1 := Lib.hid (ht.setK 5)
  have c1 := ht.c4
  have f1 := ht.fz
  have c2 := T1.out.c4
  have f2 := T1.out.fz
  have hnv := ltext_any s (by omega) (k + 1) (by omega) (wr.setCell ⟨W.heap.size, 0, none⟩ (.int .i64 5))
  have hl1 := goes5 hg
  have HV : Hid (tokB (s.data.toList.drop k) = (txtR (s.data.toList.drop (k + 1))).map fun p => (5, 0, p.1, p.2 + 1)) := by
    show _ = _
    rw [HD.out, hl1, tokB, if_neg (by decide), if_neg (by decide), if_neg (by decide), if_neg (by decide), if_neg (by decide), if_pos rfl]
    unfold txtR
    cases qtB (s.data.toList.drop (k + 1)) with
    | none => rfl
    | some p =>
      simp only [Option.bind_some]
      by_cases hz : p.1.length ≤ 64
      · rw [if_pos hz, if_pos hz]; rfl
      · rw [if_neg hz, if_neg hz]; rfl
  obtain ⟨x, e, ok, HX, HBK⟩ : ∃ (x : ByteArray) (e : Int) (ok : Bool), Hid (textV s.data.toList (k + 1) = .tuple #[.string x, .int .i64 e, .bool ok]) ∧ Hid (BackT ((txtR (s.data.toList.drop (k + 1))).map fun p => (5, 0, p.1, p.2 + 1)) k ok 5 0 x e) := by
    cases ho : txtR (s.data.toList.drop (k + 1)) with
    | none => exact ⟨_, _, _, textV_none ho, back_none⟩
    | some p => exact ⟨_, _, _, textV_some ho, back_some rfl (by omega)⟩
  rw [HX.out] at hnv
  have HNV := Lib.hid hnv
  have HB1 := Lib.hid (HB.out.set 0 (.int .i64 5))
  have hki4 : ((k : Int) + 1).toNat = k + 1 := by omega
  have hki5 : (0 : Int) ≤ (k : Int) + 1 := by omega
  clear hnv hb hkb hbl hg ht hl1
  go_wp2_with fail
  refine HNV.out.mono ?_
  rintro e' w2 ⟨rfl, hb2⟩
  have T2 := Lib.hid (T1.out.then_ hb2)
  have T3 := Lib.hid (T2.out.setS x)
  have HB3 := Lib.hid ((HB1.out.then_ hb2).set 3 (.string x))
  have c3 := T2.out.c4
  have f3 := T2.out.fz
  clear hb2
  go_wp2_with fail
  go_step3
  refine ⟨JAll7 ⟨ts, A, m, c, k, b, _, _, _, _, _, _, Fr_mk, (HB3.out : ABase s W ts A m c k _), hk, HKB.out, HBL.out, T3.out, ?_⟩, ?_⟩
  · rw [HV.out]
    exact HBK.out
  · rw [mu_eq Fr_mk]
    simp
end Go.Proofs.YtmoglaknmlhpgaaGreat
/- lex.All: from label to label. -/
namespace Go.Proofs.YtmoglaknmlhpgaaGreat
set_option linter.unusedVariables false
open Go.RowKit

set_option maxRecDepth 100000 in
set_option maxHeartbeats 1600000 in
theorem pass6 (s : ByteArray) (W : World) (hs : s.size ≤ 4096) (a : Act) (wr : World) (hJ : JTok s W 6 a wr) : ∃ R, findLabel allCode 6 = some R ∧ R.wp Tryz.prog (exitsTo (fun l' a' w' => JAll s W l' a' w' ∧ muAll s l' a' w' < muAll s 6 a wr) (allQ s W)) a wr := by
  refine ⟨_, rfl, ?_⟩
  obtain ⟨ts, A, m, c, k, b, ve, vo, hf, hb, hk, hkb, hbl, hg, ht⟩ := hJ
  rw [mu_eq hf]
  obtain ⟨u, rfl⟩ := hf
  have HB := Lib.hid hb
  have HKB := Lib.hid hkb
  have HBL := Lib.hid hbl
  have HD := Lib.hid (drop_at' hkb)
  have T1 := Lib.hid (ht.setK 6)
  have c1 := ht.c4
  have f1 := ht.fz
  have c2 := T1.out.c4
  have f2 := T1.out.fz
  have hl1 := goes6 hg
  have hnv := mark_any b (wr.setCell ⟨W.heap.size, 0, none⟩ (.int .i64 6))
  have HV : Hid (tokB (s.data.toList.drop k) = if mrk b = true then some (6, 0, [b], 1) else none) := by
    show _ = _
    rw [HD.out, tokB, if_neg (by rw [hl1.1]; simp), if_neg (by rw [hl1.2.1]; simp), if_neg hl1.2.2.1, if_neg hl1.2.2.2.1, if_neg hl1.2.2.2.2.1, if_neg hl1.2.2.2.2.2]
  have HX : Hid (markV b = .tuple #[.string (if mrk b = true then ⟨#[b]⟩ else ⟨#[]⟩), .bool (mrk b)]) := rfl
  rw [HX.out] at hnv
  have HBK : Hid (BackT (if mrk b = true then some (6, 0, [b], 1) else none) k (mrk b) 6 0 (if mrk b = true then ⟨#[b]⟩ else ⟨#[]⟩) ((k : Int) + 1)) := by
    show BackT _ _ _ _ _ _ _
    cases h : mrk b with
    | true => rw [if_pos rfl, if_pos rfl]; exact back_some rfl (by omega)
    | false => rw [if_neg (by simp), if_neg (by simp)]; exact back_none
  have hbyte : s[k] = b := by
    have := data_at hk
    rw [hkb] at this
    exact (Option.some.inj this).symm
  generalize (if mrk b = true then (⟨#[b]⟩ : ByteArray) else ⟨#[]⟩) = x at *
  generalize mrk b = ok at *
  have HNV := Lib.hid hnv
  have HB1 := Lib.hid (HB.out.set 0 (.int .i64 6))
  have hki : 0 ≤ (k : Int) ∧ (k : Int) < s.size := by omega
  clear hnv hb hkb hbl hg ht hl1
  go_wp2_with fail
  refine HNV.out.mono ?_
  rintro e' w2 ⟨rfl, hb2⟩
  have T2 := Lib.hid (T1.out.then_ hb2)
  have T3 := Lib.hid (T2.out.setS x)
  have HB3 := Lib.hid ((HB1.out.then_ hb2).set 3 (.string x))
  have c3 := T2.out.c4
  have f3 := T2.out.fz
  clear hb2
  go_wp2_with fail
  go_step3
  go_step
  go_step
  refine wp_mono (backPass s W hs _ _ ⟨ts, A, m, c, k, b, (k : Int) + 1, ok, _, 6, 0, x, Fr_mk, (HB3.out : ABase s W ts A m c k _), hk, HKB.out, HBL.out, T3.out, by rw [HV.out]; exact HBK.out⟩) ?_
  intro e2 a2 w3 hq
  cases e2 with
  | goto l =>
    refine ⟨hq.1, Nat.lt_trans hq.2 ?_⟩
    rw [mu_eq Fr_mk]
    simp
  | _ => exact hq
end Go.Proofs.YtmoglaknmlhpgaaGreat
/- lex.All: what it answers. -/
namespace Go.Proofs.YtmoglaknmlhpgaaGreat
set_option linter.unusedVariables false
open Go.RowKit

theorem blankPass (s : ByteArray) (W : World) (hs : s.size ≤ 4096) (a : Act) (wr : World) (hJ : JBlank s W a wr) : blankCode.wp Tryz.prog (exitsTo (fun l' a' w' => JAll s W l' a' w' ∧ muAll s l' a' w' < muAll s 0 a wr) (allQ s W)) a wr := by
  obtain ⟨R, h, hw⟩ := blankPass' s W hs a wr hJ
  unfold blankCode
  rw [h]
  exact hw
theorem pass0 (s : ByteArray) (W : World) (hs : s.size ≤ 4096) (a : Act) (wr : World) (hJ : JBlank s W a wr) : ∃ R, findLabel allCode 0 = some R ∧ R.wp Tryz.prog (exitsTo (fun l' a' w' => JAll s W l' a' w' ∧ muAll s l' a' w' < muAll s 0 a wr) (allQ s W)) a wr := by
  refine ⟨.seq .skip blankCode, rfl, ?_⟩
  have h := Lib.hid (blankPass s W hs a wr hJ)
  clear hJ
  go_wp2_with fail
  exact h.out
theorem goes_le (b : UInt8) : 1 ≤ goesTo b ∧ goesTo b ≤ 6 := by
  unfold goesTo
  split
  · omega
  · split
    · omega
    · split
      · omega
      · split
        · omega
        · split <;> omega
theorem passes (s : ByteArray) (W : World) (hs : s.size ≤ 4096) (l : Nat) (a : Act) (wr : World) (hJ : JAll s W l a wr) : ∃ R, findLabel allCode l = some R ∧ R.wp Tryz.prog (exitsTo (fun l' a' w' => JAll s W l' a' w' ∧ muAll s l' a' w' < muAll s l a wr) (allQ s W)) a wr := by
  unfold JAll at hJ
  split at hJ
  · rename_i h; subst h; exact pass0 s W hs a wr hJ
  · split at hJ
    · rename_i h; subst h; exact pass7 s W hs a wr hJ
    · have hl : l = 1 ∨ l = 2 ∨ l = 3 ∨ l = 4 ∨ l = 5 ∨ l = 6 := by
        obtain ⟨_, _, _, _, _, b, _, _, _, _, _, _, _, hg, _⟩ := hJ
        have := goes_le b
        omega
      rcases hl with rfl | rfl | rfl | rfl | rfl | rfl
      · exact pass1 s W hs a wr hJ
      · exact pass2 s W hs a wr hJ
      · exact pass3 s W hs a wr hJ
      · exact pass4 s W hs a wr hJ
      · exact pass5 s W hs a wr hJ
      · exact pass6 s W hs a wr hJ

set_option maxRecDepth 100000 in
set_option maxHeartbeats 800000 in
theorem all_any (s : ByteArray) (hs : s.size ≤ 4096) (W : World) : Calls Tryz.prog 38 #[.string s] W fun e w' => AllP W (lexB s.data.toList 0) e w' := by
  have ht := Tb.made W 0 0 0 ⟨#[]⟩
  have HT := Lib.hid ht
  have HB : Hid (ABase s W [] none 0 0 0 (W.alloc (.cells #[.int .i64 0, .int .i64 0, .int .i64 0, .string ⟨#[]⟩] 115))) :=
    Lib.hid ⟨⟨rfl, .inl ⟨rfl, rfl⟩⟩, (Below.refl _ _).alloc (Nat.le_refl _) _, by rw [size_al]; exact Nat.le_refl _, Nat.le_refl _, Nat.zero_le _, by rw [List.drop_zero, cat_nil]⟩
  clear ht
  go_enter Tryz.func38, Tryz.ntmps38
  go_wp2_with fail
  refine wp_scope_labels (JAll s W) (muAll s) (fun l a wr hJ => passes s W hs l a wr hJ) ?_
  go_wp2_with fail
  go_step3
  go_step
  go_step
  refine wp_mono (blankPass s W hs _ _ ⟨[], none, 0, 0, 0, _, _, _, 0, 0, 0, ⟨#[]⟩, Fr_mk, HB.out, HT.out⟩) ?_
  intro e2 a2 w3 hq
  cases e2 with
  | goto l => exact hq.1
  | _ => exact hq
set_option maxRecDepth 100000 in
set_option maxHeartbeats 800000 in
theorem all_big (s : ByteArray) (hs : 4096 < s.size) (hm : s.size ≤ maxLen) (w : World) : Calls Tryz.prog 38 #[.string s] w fun e w' => e = .returned (.tuple #[.slice none 0 0, .int .i64 6, .int .i64 4096]) ∧ w' = w := by
  unfold maxLen at hm
  go_enter Tryz.func38, Tryz.ntmps38
  go_wp2_with fail
  go_step3
  go_wp2_with fail
  try rw [Exit.noGoto_ret]
  go_ret3
  exact ⟨rfl, rfl⟩
end Go.Proofs.YtmoglaknmlhpgaaGreat
/- The parser: a policy from a text. -/
namespace Go.Proofs.YtmoglaknmlhpgaaGreat
set_option linter.unusedVariables false
open Go.RowKit

theorem results_cell_tmp2 {fn : Func} {p u v : Tmp} {ty : TypeId} (h : fn.results = #[.cell p ty, .tmp u, .tmp v]) (tmps : Array Value) (P : Program) (w : World) :
    (results fn tmps).run P w =
      ((asAddr (tmps.getD p undef)).run P w).andThen fun a w₁ => ((loadVar ty a).run P w₁).andThen fun x w₂ => .ok (.tuple #[x, tmps.getD u undef, tmps.getD v undef]) w₂ := by
  simp only [results, h]
  simp [Sem.run_bind, Result.andThen]
theorem policy_ret3 {fn : Func} {t u1 u2 : Tmp} {tmps : Array Value} {w : World} {g : Nat} {cs : Array Value} {a b : Value} (h : fn.results = #[.cell t 28, .tmp u1, .tmp u2]) (hp : tmps.getD t undef = .pointer (some ⟨g, 0, none⟩)) (h1 : tmps.getD u1 undef = a) (h2 : tmps.getD u2 undef = b) (hg : Ob w g 28 cs) (h3 : cs.size = 7) :
    (results fn tmps).run Tryz.prog w = .ok (.tuple #[.agg cs, a, b]) w := by
  rw [results_cell_tmp2 h, hp, h1, h2]
  have hl := run_loadVar_row (P := Tryz.prog) w g 28 _ _ (0, 0) _ hg Tryz.underlying28 rfl (by rw [h3]; kernel_rfl)
  simp [asAddr, hl, Result.andThen]
theorem noPol_of (w w' : World) : PolOf w w' 5 noPol (.agg #[.string ⟨#[]⟩, .bool false, .int .i64 0, .slice none 0 0, .slice none 0 0, .slice none 0 0, .slice none 0 0]) :=
  ⟨none, 0, 0, none, 0, 0, none, 0, 0, none, 0, 0, rfl, none, 0, 0, none, 0, 0, none, 0, 0, none, 0, 0, rfl, Nat.zero_le _, by unfold InI; exact ⟨by show (-9223372036854775808 : Int) ≤ 0; omega, by show (0 : Int) ≤ 9223372036854775807; omega⟩, Rw.nil_ _ _ _ _, Rw.nil_ _ _ _ _, Rw.nil_ _ _ _ _, Rw.nil_ _ _ _ _⟩
theorem Rd.start {L : Nat} {w : World} {A : Option Addr} {n c : Nat} {ts : List Tk} (h : Ts w w.heap.size A n c ts) (hok : (⟨ts, 0, 0, 0⟩ : Pz).ok L) : Rd L (w.alloc (.cells #[.slice A n c, .int .i64 0, .int .i64 0, .int .i64 0] 100)) w.heap.size ⟨ts, 0, 0, 0⟩ := by
  have h' := h.below ((Below.refl _ w).alloc (Nat.le_refl _) (.cells #[.slice A n c, .int .i64 0, .int .i64 0, .int .i64 0] 100))
  have hp : 1 ≤ ts.length := hok.pos
  obtain ⟨h1, h2, h3, h4⟩ := h'
  rcases h4 with h4 | ⟨b, o, e, hb, hc⟩
  · omega
  · subst e
    exact ⟨b, o, n, c, Ob.made _ _ _, hok, ⟨h1, h2, h3⟩, hb, hc⟩
theorem Ob.drew9 {w : World} {g : Nat} {t : TypeId} {cs : Array Value} (h : Ob w g t cs) : Ob w.drew g t cs := h
section
variable {w : World}
def ParseP (s : ByteArray) (w : World) (x : Ending) (w' : World) : Prop := ∃ y, x = .returned (.tuple #[y, .int .i64 (parseR s).2.1, .int .i64 (parseR s).2.2]) ∧ Below w.heap.size w w' ∧ PolOf w w' 5 (parseR s).1 y

set_option maxHeartbeats 1600000 in
theorem parse_big (s : ByteArray) (hs : 4096 < s.size) (hm : s.size ≤ maxLen) : Calls Tryz.prog 25 #[.string s] w (ParseP s w) := by
  have HC := Lib.hid (all_big s hs hm (w.alloc (.cells #[.string ⟨#[]⟩, .bool false, .int .i64 0, .slice none 0 0, .slice none 0 0, .slice none 0 0, .slice none 0 0] 28)))
  have OB := Lib.hid (Ob.made w 28 #[.string ⟨#[]⟩, .bool false, .int .i64 0, .slice none 0 0, .slice none 0 0, .slice none 0 0, .slice none 0 0])
  unfold ParseP
  rw [parseR_big hs]
  simp only
  go_enter Tryz.func25, Tryz.ntmps25
  go_wp2_with fail
  go_at_call 38
  refine HC.out.mono ?_
  rintro x w1 ⟨rfl, hw⟩
  have HB : Hid (Below w.heap.size w w1) := Lib.hid (by rw [hw]; exact (Below.refl _ w).alloc (Nat.le_refl _) _)
  have O1 : Hid (Ob w1 w.heap.size 28 #[.string ⟨#[]⟩, .bool false, .int .i64 0, .slice none 0 0, .slice none 0 0, .slice none 0 0, .slice none 0 0]) := Lib.hid (by rw [hw]; exact OB.out)
  clear hw
  have zc0 := O1.out.cell 0
  have zf0 := O1.out.frozen 0
  have OZ1 : Hid (Ob (w1.setCell ⟨w.heap.size, 0, none⟩ (.string ⟨#[]⟩)) (w.heap.size) 28 #[.string ⟨#[]⟩, .bool false, .int .i64 0, .slice none 0 0, .slice none 0 0, .slice none 0 0, .slice none 0 0]) := Lib.hid (by have := O1.out.put 0 (.string ⟨#[]⟩); simpa using this)
  have BZ1 := Lib.hid (HB.out.setCell (p := ⟨w.heap.size, 0, none⟩) (Nat.le_refl _) (.string ⟨#[]⟩))
  have zc1 := OZ1.out.cell 1
  have zf1 := OZ1.out.frozen 1
  have OZ2 : Hid (Ob ((w1.setCell ⟨w.heap.size, 0, none⟩ (.string ⟨#[]⟩)).setCell ⟨w.heap.size, 1, none⟩ (.bool false)) (w.heap.size) 28 #[.string ⟨#[]⟩, .bool false, .int .i64 0, .slice none 0 0, .slice none 0 0, .slice none 0 0, .slice none 0 0]) := Lib.hid (by have := OZ1.out.put 1 (.bool false); simpa using this)
  have BZ2 := Lib.hid (BZ1.out.setCell (p := ⟨w.heap.size, 1, none⟩) (Nat.le_refl _) (.bool false))
  have zc2 := OZ2.out.cell 2
  have zf2 := OZ2.out.frozen 2
  have OZ3 : Hid (Ob (((w1.setCell ⟨w.heap.size, 0, none⟩ (.string ⟨#[]⟩)).setCell ⟨w.heap.size, 1, none⟩ (.bool false)).setCell ⟨w.heap.size, 2, none⟩ (.int .i64 0)) (w.heap.size) 28 #[.string ⟨#[]⟩, .bool false, .int .i64 0, .slice none 0 0, .slice none 0 0, .slice none 0 0, .slice none 0 0]) := Lib.hid (by have := OZ2.out.put 2 (.int .i64 0); simpa using this)
  have BZ3 := Lib.hid (BZ2.out.setCell (p := ⟨w.heap.size, 2, none⟩) (Nat.le_refl _) (.int .i64 0))
  have zc3 := OZ3.out.cell 3
  have zf3 := OZ3.out.frozen 3
  have OZ4 : Hid (Ob ((((w1.setCell ⟨w.heap.size, 0, none⟩ (.string ⟨#[]⟩)).setCell ⟨w.heap.size, 1, none⟩ (.bool false)).setCell ⟨w.heap.size, 2, none⟩ (.int .i64 0)).setCell ⟨w.heap.size, 3, none⟩ (.slice none 0 0)) (w.heap.size) 28 #[.string ⟨#[]⟩, .bool false, .int .i64 0, .slice none 0 0, .slice none 0 0, .slice none 0 0, .slice none 0 0]) := Lib.hid (by have := OZ3.out.put 3 (.slice none 0 0); simpa using this)
  have BZ4 := Lib.hid (BZ3.out.setCell (p := ⟨w.heap.size, 3, none⟩) (Nat.le_refl _) (.slice none 0 0))
  have zc4 := OZ4.out.cell 4
  have zf4 := OZ4.out.frozen 4
  have OZ5 : Hid (Ob (((((w1.setCell ⟨w.heap.size, 0, none⟩ (.string ⟨#[]⟩)).setCell ⟨w.heap.size, 1, none⟩ (.bool false)).setCell ⟨w.heap.size, 2, none⟩ (.int .i64 0)).setCell ⟨w.heap.size, 3, none⟩ (.slice none 0 0)).setCell ⟨w.heap.size, 4, none⟩ (.slice none 0 0)) (w.heap.size) 28 #[.string ⟨#[]⟩, .bool false, .int .i64 0, .slice none 0 0, .slice none 0 0, .slice none 0 0, .slice none 0 0]) := Lib.hid (by have := OZ4.out.put 4 (.slice none 0 0); simpa using this)
  have BZ5 := Lib.hid (BZ4.out.setCell (p := ⟨w.heap.size, 4, none⟩) (Nat.le_refl _) (.slice none 0 0))
  have zc5 := OZ5.out.cell 5
  have zf5 := OZ5.out.frozen 5
  have OZ6 : Hid (Ob ((((((w1.setCell ⟨w.heap.size, 0, none⟩ (.string ⟨#[]⟩)).setCell ⟨w.heap.size, 1, none⟩ (.bool false)).setCell ⟨w.heap.size, 2, none⟩ (.int .i64 0)).setCell ⟨w.heap.size, 3, none⟩ (.slice none 0 0)).setCell ⟨w.heap.size, 4, none⟩ (.slice none 0 0)).setCell ⟨w.heap.size, 5, none⟩ (.slice none 0 0)) (w.heap.size) 28 #[.string ⟨#[]⟩, .bool false, .int .i64 0, .slice none 0 0, .slice none 0 0, .slice none 0 0, .slice none 0 0]) := Lib.hid (by have := OZ5.out.put 5 (.slice none 0 0); simpa using this)
  have BZ6 := Lib.hid (BZ5.out.setCell (p := ⟨w.heap.size, 5, none⟩) (Nat.le_refl _) (.slice none 0 0))
  have zc6 := OZ6.out.cell 6
  have zf6 := OZ6.out.frozen 6
  have OZ7 : Hid (Ob (((((((w1.setCell ⟨w.heap.size, 0, none⟩ (.string ⟨#[]⟩)).setCell ⟨w.heap.size, 1, none⟩ (.bool false)).setCell ⟨w.heap.size, 2, none⟩ (.int .i64 0)).setCell ⟨w.heap.size, 3, none⟩ (.slice none 0 0)).setCell ⟨w.heap.size, 4, none⟩ (.slice none 0 0)).setCell ⟨w.heap.size, 5, none⟩ (.slice none 0 0)).setCell ⟨w.heap.size, 6, none⟩ (.slice none 0 0)) (w.heap.size) 28 #[.string ⟨#[]⟩, .bool false, .int .i64 0, .slice none 0 0, .slice none 0 0, .slice none 0 0, .slice none 0 0]) := Lib.hid (by have := OZ6.out.put 6 (.slice none 0 0); simpa using this)
  have BZ7 := Lib.hid (BZ6.out.setCell (p := ⟨w.heap.size, 6, none⟩) (Nat.le_refl _) (.slice none 0 0))
  go_wp2_with fail
  try simp only [Exit.inBlock, Exit.then]
  refine bodyPost_ret (policy_ret3 rfl rfl rfl rfl OZ7.out rfl) rfl ?_
  exact ⟨_, rfl, BZ7.out, noPol_of _ _⟩
set_option maxHeartbeats 1600000 in
theorem parse_bad (s : ByteArray) {p : Nat} (hs : s.size ≤ 4096) (hl : lexB s.data.toList 0 = .error p) : Calls Tryz.prog 25 #[.string s] w (ParseP s w) := by
  have HC := Lib.hid (all_any s hs (w.alloc (.cells #[.string ⟨#[]⟩, .bool false, .int .i64 0, .slice none 0 0, .slice none 0 0, .slice none 0 0, .slice none 0 0] 28)))
  have OB := Lib.hid (Ob.made w 28 #[.string ⟨#[]⟩, .bool false, .int .i64 0, .slice none 0 0, .slice none 0 0, .slice none 0 0, .slice none 0 0])
  unfold ParseP
  rw [parseR_bad hs hl]
  simp only
  rw [hl] at HC
  clear hl
  go_enter Tryz.func25, Tryz.ntmps25
  go_wp2_with fail
  go_at_call 38
  refine HC.out.mono ?_
  rintro x w1 ⟨rfl, hb⟩
  have HB := Lib.hid (Below.lit hb)
  have O1 := Lib.hid (OB.out.below hb OB.out.lt)
  clear hb
  have zc0 := O1.out.cell 0
  have zf0 := O1.out.frozen 0
  have OZ1 : Hid (Ob (w1.setCell ⟨w.heap.size, 0, none⟩ (.string ⟨#[]⟩)) (w.heap.size) 28 #[.string ⟨#[]⟩, .bool false, .int .i64 0, .slice none 0 0, .slice none 0 0, .slice none 0 0, .slice none 0 0]) := Lib.hid (by have := O1.out.put 0 (.string ⟨#[]⟩); simpa using this)
  have BZ1 := Lib.hid (HB.out.setCell (p := ⟨w.heap.size, 0, none⟩) (Nat.le_refl _) (.string ⟨#[]⟩))
  have zc1 := OZ1.out.cell 1
  have zf1 := OZ1.out.frozen 1
  have OZ2 : Hid (Ob ((w1.setCell ⟨w.heap.size, 0, none⟩ (.string ⟨#[]⟩)).setCell ⟨w.heap.size, 1, none⟩ (.bool false)) (w.heap.size) 28 #[.string ⟨#[]⟩, .bool false, .int .i64 0, .slice none 0 0, .slice none 0 0, .slice none 0 0, .slice none 0 0]) := Lib.hid (by have := OZ1.out.put 1 (.bool false); simpa using this)
  have BZ2 := Lib.hid (BZ1.out.setCell (p := ⟨w.heap.size, 1, none⟩) (Nat.le_refl _) (.bool false))
  have zc2 := OZ2.out.cell 2
  have zf2 := OZ2.out.frozen 2
  have OZ3 : Hid (Ob (((w1.setCell ⟨w.heap.size, 0, none⟩ (.string ⟨#[]⟩)).setCell ⟨w.heap.size, 1, none⟩ (.bool false)).setCell ⟨w.heap.size, 2, none⟩ (.int .i64 0)) (w.heap.size) 28 #[.string ⟨#[]⟩, .bool false, .int .i64 0, .slice none 0 0, .slice none 0 0, .slice none 0 0, .slice none 0 0]) := Lib.hid (by have := OZ2.out.put 2 (.int .i64 0); simpa using this)
  have BZ3 := Lib.hid (BZ2.out.setCell (p := ⟨w.heap.size, 2, none⟩) (Nat.le_refl _) (.int .i64 0))
  have zc3 := OZ3.out.cell 3
  have zf3 := OZ3.out.frozen 3
  have OZ4 : Hid (Ob ((((w1.setCell ⟨w.heap.size, 0, none⟩ (.string ⟨#[]⟩)).setCell ⟨w.heap.size, 1, none⟩ (.bool false)).setCell ⟨w.heap.size, 2, none⟩ (.int .i64 0)).setCell ⟨w.heap.size, 3, none⟩ (.slice none 0 0)) (w.heap.size) 28 #[.string ⟨#[]⟩, .bool false, .int .i64 0, .slice none 0 0, .slice none 0 0, .slice none 0 0, .slice none 0 0]) := Lib.hid (by have := OZ3.out.put 3 (.slice none 0 0); simpa using this)
  have BZ4 := Lib.hid (BZ3.out.setCell (p := ⟨w.heap.size, 3, none⟩) (Nat.le_refl _) (.slice none 0 0))
  have zc4 := OZ4.out.cell 4
  have zf4 := OZ4.out.frozen 4
  have OZ5 : Hid (Ob (((((w1.setCell ⟨w.heap.size, 0, none⟩ (.string ⟨#[]⟩)).setCell ⟨w.heap.size, 1, none⟩ (.bool false)).setCell ⟨w.heap.size, 2, none⟩ (.int .i64 0)).setCell ⟨w.heap.size, 3, none⟩ (.slice none 0 0)).setCell ⟨w.heap.size, 4, none⟩ (.slice none 0 0)) (w.heap.size) 28 #[.string ⟨#[]⟩, .bool false, .int .i64 0, .slice none 0 0, .slice none 0 0, .slice none 0 0, .slice none 0 0]) := Lib.hid (by have := OZ4.out.put 4 (.slice none 0 0); simpa using this)
  have BZ5 := Lib.hid (BZ4.out.setCell (p := ⟨w.heap.size, 4, none⟩) (Nat.le_refl _) (.slice none 0 0))
  have zc5 := OZ5.out.cell 5
  have zf5 := OZ5.out.frozen 5
  have OZ6 : Hid (Ob ((((((w1.setCell ⟨w.heap.size, 0, none⟩ (.string ⟨#[]⟩)).setCell ⟨w.heap.size, 1, none⟩ (.bool false)).setCell ⟨w.heap.size, 2, none⟩ (.int .i64 0)).setCell ⟨w.heap.size, 3, none⟩ (.slice none 0 0)).setCell ⟨w.heap.size, 4, none⟩ (.slice none 0 0)).setCell ⟨w.heap.size, 5, none⟩ (.slice none 0 0)) (w.heap.size) 28 #[.string ⟨#[]⟩, .bool false, .int .i64 0, .slice none 0 0, .slice none 0 0, .slice none 0 0, .slice none 0 0]) := Lib.hid (by have := OZ5.out.put 5 (.slice none 0 0); simpa using this)
  have BZ6 := Lib.hid (BZ5.out.setCell (p := ⟨w.heap.size, 5, none⟩) (Nat.le_refl _) (.slice none 0 0))
  have zc6 := OZ6.out.cell 6
  have zf6 := OZ6.out.frozen 6
  have OZ7 : Hid (Ob (((((((w1.setCell ⟨w.heap.size, 0, none⟩ (.string ⟨#[]⟩)).setCell ⟨w.heap.size, 1, none⟩ (.bool false)).setCell ⟨w.heap.size, 2, none⟩ (.int .i64 0)).setCell ⟨w.heap.size, 3, none⟩ (.slice none 0 0)).setCell ⟨w.heap.size, 4, none⟩ (.slice none 0 0)).setCell ⟨w.heap.size, 5, none⟩ (.slice none 0 0)).setCell ⟨w.heap.size, 6, none⟩ (.slice none 0 0)) (w.heap.size) 28 #[.string ⟨#[]⟩, .bool false, .int .i64 0, .slice none 0 0, .slice none 0 0, .slice none 0 0, .slice none 0 0]) := Lib.hid (by have := OZ6.out.put 6 (.slice none 0 0); simpa using this)
  have BZ7 := Lib.hid (BZ6.out.setCell (p := ⟨w.heap.size, 6, none⟩) (Nat.le_refl _) (.slice none 0 0))
  go_wp2_with fail
  try simp only [Exit.inBlock, Exit.then]
  refine bodyPost_ret (policy_ret3 rfl rfl rfl rfl OZ7.out rfl) rfl ?_
  exact ⟨_, rfl, BZ7.out, noPol_of _ _⟩
theorem Only.down {g B : Nat} {w w' : World} (h : Only g w w') (hB : B ≤ g) (hw : g < w.heap.size) : Below B w w' := ⟨h.os, h.tape, h.output, h.size, fun k hk => h.heap (by omega) (by omega)⟩
set_option maxHeartbeats 3200000 in
theorem parse_ok (s : ByteArray) {ts : List Tk} (hs : s.size ≤ 4096) (hl : lexB s.data.toList 0 = .ok ts) : Calls Tryz.prog 25 #[.string s] w (ParseP s w) := by
  have HC := Lib.hid (all_any s hs (w.alloc (.cells #[.string ⟨#[]⟩, .bool false, .int .i64 0, .slice none 0 0, .slice none 0 0, .slice none 0 0, .slice none 0 0] 28)))
  have OB := Lib.hid (Ob.made w 28 #[.string ⟨#[]⟩, .bool false, .int .i64 0, .slice none 0 0, .slice none 0 0, .slice none 0 0, .slice none 0 0])
  unfold ParseP
  obtain ⟨h0, hlen⟩ := start_ok hs hl
  obtain ⟨q, s1, hq⟩ := pair_eq (polR 5 ⟨ts, 0, 0, 0⟩)
  obtain ⟨z, hz⟩ : ∃ z, endR s1 = z := ⟨_, rfl⟩
  obtain ⟨res, hres⟩ : ∃ r, (if z.err = 0 then (if rightE q = 0 then (q, 0, 0) else (noPol, 5, (s.size : Int))) else (noPol, z.err, z.at_) : Pol × Int × Int) = r := ⟨_, rfl⟩
  rw [parseR_ok hs hl hq hz, hres]
  have HRES := Lib.hid hres
  clear hres
  rw [hl] at HC
  have H0 := Lib.hid h0
  have HSUM : Hid ((⟨ts, 0, 0, 0⟩ : Pz).met + (⟨ts, 0, 0, 0⟩ : Pz).rest.length ≤ 5990) := by show 0 + ts.length ≤ 5990; omega
  have HQ := Lib.hid hq
  have HZ := Lib.hid hz
  have HS := Lib.hid hs
  clear hl hq hz h0 hlen hs
  go_enter Tryz.func25, Tryz.ntmps25
  go_wp2_with fail
  go_at_call 38
  refine HC.out.mono ?_
  rintro x w1 ⟨A, n, c, rfl, hown, hb⟩
  have HB := Lib.hid (Below.lit hb)
  have O1 := Lib.hid (OB.out.below hb OB.out.lt)
  have HG : Hid (w.heap.size < w1.heap.size) := O1.out.lt
  have HR := Lib.hid (Rd.start (Ts.of_own hown) H0.out)
  have O2 := Lib.hid (O1.out.keep (Below.heap_alloc w1 (.cells #[.slice A n c, .int .i64 0, .int .i64 0, .int .i64 0] 100) _ O1.out.lt))
  have HB2 := Lib.hid (HB.out.trans ((Below.refl w.heap.size w1).alloc HB.out.size (.cells #[.slice A n c, .int .i64 0, .int .i64 0, .int .i64 0] 100)))
  clear hb hown
  go_wp2_with fail
  go_at_call 39
  refine (pol_read_all 4 (Nat.le_refl _) _ ⟨ts, 0, 0, 0⟩ 1 (by omega) (Nat.le_refl _) HR.out HSUM.out).mono ?_
  rintro x w3 ⟨y, rfl, ho, hr, hp⟩
  change Rd _ _ _ (polR 5 _).2 at hr
  change PolOf _ _ 5 (polR 5 _).1 _ at hp
  rw [HQ.out] at hr hp
  obtain ⟨A1, n1, c1, A2, n2, c2, A3, n3, c3, A4, n4, c4, rfl, hp⟩ := hp
  have HS3 : Hid (w1.heap.size < w3.heap.size) := hr.lt
  have O3 := Lib.hid (O2.out.keep (ho.heap O2.out.lt (by have := HG.out; omega)))
  have HB3 := Lib.hid (HB2.out.trans (ho.down (by have := HG.out; omega) (by rw [size_al]; omega)))
  have O4 := Lib.hid (O3.out.keep (Below.heap_alloc w3 (.cells #[.string q.id, .bool q.set, .int .i64 q.alg, .slice A1 n1 c1, .slice A2 n2 c2, .slice A3 n3 c3, .slice A4 n4 c4] 28) _ O3.out.lt))
  have P4 := Lib.hid (Ob.made w3 28 #[.string q.id, .bool q.set, .int .i64 q.alg, .slice A1 n1 c1, .slice A2 n2 c2, .slice A3 n3 c3, .slice A4 n4 c4])
  have HB4 := Lib.hid (HB3.out.trans ((Below.refl w.heap.size w3).alloc HB3.out.size (.cells #[.string q.id, .bool q.set, .int .i64 q.alg, .slice A1 n1 c1, .slice A2 n2 c2, .slice A3 n3 c3, .slice A4 n4 c4] 28)))
  have HR4 := Lib.hid (hr.alloc (.cells #[.string q.id, .bool q.set, .int .i64 q.alg, .slice A1 n1 c1, .slice A2 n2 c2, .slice A3 n3 c3, .slice A4 n4 c4] 28))
  have HP4 := Lib.hid (PolAt.keep (Kept.all ((Below.refl w3.heap.size w3).alloc (Nat.le_refl _) (.cells #[.string q.id, .bool q.set, .int .i64 q.alg, .slice A1 n1 c1, .slice A2 n2 c2, .slice A3 n3 c3, .slice A4 n4 c4] 28)) _) (fun _ h _ => h) hp)
  clear ho hr hp
  go_wp2_with fail
  go_at_call 40
  refine (pend_any HR4.out).mono ?_
  rintro x w4 ⟨rfl, ho, hr⟩
  rw [HZ.out] at hr
  have HS4 : Hid (w3.heap.size < w4.heap.size) := by have := ho.size; rw [size_al] at this; show _ < _; omega
  have O5 := Lib.hid (O4.out.keep (ho.heap O4.out.lt (by have := HG.out; omega)))
  have P5 := Lib.hid (P4.out.keep (ho.heap P4.out.lt (by have := HS3.out; omega)))
  have HB5 := Lib.hid (HB4.out.trans (ho.down (by have := HG.out; omega) HR4.out.lt))
  have HP5 := Lib.hid (PolAt.keep (w' := w4) ⟨ho.size, fun b hb hlt => ho.heap hlt (by have hb : (w1.alloc (.cells #[.slice A n c, .int .i64 0, .int .i64 0, .int .i64 0] 100)).heap.size ≤ b := hb; rw [size_al] at hb; omega)⟩ (fun _ h _ => h) HP4.out)
  obtain ⟨b0, o0, n0, c0, hob, hok, _, _, _, _⟩ := hr.at_
  have q2 := hob.cell 2
  have q3 := hob.cell 3
  have R5 := Lib.hid hob
  clear ho hr hob hok
  by_cases hz : z.err = 0
  · rw [hz] at q2
    have HZ0 := Lib.hid hz
    clear hz
    have HIN : Hid (PolIn w4 (fun b => (w1.alloc (.cells #[.slice A n c, .int .i64 0, .int .i64 0, .int .i64 0] 100)).heap.size ≤ b) q A1 n1 c1 A2 n2 c2 A3 n3 c3 A4 n4 c4) := by
      obtain ⟨B1, m1, d1, B2, m2, d2, B3, m3, d3, B4, m4, d4, e, h0, h00, h1, h2, h3, h4⟩ := HP5.out
      simp at e
      obtain ⟨⟨rfl, rfl, rfl⟩, ⟨rfl, rfl, rfl⟩, ⟨rfl, rfl, rfl⟩, ⟨rfl, rfl, rfl⟩⟩ := e
      exact ⟨⟨h0, h00⟩, h1, h2, ⟨4, h3⟩, h4⟩
    have pc0 := P5.out.cell 0
    have pc1 := P5.out.cell 1
    have pc2 := P5.out.cell 2
    have pc3 := P5.out.cell 3
    have pc4 := P5.out.cell 4
    have pc5 := P5.out.cell 5
    have pc6 := P5.out.cell 6
    go_wp2_with fail
    go_at_call 16
    refine (right_pol HIN.out).mono ?_
    rintro x w5 ⟨rfl, hb⟩
    have O6 := Lib.hid (O5.out.below hb O5.out.lt)
    have P6 := Lib.hid (P5.out.below hb P5.out.lt)
    have HB6 := Lib.hid (HB5.out.trans (hb.mono HB5.out.size))
    have HP6 := Lib.hid (PolAt.keep (Kept.all hb _) (fun _ h _ => h) HP5.out)
    clear hb
    by_cases hE : rightE q = 0
    · rw [hE]
      have HF := Lib.hid (show (q, 0, 0) = res from by have := HRES.out; rwa [if_pos HZ0.out, if_pos hE] at this)
      have pd0 := P6.out.cell 0
      have pd1 := P6.out.cell 1
      have pd2 := P6.out.cell 2
      have pd3 := P6.out.cell 3
      have pd4 := P6.out.cell 4
      have pd5 := P6.out.cell 5
      have pd6 := P6.out.cell 6
      have zc0 := O6.out.cell 0
      have zf0 := O6.out.frozen 0
      have OZ1 : Hid (Ob (w5.setCell ⟨w.heap.size, 0, none⟩ (.string q.id)) (w.heap.size) 28 #[.string q.id, .bool false, .int .i64 0, .slice none 0 0, .slice none 0 0, .slice none 0 0, .slice none 0 0]) := Lib.hid (by have := O6.out.put 0 (.string q.id); simpa using this)
      have BZ1 := Lib.hid (HB6.out.setCell (p := ⟨w.heap.size, 0, none⟩) (Nat.le_refl _) (.string q.id))
      have zc1 := OZ1.out.cell 1
      have zf1 := OZ1.out.frozen 1
      have OZ2 : Hid (Ob ((w5.setCell ⟨w.heap.size, 0, none⟩ (.string q.id)).setCell ⟨w.heap.size, 1, none⟩ (.bool q.set)) (w.heap.size) 28 #[.string q.id, .bool q.set, .int .i64 0, .slice none 0 0, .slice none 0 0, .slice none 0 0, .slice none 0 0]) := Lib.hid (by have := OZ1.out.put 1 (.bool q.set); simpa using this)
      have BZ2 := Lib.hid (BZ1.out.setCell (p := ⟨w.heap.size, 1, none⟩) (Nat.le_refl _) (.bool q.set))
      have zc2 := OZ2.out.cell 2
      have zf2 := OZ2.out.frozen 2
      have OZ3 : Hid (Ob (((w5.setCell ⟨w.heap.size, 0, none⟩ (.string q.id)).setCell ⟨w.heap.size, 1, none⟩ (.bool q.set)).setCell ⟨w.heap.size, 2, none⟩ (.int .i64 q.alg)) (w.heap.size) 28 #[.string q.id, .bool q.set, .int .i64 q.alg, .slice none 0 0, .slice none 0 0, .slice none 0 0, .slice none 0 0]) := Lib.hid (by have := OZ2.out.put 2 (.int .i64 q.alg); simpa using this)
      have BZ3 := Lib.hid (BZ2.out.setCell (p := ⟨w.heap.size, 2, none⟩) (Nat.le_refl _) (.int .i64 q.alg))
      have zc3 := OZ3.out.cell 3
      have zf3 := OZ3.out.frozen 3
      have OZ4 : Hid (Ob ((((w5.setCell ⟨w.heap.size, 0, none⟩ (.string q.id)).setCell ⟨w.heap.size, 1, none⟩ (.bool q.set)).setCell ⟨w.heap.size, 2, none⟩ (.int .i64 q.alg)).setCell ⟨w.heap.size, 3, none⟩ (.slice A1 n1 c1)) (w.heap.size) 28 #[.string q.id, .bool q.set, .int .i64 q.alg, .slice A1 n1 c1, .slice none 0 0, .slice none 0 0, .slice none 0 0]) := Lib.hid (by have := OZ3.out.put 3 (.slice A1 n1 c1); simpa using this)
      have BZ4 := Lib.hid (BZ3.out.setCell (p := ⟨w.heap.size, 3, none⟩) (Nat.le_refl _) (.slice A1 n1 c1))
      have zc4 := OZ4.out.cell 4
      have zf4 := OZ4.out.frozen 4
      have OZ5 : Hid (Ob (((((w5.setCell ⟨w.heap.size, 0, none⟩ (.string q.id)).setCell ⟨w.heap.size, 1, none⟩ (.bool q.set)).setCell ⟨w.heap.size, 2, none⟩ (.int .i64 q.alg)).setCell ⟨w.heap.size, 3, none⟩ (.slice A1 n1 c1)).setCell ⟨w.heap.size, 4, none⟩ (.slice A2 n2 c2)) (w.heap.size) 28 #[.string q.id, .bool q.set, .int .i64 q.alg, .slice A1 n1 c1, .slice A2 n2 c2, .slice none 0 0, .slice none 0 0]) := Lib.hid (by have := OZ4.out.put 4 (.slice A2 n2 c2); simpa using this)
      have BZ5 := Lib.hid (BZ4.out.setCell (p := ⟨w.heap.size, 4, none⟩) (Nat.le_refl _) (.slice A2 n2 c2))
      have zc5 := OZ5.out.cell 5
      have zf5 := OZ5.out.frozen 5
      have OZ6 : Hid (Ob ((((((w5.setCell ⟨w.heap.size, 0, none⟩ (.string q.id)).setCell ⟨w.heap.size, 1, none⟩ (.bool q.set)).setCell ⟨w.heap.size, 2, none⟩ (.int .i64 q.alg)).setCell ⟨w.heap.size, 3, none⟩ (.slice A1 n1 c1)).setCell ⟨w.heap.size, 4, none⟩ (.slice A2 n2 c2)).setCell ⟨w.heap.size, 5, none⟩ (.slice A3 n3 c3)) (w.heap.size) 28 #[.string q.id, .bool q.set, .int .i64 q.alg, .slice A1 n1 c1, .slice A2 n2 c2, .slice A3 n3 c3, .slice none 0 0]) := Lib.hid (by have := OZ5.out.put 5 (.slice A3 n3 c3); simpa using this)
      have BZ6 := Lib.hid (BZ5.out.setCell (p := ⟨w.heap.size, 5, none⟩) (Nat.le_refl _) (.slice A3 n3 c3))
      have zc6 := OZ6.out.cell 6
      have zf6 := OZ6.out.frozen 6
      have OZ7 : Hid (Ob (((((((w5.setCell ⟨w.heap.size, 0, none⟩ (.string q.id)).setCell ⟨w.heap.size, 1, none⟩ (.bool q.set)).setCell ⟨w.heap.size, 2, none⟩ (.int .i64 q.alg)).setCell ⟨w.heap.size, 3, none⟩ (.slice A1 n1 c1)).setCell ⟨w.heap.size, 4, none⟩ (.slice A2 n2 c2)).setCell ⟨w.heap.size, 5, none⟩ (.slice A3 n3 c3)).setCell ⟨w.heap.size, 6, none⟩ (.slice A4 n4 c4)) (w.heap.size) 28 #[.string q.id, .bool q.set, .int .i64 q.alg, .slice A1 n1 c1, .slice A2 n2 c2, .slice A3 n3 c3, .slice A4 n4 c4]) := Lib.hid (by have := OZ6.out.put 6 (.slice A4 n4 c4); simpa using this)
      have BZ7 := Lib.hid (BZ6.out.setCell (p := ⟨w.heap.size, 6, none⟩) (Nat.le_refl _) (.slice A4 n4 c4))
      have KQ : Hid (Kept (fun b => (w1.alloc (.cells #[.slice A n c, .int .i64 0, .int .i64 0, .int .i64 0] 100)).heap.size ≤ b) w5 (((((((w5.setCell ⟨w.heap.size, 0, none⟩ (.string q.id)).setCell ⟨w.heap.size, 1, none⟩ (.bool q.set)).setCell ⟨w.heap.size, 2, none⟩ (.int .i64 q.alg)).setCell ⟨w.heap.size, 3, none⟩ (.slice A1 n1 c1)).setCell ⟨w.heap.size, 4, none⟩ (.slice A2 n2 c2)).setCell ⟨w.heap.size, 5, none⟩ (.slice A3 n3 c3)).setCell ⟨w.heap.size, 6, none⟩ (.slice A4 n4 c4))) := Lib.hid (Only.kept9 ((((((((Only.refl (r := w.heap.size) (w := w5)).at_g 0 (.string q.id)).at_g 1 (.bool q.set)).at_g 2 (.int .i64 q.alg)).at_g 3 (.slice A1 n1 c1)).at_g 4 (.slice A2 n2 c2)).at_g 5 (.slice A3 n3 c3)).at_g 6 (.slice A4 n4 c4)) (fun b hb => by have hb : (w1.alloc (.cells #[.slice A n c, .int .i64 0, .int .i64 0, .int .i64 0] 100)).heap.size ≤ b := hb; rw [size_al] at hb; have := HG.out; omega))
      go_wp2_with fail
      try simp only [Exit.inBlock, Exit.then]
      refine bodyPost_ret (policy_ret3 rfl rfl rfl rfl OZ7.out rfl) rfl ?_
      rw [← HF.out]
      exact ⟨_, rfl, BZ7.out, A1, n1, c1, A2, n2, c2, A3, n3, c3, A4, n4, c4, rfl, PolAt.keep (w' := (((((((w5.setCell ⟨w.heap.size, 0, none⟩ (.string q.id)).setCell ⟨w.heap.size, 1, none⟩ (.bool q.set)).setCell ⟨w.heap.size, 2, none⟩ (.int .i64 q.alg)).setCell ⟨w.heap.size, 3, none⟩ (.slice A1 n1 c1)).setCell ⟨w.heap.size, 4, none⟩ (.slice A2 n2 c2)).setCell ⟨w.heap.size, 5, none⟩ (.slice A3 n3 c3)).setCell ⟨w.heap.size, 6, none⟩ (.slice A4 n4 c4))) (KQ.out) (fun b hb _ => by have hb : (w1.alloc (.cells #[.slice A n c, .int .i64 0, .int .i64 0, .int .i64 0] 100)).heap.size ≤ b := hb; rw [size_al] at hb; have := HG.out; show w.heap.size ≤ b; omega) HP6.out⟩
    · have HF := Lib.hid (show (noPol, 5, (s.size : Int)) = res from by have := HRES.out; rwa [if_pos HZ0.out, if_neg hE] at this)
      have hE2 : (rightE q != 0) = true := by rw [bne_iff_ne]; exact hE
      have HE := Lib.hid hE
      clear hE
      generalize rightE q = rq at *
      have zc0 := O6.out.cell 0
      have zf0 := O6.out.frozen 0
      have OZ1 : Hid (Ob (w5.setCell ⟨w.heap.size, 0, none⟩ (.string ⟨#[]⟩)) (w.heap.size) 28 #[.string ⟨#[]⟩, .bool false, .int .i64 0, .slice none 0 0, .slice none 0 0, .slice none 0 0, .slice none 0 0]) := Lib.hid (by have := O6.out.put 0 (.string ⟨#[]⟩); simpa using this)
      have BZ1 := Lib.hid (HB6.out.setCell (p := ⟨w.heap.size, 0, none⟩) (Nat.le_refl _) (.string ⟨#[]⟩))
      have zc1 := OZ1.out.cell 1
      have zf1 := OZ1.out.frozen 1
      have OZ2 : Hid (Ob ((w5.setCell ⟨w.heap.size, 0, none⟩ (.string ⟨#[]⟩)).setCell ⟨w.heap.size, 1, none⟩ (.bool false)) (w.heap.size) 28 #[.string ⟨#[]⟩, .bool false, .int .i64 0, .slice none 0 0, .slice none 0 0, .slice none 0 0, .slice none 0 0]) := Lib.hid (by have := OZ1.out.put 1 (.bool false); simpa using this)
      have BZ2 := Lib.hid (BZ1.out.setCell (p := ⟨w.heap.size, 1, none⟩) (Nat.le_refl _) (.bool false))
      have zc2 := OZ2.out.cell 2
      have zf2 := OZ2.out.frozen 2
      have OZ3 : Hid (Ob (((w5.setCell ⟨w.heap.size, 0, none⟩ (.string ⟨#[]⟩)).setCell ⟨w.heap.size, 1, none⟩ (.bool false)).setCell ⟨w.heap.size, 2, none⟩ (.int .i64 0)) (w.heap.size) 28 #[.string ⟨#[]⟩, .bool false, .int .i64 0, .slice none 0 0, .slice none 0 0, .slice none 0 0, .slice none 0 0]) := Lib.hid (by have := OZ2.out.put 2 (.int .i64 0); simpa using this)
      have BZ3 := Lib.hid (BZ2.out.setCell (p := ⟨w.heap.size, 2, none⟩) (Nat.le_refl _) (.int .i64 0))
      have zc3 := OZ3.out.cell 3
      have zf3 := OZ3.out.frozen 3
      have OZ4 : Hid (Ob ((((w5.setCell ⟨w.heap.size, 0, none⟩ (.string ⟨#[]⟩)).setCell ⟨w.heap.size, 1, none⟩ (.bool false)).setCell ⟨w.heap.size, 2, none⟩ (.int .i64 0)).setCell ⟨w.heap.size, 3, none⟩ (.slice none 0 0)) (w.heap.size) 28 #[.string ⟨#[]⟩, .bool false, .int .i64 0, .slice none 0 0, .slice none 0 0, .slice none 0 0, .slice none 0 0]) := Lib.hid (by have := OZ3.out.put 3 (.slice none 0 0); simpa using this)
      have BZ4 := Lib.hid (BZ3.out.setCell (p := ⟨w.heap.size, 3, none⟩) (Nat.le_refl _) (.slice none 0 0))
      have zc4 := OZ4.out.cell 4
      have zf4 := OZ4.out.frozen 4
      have OZ5 : Hid (Ob (((((w5.setCell ⟨w.heap.size, 0, none⟩ (.string ⟨#[]⟩)).setCell ⟨w.heap.size, 1, none⟩ (.bool false)).setCell ⟨w.heap.size, 2, none⟩ (.int .i64 0)).setCell ⟨w.heap.size, 3, none⟩ (.slice none 0 0)).setCell ⟨w.heap.size, 4, none⟩ (.slice none 0 0)) (w.heap.size) 28 #[.string ⟨#[]⟩, .bool false, .int .i64 0, .slice none 0 0, .slice none 0 0, .slice none 0 0, .slice none 0 0]) := Lib.hid (by have := OZ4.out.put 4 (.slice none 0 0); simpa using this)
      have BZ5 := Lib.hid (BZ4.out.setCell (p := ⟨w.heap.size, 4, none⟩) (Nat.le_refl _) (.slice none 0 0))
      have zc5 := OZ5.out.cell 5
      have zf5 := OZ5.out.frozen 5
      have OZ6 : Hid (Ob ((((((w5.setCell ⟨w.heap.size, 0, none⟩ (.string ⟨#[]⟩)).setCell ⟨w.heap.size, 1, none⟩ (.bool false)).setCell ⟨w.heap.size, 2, none⟩ (.int .i64 0)).setCell ⟨w.heap.size, 3, none⟩ (.slice none 0 0)).setCell ⟨w.heap.size, 4, none⟩ (.slice none 0 0)).setCell ⟨w.heap.size, 5, none⟩ (.slice none 0 0)) (w.heap.size) 28 #[.string ⟨#[]⟩, .bool false, .int .i64 0, .slice none 0 0, .slice none 0 0, .slice none 0 0, .slice none 0 0]) := Lib.hid (by have := OZ5.out.put 5 (.slice none 0 0); simpa using this)
      have BZ6 := Lib.hid (BZ5.out.setCell (p := ⟨w.heap.size, 5, none⟩) (Nat.le_refl _) (.slice none 0 0))
      have zc6 := OZ6.out.cell 6
      have zf6 := OZ6.out.frozen 6
      have OZ7 : Hid (Ob (((((((w5.setCell ⟨w.heap.size, 0, none⟩ (.string ⟨#[]⟩)).setCell ⟨w.heap.size, 1, none⟩ (.bool false)).setCell ⟨w.heap.size, 2, none⟩ (.int .i64 0)).setCell ⟨w.heap.size, 3, none⟩ (.slice none 0 0)).setCell ⟨w.heap.size, 4, none⟩ (.slice none 0 0)).setCell ⟨w.heap.size, 5, none⟩ (.slice none 0 0)).setCell ⟨w.heap.size, 6, none⟩ (.slice none 0 0)) (w.heap.size) 28 #[.string ⟨#[]⟩, .bool false, .int .i64 0, .slice none 0 0, .slice none 0 0, .slice none 0 0, .slice none 0 0]) := Lib.hid (by have := OZ6.out.put 6 (.slice none 0 0); simpa using this)
      have BZ7 := Lib.hid (BZ6.out.setCell (p := ⟨w.heap.size, 6, none⟩) (Nat.le_refl _) (.slice none 0 0))
      go_wp2_with fail
      try simp only [Exit.inBlock, Exit.then]
      refine bodyPost_ret (policy_ret3 rfl rfl rfl rfl OZ7.out rfl) rfl ?_
      rw [← HF.out]
      exact ⟨_, rfl, BZ7.out, noPol_of _ _⟩
  · have HF := Lib.hid (show (noPol, z.err, z.at_) = res from by have := HRES.out; rwa [if_neg hz] at this)
    have hz2 : (z.err != 0) = true := by rw [bne_iff_ne]; exact hz
    clear hz
    go_wp2_with fail
    have zc0 := O5.out.cell 0
    have zf0 := O5.out.frozen 0
    have OZ1 : Hid (Ob (w4.setCell ⟨w.heap.size, 0, none⟩ (.string ⟨#[]⟩)) (w.heap.size) 28 #[.string ⟨#[]⟩, .bool false, .int .i64 0, .slice none 0 0, .slice none 0 0, .slice none 0 0, .slice none 0 0]) := Lib.hid (by have := O5.out.put 0 (.string ⟨#[]⟩); simpa using this)
    have BZ1 := Lib.hid (HB5.out.setCell (p := ⟨w.heap.size, 0, none⟩) (Nat.le_refl _) (.string ⟨#[]⟩))
    have zc1 := OZ1.out.cell 1
    have zf1 := OZ1.out.frozen 1
    have OZ2 : Hid (Ob ((w4.setCell ⟨w.heap.size, 0, none⟩ (.string ⟨#[]⟩)).setCell ⟨w.heap.size, 1, none⟩ (.bool false)) (w.heap.size) 28 #[.string ⟨#[]⟩, .bool false, .int .i64 0, .slice none 0 0, .slice none 0 0, .slice none 0 0, .slice none 0 0]) := Lib.hid (by have := OZ1.out.put 1 (.bool false); simpa using this)
    have BZ2 := Lib.hid (BZ1.out.setCell (p := ⟨w.heap.size, 1, none⟩) (Nat.le_refl _) (.bool false))
    have zc2 := OZ2.out.cell 2
    have zf2 := OZ2.out.frozen 2
    have OZ3 : Hid (Ob (((w4.setCell ⟨w.heap.size, 0, none⟩ (.string ⟨#[]⟩)).setCell ⟨w.heap.size, 1, none⟩ (.bool false)).setCell ⟨w.heap.size, 2, none⟩ (.int .i64 0)) (w.heap.size) 28 #[.string ⟨#[]⟩, .bool false, .int .i64 0, .slice none 0 0, .slice none 0 0, .slice none 0 0, .slice none 0 0]) := Lib.hid (by have := OZ2.out.put 2 (.int .i64 0); simpa using this)
    have BZ3 := Lib.hid (BZ2.out.setCell (p := ⟨w.heap.size, 2, none⟩) (Nat.le_refl _) (.int .i64 0))
    have zc3 := OZ3.out.cell 3
    have zf3 := OZ3.out.frozen 3
    have OZ4 : Hid (Ob ((((w4.setCell ⟨w.heap.size, 0, none⟩ (.string ⟨#[]⟩)).setCell ⟨w.heap.size, 1, none⟩ (.bool false)).setCell ⟨w.heap.size, 2, none⟩ (.int .i64 0)).setCell ⟨w.heap.size, 3, none⟩ (.slice none 0 0)) (w.heap.size) 28 #[.string ⟨#[]⟩, .bool false, .int .i64 0, .slice none 0 0, .slice none 0 0, .slice none 0 0, .slice none 0 0]) := Lib.hid (by have := OZ3.out.put 3 (.slice none 0 0); simpa using this)
    have BZ4 := Lib.hid (BZ3.out.setCell (p := ⟨w.heap.size, 3, none⟩) (Nat.le_refl _) (.slice none 0 0))
    have zc4 := OZ4.out.cell 4
    have zf4 := OZ4.out.frozen 4
    have OZ5 : Hid (Ob (((((w4.setCell ⟨w.heap.size, 0, none⟩ (.string ⟨#[]⟩)).setCell ⟨w.heap.size, 1, none⟩ (.bool false)).setCell ⟨w.heap.size, 2, none⟩ (.int .i64 0)).setCell ⟨w.heap.size, 3, none⟩ (.slice none 0 0)).setCell ⟨w.heap.size, 4, none⟩ (.slice none 0 0)) (w.heap.size) 28 #[.string ⟨#[]⟩, .bool false, .int .i64 0, .slice none 0 0, .slice none 0 0, .slice none 0 0, .slice none 0 0]) := Lib.hid (by have := OZ4.out.put 4 (.slice none 0 0); simpa using this)
    have BZ5 := Lib.hid (BZ4.out.setCell (p := ⟨w.heap.size, 4, none⟩) (Nat.le_refl _) (.slice none 0 0))
    have zc5 := OZ5.out.cell 5
    have zf5 := OZ5.out.frozen 5
    have OZ6 : Hid (Ob ((((((w4.setCell ⟨w.heap.size, 0, none⟩ (.string ⟨#[]⟩)).setCell ⟨w.heap.size, 1, none⟩ (.bool false)).setCell ⟨w.heap.size, 2, none⟩ (.int .i64 0)).setCell ⟨w.heap.size, 3, none⟩ (.slice none 0 0)).setCell ⟨w.heap.size, 4, none⟩ (.slice none 0 0)).setCell ⟨w.heap.size, 5, none⟩ (.slice none 0 0)) (w.heap.size) 28 #[.string ⟨#[]⟩, .bool false, .int .i64 0, .slice none 0 0, .slice none 0 0, .slice none 0 0, .slice none 0 0]) := Lib.hid (by have := OZ5.out.put 5 (.slice none 0 0); simpa using this)
    have BZ6 := Lib.hid (BZ5.out.setCell (p := ⟨w.heap.size, 5, none⟩) (Nat.le_refl _) (.slice none 0 0))
    have zc6 := OZ6.out.cell 6
    have zf6 := OZ6.out.frozen 6
    have OZ7 : Hid (Ob (((((((w4.setCell ⟨w.heap.size, 0, none⟩ (.string ⟨#[]⟩)).setCell ⟨w.heap.size, 1, none⟩ (.bool false)).setCell ⟨w.heap.size, 2, none⟩ (.int .i64 0)).setCell ⟨w.heap.size, 3, none⟩ (.slice none 0 0)).setCell ⟨w.heap.size, 4, none⟩ (.slice none 0 0)).setCell ⟨w.heap.size, 5, none⟩ (.slice none 0 0)).setCell ⟨w.heap.size, 6, none⟩ (.slice none 0 0)) (w.heap.size) 28 #[.string ⟨#[]⟩, .bool false, .int .i64 0, .slice none 0 0, .slice none 0 0, .slice none 0 0, .slice none 0 0]) := Lib.hid (by have := OZ6.out.put 6 (.slice none 0 0); simpa using this)
    have BZ7 := Lib.hid (BZ6.out.setCell (p := ⟨w.heap.size, 6, none⟩) (Nat.le_refl _) (.slice none 0 0))
    have RZ1 := Lib.hid (R5.out.keep (Below.heap_setCell w4 ⟨w.heap.size, 0, none⟩ (.string ⟨#[]⟩) _ (by show w1.heap.size ≠ w.heap.size; have := HG.out; omega)))
    have RZ2 := Lib.hid (RZ1.out.keep (Below.heap_setCell (w4.setCell ⟨w.heap.size, 0, none⟩ (.string ⟨#[]⟩)) ⟨w.heap.size, 1, none⟩ (.bool false) _ (by show w1.heap.size ≠ w.heap.size; have := HG.out; omega)))
    have RZ3 := Lib.hid (RZ2.out.keep (Below.heap_setCell ((w4.setCell ⟨w.heap.size, 0, none⟩ (.string ⟨#[]⟩)).setCell ⟨w.heap.size, 1, none⟩ (.bool false)) ⟨w.heap.size, 2, none⟩ (.int .i64 0) _ (by show w1.heap.size ≠ w.heap.size; have := HG.out; omega)))
    have RZ4 := Lib.hid (RZ3.out.keep (Below.heap_setCell (((w4.setCell ⟨w.heap.size, 0, none⟩ (.string ⟨#[]⟩)).setCell ⟨w.heap.size, 1, none⟩ (.bool false)).setCell ⟨w.heap.size, 2, none⟩ (.int .i64 0)) ⟨w.heap.size, 3, none⟩ (.slice none 0 0) _ (by show w1.heap.size ≠ w.heap.size; have := HG.out; omega)))
    have RZ5 := Lib.hid (RZ4.out.keep (Below.heap_setCell ((((w4.setCell ⟨w.heap.size, 0, none⟩ (.string ⟨#[]⟩)).setCell ⟨w.heap.size, 1, none⟩ (.bool false)).setCell ⟨w.heap.size, 2, none⟩ (.int .i64 0)).setCell ⟨w.heap.size, 3, none⟩ (.slice none 0 0)) ⟨w.heap.size, 4, none⟩ (.slice none 0 0) _ (by show w1.heap.size ≠ w.heap.size; have := HG.out; omega)))
    have RZ6 := Lib.hid (RZ5.out.keep (Below.heap_setCell (((((w4.setCell ⟨w.heap.size, 0, none⟩ (.string ⟨#[]⟩)).setCell ⟨w.heap.size, 1, none⟩ (.bool false)).setCell ⟨w.heap.size, 2, none⟩ (.int .i64 0)).setCell ⟨w.heap.size, 3, none⟩ (.slice none 0 0)).setCell ⟨w.heap.size, 4, none⟩ (.slice none 0 0)) ⟨w.heap.size, 5, none⟩ (.slice none 0 0) _ (by show w1.heap.size ≠ w.heap.size; have := HG.out; omega)))
    have RZ7 := Lib.hid (RZ6.out.keep (Below.heap_setCell ((((((w4.setCell ⟨w.heap.size, 0, none⟩ (.string ⟨#[]⟩)).setCell ⟨w.heap.size, 1, none⟩ (.bool false)).setCell ⟨w.heap.size, 2, none⟩ (.int .i64 0)).setCell ⟨w.heap.size, 3, none⟩ (.slice none 0 0)).setCell ⟨w.heap.size, 4, none⟩ (.slice none 0 0)).setCell ⟨w.heap.size, 5, none⟩ (.slice none 0 0)) ⟨w.heap.size, 6, none⟩ (.slice none 0 0) _ (by show w1.heap.size ≠ w.heap.size; have := HG.out; omega)))
    have RZc2 := RZ7.out.cell 2
    have RZc3 := RZ7.out.cell 3
    have OD0 : Hid (Ob w4.drew w.heap.size 28 #[.string ⟨#[]⟩, .bool false, .int .i64 0, .slice none 0 0, .slice none 0 0, .slice none 0 0, .slice none 0 0]) := Lib.hid O5.out
    have BD0 : Hid (Below w.heap.size w w4.drew) := Lib.hid (below_drewN HB5.out 1)
    have yc0 := OD0.out.cell 0
    have yf0 := OD0.out.frozen 0
    have OY1 : Hid (Ob (w4.drew.setCell ⟨w.heap.size, 0, none⟩ (.string ⟨#[]⟩)) (w.heap.size) 28 #[.string ⟨#[]⟩, .bool false, .int .i64 0, .slice none 0 0, .slice none 0 0, .slice none 0 0, .slice none 0 0]) := Lib.hid (by have := OD0.out.put 0 (.string ⟨#[]⟩); simpa using this)
    have BY1 := Lib.hid (BD0.out.setCell (p := ⟨w.heap.size, 0, none⟩) (Nat.le_refl _) (.string ⟨#[]⟩))
    have yc1 := OY1.out.cell 1
    have yf1 := OY1.out.frozen 1
    have OY2 : Hid (Ob ((w4.drew.setCell ⟨w.heap.size, 0, none⟩ (.string ⟨#[]⟩)).setCell ⟨w.heap.size, 1, none⟩ (.bool false)) (w.heap.size) 28 #[.string ⟨#[]⟩, .bool false, .int .i64 0, .slice none 0 0, .slice none 0 0, .slice none 0 0, .slice none 0 0]) := Lib.hid (by have := OY1.out.put 1 (.bool false); simpa using this)
    have BY2 := Lib.hid (BY1.out.setCell (p := ⟨w.heap.size, 1, none⟩) (Nat.le_refl _) (.bool false))
    have yc2 := OY2.out.cell 2
    have yf2 := OY2.out.frozen 2
    have OY3 : Hid (Ob (((w4.drew.setCell ⟨w.heap.size, 0, none⟩ (.string ⟨#[]⟩)).setCell ⟨w.heap.size, 1, none⟩ (.bool false)).setCell ⟨w.heap.size, 2, none⟩ (.int .i64 0)) (w.heap.size) 28 #[.string ⟨#[]⟩, .bool false, .int .i64 0, .slice none 0 0, .slice none 0 0, .slice none 0 0, .slice none 0 0]) := Lib.hid (by have := OY2.out.put 2 (.int .i64 0); simpa using this)
    have BY3 := Lib.hid (BY2.out.setCell (p := ⟨w.heap.size, 2, none⟩) (Nat.le_refl _) (.int .i64 0))
    have yc3 := OY3.out.cell 3
    have yf3 := OY3.out.frozen 3
    have OY4 : Hid (Ob ((((w4.drew.setCell ⟨w.heap.size, 0, none⟩ (.string ⟨#[]⟩)).setCell ⟨w.heap.size, 1, none⟩ (.bool false)).setCell ⟨w.heap.size, 2, none⟩ (.int .i64 0)).setCell ⟨w.heap.size, 3, none⟩ (.slice none 0 0)) (w.heap.size) 28 #[.string ⟨#[]⟩, .bool false, .int .i64 0, .slice none 0 0, .slice none 0 0, .slice none 0 0, .slice none 0 0]) := Lib.hid (by have := OY3.out.put 3 (.slice none 0 0); simpa using this)
    have BY4 := Lib.hid (BY3.out.setCell (p := ⟨w.heap.size, 3, none⟩) (Nat.le_refl _) (.slice none 0 0))
    have yc4 := OY4.out.cell 4
    have yf4 := OY4.out.frozen 4
    have OY5 : Hid (Ob (((((w4.drew.setCell ⟨w.heap.size, 0, none⟩ (.string ⟨#[]⟩)).setCell ⟨w.heap.size, 1, none⟩ (.bool false)).setCell ⟨w.heap.size, 2, none⟩ (.int .i64 0)).setCell ⟨w.heap.size, 3, none⟩ (.slice none 0 0)).setCell ⟨w.heap.size, 4, none⟩ (.slice none 0 0)) (w.heap.size) 28 #[.string ⟨#[]⟩, .bool false, .int .i64 0, .slice none 0 0, .slice none 0 0, .slice none 0 0, .slice none 0 0]) := Lib.hid (by have := OY4.out.put 4 (.slice none 0 0); simpa using this)
    have BY5 := Lib.hid (BY4.out.setCell (p := ⟨w.heap.size, 4, none⟩) (Nat.le_refl _) (.slice none 0 0))
    have yc5 := OY5.out.cell 5
    have yf5 := OY5.out.frozen 5
    have OY6 : Hid (Ob ((((((w4.drew.setCell ⟨w.heap.size, 0, none⟩ (.string ⟨#[]⟩)).setCell ⟨w.heap.size, 1, none⟩ (.bool false)).setCell ⟨w.heap.size, 2, none⟩ (.int .i64 0)).setCell ⟨w.heap.size, 3, none⟩ (.slice none 0 0)).setCell ⟨w.heap.size, 4, none⟩ (.slice none 0 0)).setCell ⟨w.heap.size, 5, none⟩ (.slice none 0 0)) (w.heap.size) 28 #[.string ⟨#[]⟩, .bool false, .int .i64 0, .slice none 0 0, .slice none 0 0, .slice none 0 0, .slice none 0 0]) := Lib.hid (by have := OY5.out.put 5 (.slice none 0 0); simpa using this)
    have BY6 := Lib.hid (BY5.out.setCell (p := ⟨w.heap.size, 5, none⟩) (Nat.le_refl _) (.slice none 0 0))
    have yc6 := OY6.out.cell 6
    have yf6 := OY6.out.frozen 6
    have OY7 : Hid (Ob (((((((w4.drew.setCell ⟨w.heap.size, 0, none⟩ (.string ⟨#[]⟩)).setCell ⟨w.heap.size, 1, none⟩ (.bool false)).setCell ⟨w.heap.size, 2, none⟩ (.int .i64 0)).setCell ⟨w.heap.size, 3, none⟩ (.slice none 0 0)).setCell ⟨w.heap.size, 4, none⟩ (.slice none 0 0)).setCell ⟨w.heap.size, 5, none⟩ (.slice none 0 0)).setCell ⟨w.heap.size, 6, none⟩ (.slice none 0 0)) (w.heap.size) 28 #[.string ⟨#[]⟩, .bool false, .int .i64 0, .slice none 0 0, .slice none 0 0, .slice none 0 0, .slice none 0 0]) := Lib.hid (by have := OY6.out.put 6 (.slice none 0 0); simpa using this)
    have BY7 := Lib.hid (BY6.out.setCell (p := ⟨w.heap.size, 6, none⟩) (Nat.le_refl _) (.slice none 0 0))
    have RD0 : Hid (Ob w4.drew w1.heap.size 100 #[.slice (some ⟨b0, o0, none⟩) n0 c0, .int .i64 (z.met : Int), .int .i64 z.err, .int .i64 z.at_]) := Lib.hid R5.out
    have RY1 := Lib.hid (RD0.out.keep (Below.heap_setCell w4.drew ⟨w.heap.size, 0, none⟩ (.string ⟨#[]⟩) _ (by show w1.heap.size ≠ w.heap.size; have := HG.out; omega)))
    have RY2 := Lib.hid (RY1.out.keep (Below.heap_setCell (w4.drew.setCell ⟨w.heap.size, 0, none⟩ (.string ⟨#[]⟩)) ⟨w.heap.size, 1, none⟩ (.bool false) _ (by show w1.heap.size ≠ w.heap.size; have := HG.out; omega)))
    have RY3 := Lib.hid (RY2.out.keep (Below.heap_setCell ((w4.drew.setCell ⟨w.heap.size, 0, none⟩ (.string ⟨#[]⟩)).setCell ⟨w.heap.size, 1, none⟩ (.bool false)) ⟨w.heap.size, 2, none⟩ (.int .i64 0) _ (by show w1.heap.size ≠ w.heap.size; have := HG.out; omega)))
    have RY4 := Lib.hid (RY3.out.keep (Below.heap_setCell (((w4.drew.setCell ⟨w.heap.size, 0, none⟩ (.string ⟨#[]⟩)).setCell ⟨w.heap.size, 1, none⟩ (.bool false)).setCell ⟨w.heap.size, 2, none⟩ (.int .i64 0)) ⟨w.heap.size, 3, none⟩ (.slice none 0 0) _ (by show w1.heap.size ≠ w.heap.size; have := HG.out; omega)))
    have RY5 := Lib.hid (RY4.out.keep (Below.heap_setCell ((((w4.drew.setCell ⟨w.heap.size, 0, none⟩ (.string ⟨#[]⟩)).setCell ⟨w.heap.size, 1, none⟩ (.bool false)).setCell ⟨w.heap.size, 2, none⟩ (.int .i64 0)).setCell ⟨w.heap.size, 3, none⟩ (.slice none 0 0)) ⟨w.heap.size, 4, none⟩ (.slice none 0 0) _ (by show w1.heap.size ≠ w.heap.size; have := HG.out; omega)))
    have RY6 := Lib.hid (RY5.out.keep (Below.heap_setCell (((((w4.drew.setCell ⟨w.heap.size, 0, none⟩ (.string ⟨#[]⟩)).setCell ⟨w.heap.size, 1, none⟩ (.bool false)).setCell ⟨w.heap.size, 2, none⟩ (.int .i64 0)).setCell ⟨w.heap.size, 3, none⟩ (.slice none 0 0)).setCell ⟨w.heap.size, 4, none⟩ (.slice none 0 0)) ⟨w.heap.size, 5, none⟩ (.slice none 0 0) _ (by show w1.heap.size ≠ w.heap.size; have := HG.out; omega)))
    have RY7 := Lib.hid (RY6.out.keep (Below.heap_setCell ((((((w4.drew.setCell ⟨w.heap.size, 0, none⟩ (.string ⟨#[]⟩)).setCell ⟨w.heap.size, 1, none⟩ (.bool false)).setCell ⟨w.heap.size, 2, none⟩ (.int .i64 0)).setCell ⟨w.heap.size, 3, none⟩ (.slice none 0 0)).setCell ⟨w.heap.size, 4, none⟩ (.slice none 0 0)).setCell ⟨w.heap.size, 5, none⟩ (.slice none 0 0)) ⟨w.heap.size, 6, none⟩ (.slice none 0 0) _ (by show w1.heap.size ≠ w.heap.size; have := HG.out; omega)))
    have RYc2 := RY7.out.cell 2
    have RYc3 := RY7.out.cell 3
    have q2d : w4.drew.cell? ⟨w1.heap.size, 2, none⟩ = some (.int .i64 z.err) := q2
    have q3d : w4.drew.cell? ⟨w1.heap.size, 3, none⟩ = some (.int .i64 z.at_) := q3
    go_region
    have OF := Lib.hid (Ob.drew9 OZ7.out)
    have BF : Hid (Below w.heap.size w ((((((((w4.setCell ⟨w.heap.size, 0, none⟩ (.string ⟨#[]⟩)).setCell ⟨w.heap.size, 1, none⟩ (.bool false)).setCell ⟨w.heap.size, 2, none⟩ (.int .i64 0)).setCell ⟨w.heap.size, 3, none⟩ (.slice none 0 0)).setCell ⟨w.heap.size, 4, none⟩ (.slice none 0 0)).setCell ⟨w.heap.size, 5, none⟩ (.slice none 0 0)).setCell ⟨w.heap.size, 6, none⟩ (.slice none 0 0)).drew)) := Lib.hid (below_drewN BZ7.out 1)
    obtain ⟨w9, hw9⟩ : ∃ w9, w9 = (((((((w4.setCell ⟨w.heap.size, 0, none⟩ (.string ⟨#[]⟩)).setCell ⟨w.heap.size, 1, none⟩ (.bool false)).setCell ⟨w.heap.size, 2, none⟩ (.int .i64 0)).setCell ⟨w.heap.size, 3, none⟩ (.slice none 0 0)).setCell ⟨w.heap.size, 4, none⟩ (.slice none 0 0)).setCell ⟨w.heap.size, 5, none⟩ (.slice none 0 0)).setCell ⟨w.heap.size, 6, none⟩ (.slice none 0 0)).drew := ⟨_, rfl⟩
    rw [← hw9] at OF BF ⊢
    clear hw9
    go_wp2_with fail
    try simp only [Exit.inBlock, Exit.then]
    refine bodyPost_ret (policy_ret3 rfl rfl rfl rfl OF.out rfl) rfl ?_
    rw [← HF.out]
    exact ⟨_, rfl, BF.out, noPol_of _ _⟩

theorem parse_any (s : ByteArray) (hs : s.size ≤ maxLen) : Calls Tryz.prog 25 #[.string s] w (ParseP s w) := by
  by_cases h : 4096 < s.size
  · exact parse_big s h hs
  · cases hl : lexB s.data.toList 0 with
    | error p => exact parse_bad s (by omega) hl
    | ok ts => exact parse_ok s (by omega) hl
end
end Go.Proofs.YtmoglaknmlhpgaaGreat
/- What is read of a text, as the laws take it. -/
namespace Go.Proofs.YtmoglaknmlhpgaaGreat
set_option linter.unusedVariables false
open Go.RowKit

theorem parse_is {w : World} {s : ByteArray} {p : Pol} {e i : Int} (h : parseR s = (p, e, i)) (hs : s.size ≤ maxLen) : Calls Tryz.prog 25 #[.string s] w fun x w' => ∃ y, x = .returned (.tuple #[y, .int .i64 e, .int .i64 i]) ∧ Below w.heap.size w w' ∧ PolOf w w' 5 p y := by
  have := parse_any (w := w) s hs
  unfold ParseP at this
  rw [h] at this
  exact this
theorem PolAt.in_ {w : World} {R : Nat → Prop} {d : Nat} {p : Pol} {A1 A2 A3 A4 : Option Addr} {n1 n2 n3 n4 c1 c2 c3 c4 : Nat} (h : PolAt w R (d + 1) [.string p.id, .bool p.set, .int .i64 p.alg, .slice A1 n1 c1, .slice A2 n2 c2, .slice A3 n3 c3, .slice A4 n4 c4] p) : PolIn w R p A1 n1 c1 A2 n2 c2 A3 n3 c3 A4 n4 c4 := by
  obtain ⟨B1, m1, d1, B2, m2, d2, B3, m3, d3, B4, m4, d4, e, h0, h00, h1, h2, h3, h4⟩ := h
  simp at e
  obtain ⟨⟨rfl, rfl, rfl⟩, ⟨rfl, rfl, rfl⟩, ⟨rfl, rfl, rfl⟩, ⟨rfl, rfl, rfl⟩⟩ := e
  exact ⟨⟨h0, h00⟩, h1, h2, ⟨d, h3⟩, h4⟩
end Go.Proofs.YtmoglaknmlhpgaaGreat
/- Seven cells stored over others. -/
namespace Go.Proofs.YtmoglaknmlhpgaaGreat
set_option linter.unusedVariables false
open Go.RowKit

def put1W (V : World) (P : Nat) (b0 : Value) : World := V.setCell ⟨P, 0, none⟩ b0
def put2W (V : World) (P : Nat) (b0 b1 : Value) : World := (put1W V P b0).setCell ⟨P, 1, none⟩ b1
def put3W (V : World) (P : Nat) (b0 b1 b2 : Value) : World := (put2W V P b0 b1).setCell ⟨P, 2, none⟩ b2
def put4W (V : World) (P : Nat) (b0 b1 b2 b3 : Value) : World := (put3W V P b0 b1 b2).setCell ⟨P, 3, none⟩ b3
def put5W (V : World) (P : Nat) (b0 b1 b2 b3 b4 : Value) : World := (put4W V P b0 b1 b2 b3).setCell ⟨P, 4, none⟩ b4
def put6W (V : World) (P : Nat) (b0 b1 b2 b3 b4 b5 : Value) : World := (put5W V P b0 b1 b2 b3 b4).setCell ⟨P, 5, none⟩ b5
def put7W (V : World) (P : Nat) (b0 b1 b2 b3 b4 b5 b6 : Value) : World := (put6W V P b0 b1 b2 b3 b4 b5).setCell ⟨P, 6, none⟩ b6
section
variable {V : World} {P : Nat} {t : TypeId} {a0 a1 a2 a3 a4 a5 a6 : Value}
theorem put1_ob (h : Ob V P t #[a0, a1, a2, a3, a4, a5, a6]) (b0 : Value) : Ob (put1W V P b0) P t #[b0, a1, a2, a3, a4, a5, a6] := h.put 0 b0
theorem put2_ob (h : Ob V P t #[a0, a1, a2, a3, a4, a5, a6]) (b0 b1 : Value) : Ob (put2W V P b0 b1) P t #[b0, b1, a2, a3, a4, a5, a6] := (put1_ob h b0).put 1 b1
theorem put3_ob (h : Ob V P t #[a0, a1, a2, a3, a4, a5, a6]) (b0 b1 b2 : Value) : Ob (put3W V P b0 b1 b2) P t #[b0, b1, b2, a3, a4, a5, a6] := (put2_ob h b0 b1).put 2 b2
theorem put4_ob (h : Ob V P t #[a0, a1, a2, a3, a4, a5, a6]) (b0 b1 b2 b3 : Value) : Ob (put4W V P b0 b1 b2 b3) P t #[b0, b1, b2, b3, a4, a5, a6] := (put3_ob h b0 b1 b2).put 3 b3
theorem put5_ob (h : Ob V P t #[a0, a1, a2, a3, a4, a5, a6]) (b0 b1 b2 b3 b4 : Value) : Ob (put5W V P b0 b1 b2 b3 b4) P t #[b0, b1, b2, b3, b4, a5, a6] := (put4_ob h b0 b1 b2 b3).put 4 b4
theorem put6_ob (h : Ob V P t #[a0, a1, a2, a3, a4, a5, a6]) (b0 b1 b2 b3 b4 b5 : Value) : Ob (put6W V P b0 b1 b2 b3 b4 b5) P t #[b0, b1, b2, b3, b4, b5, a6] := (put5_ob h b0 b1 b2 b3 b4).put 5 b5
theorem put7_ob (h : Ob V P t #[a0, a1, a2, a3, a4, a5, a6]) (b0 b1 b2 b3 b4 b5 b6 : Value) : Ob (put7W V P b0 b1 b2 b3 b4 b5 b6) P t #[b0, b1, b2, b3, b4, b5, b6] := (put6_ob h b0 b1 b2 b3 b4 b5).put 6 b6
theorem put7_only (b0 b1 b2 b3 b4 b5 b6 : Value) : Only P V (put7W V P b0 b1 b2 b3 b4 b5 b6) := by
  have on : ∀ {W : World} (q : Only P V W) (i : Nat) (b : Value), Only P V (W.setCell ⟨P, i, none⟩ b) := fun q i b => q.setCell rfl b
  exact on (on (on (on (on (on (on Only.refl 0 b0) 1 b1) 2 b2) 3 b3) 4 b4) 5 b5) 6 b6
end
end Go.Proofs.YtmoglaknmlhpgaaGreat
/- bailiffkeep: two policies that are the same. -/
namespace Go.Proofs.YtmoglaknmlhpgaaGreat
set_option linter.unusedVariables false
open Go.RowKit Go.Sort

section
variable {w : World} {R R' : Nat → Prop} {A A' : Option Addr} {n c n' c' : Nat}
theorem Rw.same_len {α : Type} {k k' : Nat} {P P' : List Value → α → Prop} {w : World} {R R' : Nat → Prop} {A A' : Option Addr} {n n' c c' : Nat} {l : List α} (h : Rw k P w R A n c l) (h' : Rw k' P' w R' A' n' c' l) : n = n' := by rw [← h.len, ← h'.len]
set_option maxHeartbeats 800000 in
theorem same_dut {l : List Dut} (h : Dus w R A n c l) (h' : Dus w R' A' n c' l) : Calls Tryz.prog 27 #[.slice A n c, .slice A' n c'] w fun e w' => e = .returned (.bool true) ∧ Below w.heap.size w w' := by
  have hcap := h.cap
  have hle := h.le
  have hle' := h'.le
  unfold maxLen at hcap
  have H := Lib.hid h
  have H' := Lib.hid h'
  clear h h'
  go_enter Tryz.func27, Tryz.ntmps27
  go_wp2
  go_loopw [5] (fun i wr => ∃ k : Nat, k ≤ n ∧ i = .int .i64 k ∧ ∃ q, wr = w.drewN q) (fun i _ => n - (intOf i).toNat)
  case atStart => exact ⟨0, Nat.zero_le _, rfl, 0, rfl⟩
  case round =>
    obtain ⟨k, hk, rfl, q, rfl⟩ := hrel
    by_cases hlt : k < n
    · obtain ⟨b, o, x, rfl, _, _, hx, _, ⟨x0, x1, x2⟩⟩ := H.out.at_ hlt
      obtain ⟨b', o', y, rfl, _, _, hy, _, ⟨y0, y1, y2⟩⟩ := H'.out.at_ hlt
      obtain rfl := Option.some.inj (hx.symm.trans hy)
      have hve := dut_eq x x
      simp only [decide_true] at hve
      clear hx hy
      go_wp2_with fail
      go_quiet (fail)
      go_wp2
      go_roundw
      case rel => exact ⟨k + 1, by omega, by go_num, _, rfl⟩
      case measure => simp [intOf]; omega
    · obtain rfl : k = n := by omega
      go_wp2
      go_ret
      exact ⟨rfl, below_drewN (Below.refl _ _) _⟩
end
end Go.Proofs.YtmoglaknmlhpgaaGreat
/- bailiffkeep.Few: may a request be gone through in a while? -/
namespace Go.Proofs.YtmoglaknmlhpgaaGreat
set_option linter.unusedVariables false
open Go.RowKit

def valC (v : Vl) : Nat := textC v.s
def givC (g : Giv) : Nat := textC g.name + g.bag.length + sumC valC g.bag
def fewC (l : List Giv) : Nat := 2 * l.length + sumC givC l
theorem few_each {l : List Giv} (h : fewC l ≤ 1200) {g : Giv} (hg : g ∈ l) : g.name.size ≤ 9600 ∧ g.bag.length ≤ 1200 ∧ ∀ v ∈ g.bag, v.s.size ≤ 9600 := by
  have h1 := sumC_mem (f := givC) hg
  unfold fewC at h
  have e : givC g = textC g.name + g.bag.length + sumC valC g.bag := rfl
  have e2 : textC g.name = 1 + g.name.size / 8 := rfl
  refine ⟨by omega, by omega, fun v hv => ?_⟩
  have h2 := sumC_mem (f := valC) hv
  have e3 : valC v = 1 + v.s.size / 8 := rfl
  omega
theorem few_len {l : List Giv} (h : fewC l ≤ 1200) : l.length ≤ 600 := by unfold fewC at h; omega

set_option maxHeartbeats 1600000 in
theorem few_any {w : World} {R : Nat → Prop} {A : Option Addr} {n c : Nat} {l : List Giv} (h0 : Gvs w R A n c l) :
    Calls Tryz.prog 15 #[.slice A n c] w fun e w' => e = .returned (.bool (decide (fewC l ≤ 1200))) ∧ Below w.heap.size w w' := by
  have hb0 : Below w.heap.size w (w.alloc (.cells #[.int .i64 1200] 82)) := (Below.refl _ _).alloc (Nat.le_refl _) _
  have h : Gvs (w.alloc (.cells #[.int .i64 1200] 82)) (fun b => b < w.heap.size) A n c l := h0.keep (Kept.all hb0 R) (fun b _ hb => hb)
  have hl : Lf (w.alloc (.cells #[.int .i64 1200] 82)) w.heap.size 1200 := Ob.made w _ _
  have hR : ∀ b, b < w.heap.size → b ≠ w.heap.size := fun b hb => by omega
  have hle := Rw.le h
  have hcap := Rw.cap h
  have hbig := Rw.big h
  have HL := Lib.hid (Rw.len h)
  have HT := Lib.hid (takes_any (n := 2 * n) hl (by omega) (by unfold maxLen; omega))
  unfold Taking at HT
  rw [show ((2 * n : Nat) : Int) = 2 * (n : Int) by omega] at HT
  have H := Lib.hid h
  have HR := Lib.hid hR
  have HB0 := Lib.hid hb0
  have HC : Hid (fewC l = 2 * n + sumC givC l) := by show fewC l = _; unfold fewC; rw [HL.out]
  unfold maxLen at hcap
  generalize hcc : fewC l = cc at *
  have HG : Hid (∀ W, Only w.heap.size (w.alloc (.cells #[.int .i64 1200] 82)) W → Below w.heap.size w W) := Lib.hid (fun W hW => hb0.trans (hW.below (by simp) (Nat.le_refl _)))
  clear hcc h hl hR hb0 h0
  generalize hg : w.heap.size = g at *
  by_cases h1 : 2 * n ≤ 1200
  · rw [decide_eq_true h1] at HT
    have H1 := Lib.hid h1
    clear h1
    go_enter Tryz.func15, Tryz.ntmps15
    go_wp2_with (go_at_call 29; refine HT.out.mono ?_; rintro e w1 ⟨rfl, hb, hw⟩; have B1 := Lib.hid hb; have W1 := Lib.hid (hw H1.out); clear hb hw)
    go_loopw [18] (fun i wr => ∃ k mk : Nat, k ≤ n ∧ i = .int .i64 k ∧ sumC givC (l.take k) + mk = 1200 - 2 * n ∧ Lf wr g mk ∧ Only g (w.alloc (.cells #[.int .i64 1200] 82)) wr) (fun i _ => n - (intOf i).toNat)
    case atStart => exact ⟨0, 1200 - 2 * n, Nat.zero_le _, rfl, by rw [sumC_zero]; omega, W1.out, B1.out⟩
    case round =>
      obtain ⟨wo, hwo⟩ : ∃ wo, wo = wr := ⟨wr, rfl⟩
      subst hwo
      obtain ⟨k, mk, hk, rfl, hs, hlf, hb⟩ := hrel
      have HS := Lib.hid hs
      have HB := Lib.hid hb
      have HF := Lib.hid hlf
      clear hs hb hlf
      by_cases hlt : k < n
      · obtain ⟨b, o, x, A', n', c', rfl, hRb, hbl, hx, hok, ⟨c0, c1, c2⟩, hin⟩ := (H.out.keep (HB.out.kept HR.out) (fun _ h _ => h)).at_ hlt
        have HX := Lib.hid hx
        have hle' := Rw.le hin
        have hcap' := Rw.cap hin
        have hbig' := Rw.big hin
        have HL' := Lib.hid (Rw.len hin)
        have HIN := Lib.hid hin
        have HSX := Lib.hid (sumC_le (f := givC) hx)
        have HEX : Hid (givC x = textC x.name + n' + sumC valC x.bag) := by show givC x = _; unfold givC; rw [HL'.out]
        have HXT := Lib.hid (ktext_any x.name (HF.out.alloc (.cells #[.int .i64 x.cat, .string x.name, .slice A' n' c'] 78)) (by have := HS.out; omega) hok.2)
        unfold Taking at HXT
        have hne : wo.heap.size ≠ g := by have := HF.out.lt; omega
        unfold maxLen at hcap'
        clear hx hok hin
        by_cases h2 : textC x.name ≤ mk
        · rw [decide_eq_true h2] at HXT
          have H2 := Lib.hid h2
          clear h2
          by_cases h3 : n' ≤ mk - textC x.name
          · have d3 := decide_eq_true h3
            have H3 := Lib.hid h3
            clear h3
            go_wp2_with (first
              | (go_at_call 30; (with_reducible refine HXT.out.mono ?_); rintro e w2 ⟨rfl, hb, hw⟩; have B2 := Lib.hid hb; have W2 := Lib.hid (hw H2.out); have BX := Lib.hid ((Ob.made wo 78 #[.int .i64 x.cat, .string x.name, .slice A' n' c']).keep (hb.heap (by simp) hne)); have g2 := BX.out.cell 2; have HT3 := Lib.hid (takes_any (n := n') W2.out (by have := HS.out; omega) (by unfold maxLen; omega)); unfold Taking at HT3; rw [d3] at HT3; clear hb hw)
              | (go_at_call 29; (with_reducible refine HT3.out.mono ?_); rintro e w3 ⟨rfl, hb, hw⟩; have B3 := Lib.hid hb; have W3 := Lib.hid (hw H3.out); have BX3 := Lib.hid (BX.out.keep (hb.heap BX.out.lt hne)); have g3 := BX3.out.cell 2; clear hb hw))
            go_loopw [38] (fun i wq => ∃ k2 m2 : Nat, k2 ≤ n' ∧ i = .int .i64 k2 ∧ sumC valC (x.bag.take k2) + m2 = mk - textC x.name - n' ∧ Lf wq g m2 ∧ Only g wo wq) (fun i _ => n' - (intOf i).toNat)
            case atStart => exact ⟨0, mk - textC x.name - n', Nat.zero_le _, rfl, by rw [sumC_zero]; omega, W3.out, (Only.alloc _ _ _).trans (B2.out.trans B3.out)⟩
            case round =>
              obtain ⟨wq, hwq⟩ : ∃ wq, wq = wr := ⟨wr, rfl⟩
              subst hwq
              obtain ⟨k2, m2, hk2, rfl, hs, hlf, hb⟩ := hrel
              have HS2 := Lib.hid hs
              have HB2 := Lib.hid hb
              have HF2 := Lib.hid hlf
              clear hs hb hlf
              by_cases hlt2 : k2 < n'
              · obtain ⟨b2, o2, y, rfl, hRb2, hbl2, hy, hoky, ⟨f0, f1, f2⟩⟩ := (HIN.out.keep (HB2.out.kept HR.out) (fun _ h _ => h)).at_ hlt2
                have HY := Lib.hid hy
                have HSY := Lib.hid (sumC_le (f := valC) hy)
                have HEY : Hid (valC y = textC y.s) := rfl
                have HYT := Lib.hid (ktext_any y.s (HF2.out.alloc (.cells #[.int .i64 y.k, .int .i64 y.n, .string y.s] 40)) (by have := HS2.out; have := HS.out; omega) hoky.2.2)
                unfold Taking at HYT
                clear hy hoky
                by_cases h4 : textC y.s ≤ m2
                · rw [decide_eq_true h4] at HYT
                  have H4 := Lib.hid h4
                  clear h4
                  go_wp2_with (go_at_call 30; (with_reducible refine HYT.out.mono ?_); rintro e w4 ⟨rfl, hb, hw⟩; have B4 := Lib.hid hb; have W4 := Lib.hid (hw H4.out); clear hb hw)
                  go_roundw
                  case rel => exact ⟨k2 + 1, m2 - textC y.s, by omega, by go_num, by rw [sumC_take HY.out, HEY.out]; have := HS2.out; have := H4.out; omega, W4.out, HB2.out.trans ((Only.alloc _ _ _).trans B4.out)⟩
                  case measure => simp [intOf]; omega
                · rw [decide_eq_false h4] at HYT
                  have H4 := Lib.hid h4
                  clear h4
                  go_wp2_with (go_at_call 30; (with_reducible refine HYT.out.mono ?_); rintro e w4 ⟨rfl, hb, hw⟩; have B4 := Lib.hid hb; clear hb hw)
                  go_ret
                  have hbad : ¬ cc ≤ 1200 := by
                    have := HC.out; have := HS.out; have := H1.out; have := HSX.out; have := HEX.out; have := H2.out; have := H3.out; have := HS2.out; have := HSY.out; have := HEY.out; have := H4.out
                    omega
                  exact ⟨ret_bool (decide_eq_false hbad).symm, HG.out _ (HB.out.trans (HB2.out.trans ((Only.alloc _ _ _).trans B4.out)))⟩
              · obtain rfl : k2 = n' := by omega
                go_wp2
                go_roundw
                case rel => exact ⟨k + 1, m2, by omega, by go_num, by rw [sumC_take HX.out, HEX.out]; have := HS2.out; rw [sumC_all HL'.out] at this; have := HS.out; have := H2.out; have := H3.out; omega, HF2.out, HB.out.trans HB2.out⟩
                case measure => simp [intOf]; omega
          · have d3 := decide_eq_false h3
            have H3 := Lib.hid h3
            clear h3
            go_wp2_with (first
              | (go_at_call 30; (with_reducible refine HXT.out.mono ?_); rintro e w2 ⟨rfl, hb, hw⟩; have B2 := Lib.hid hb; have W2 := Lib.hid (hw H2.out); have BX := Lib.hid ((Ob.made wo 78 #[.int .i64 x.cat, .string x.name, .slice A' n' c']).keep (hb.heap (by simp) hne)); have g2 := BX.out.cell 2; have HT3 := Lib.hid (takes_any (n := n') W2.out (by have := HS.out; omega) (by unfold maxLen; omega)); unfold Taking at HT3; rw [d3] at HT3; clear hb hw)
              | (go_at_call 29; (with_reducible refine HT3.out.mono ?_); rintro e w3 ⟨rfl, hb, hw⟩; have B3 := Lib.hid hb; clear hb hw))
            go_ret
            have hbad : ¬ cc ≤ 1200 := by
              have := HC.out; have := HS.out; have := H1.out; have := HSX.out; have := HEX.out; have := H2.out; have := H3.out
              omega
            exact ⟨ret_bool (decide_eq_false hbad).symm, HG.out _ (HB.out.trans ((Only.alloc _ _ _).trans (B2.out.trans B3.out)))⟩
        · rw [decide_eq_false h2] at HXT
          have H2 := Lib.hid h2
          clear h2
          go_wp2_with (go_at_call 30; (with_reducible refine HXT.out.mono ?_); rintro e w2 ⟨rfl, hb, hw⟩; have B2 := Lib.hid hb; clear hb hw)
          go_ret
          have hbad : ¬ cc ≤ 1200 := by
            have := HC.out; have := HS.out; have := H1.out; have := HSX.out; have := HEX.out; have := H2.out
            omega
          exact ⟨ret_bool (decide_eq_false hbad).symm, HG.out _ (HB.out.trans ((Only.alloc _ _ _).trans B2.out))⟩
      · obtain rfl : k = n := by omega
        go_wp2
        go_ret
        have hs := HS.out
        rw [sumC_all HL.out] at hs
        have := HC.out
        have := H1.out
        exact ⟨ret_bool (decide_eq_true (by omega)).symm, HG.out _ HB.out⟩
  · rw [decide_eq_false h1] at HT
    have H1 := Lib.hid h1
    clear h1
    go_enter Tryz.func15, Tryz.ntmps15
    go_wp2_with (go_at_call 29; refine HT.out.mono ?_; rintro e w1 ⟨rfl, hb, hw⟩; have B1 := Lib.hid hb; clear hb hw)
    go_ret
    have hbad : ¬ cc ≤ 1200 := by have := HC.out; have := H1.out; omega
    exact ⟨ret_bool (decide_eq_false hbad).symm, HG.out _ B1.out⟩
end Go.Proofs.YtmoglaknmlhpgaaGreat
/- bailiffkeep.Asks: a request in new memory. -/
namespace Go.Proofs.YtmoglaknmlhpgaaGreat
set_option linter.unusedVariables false
open Go.RowKit

def Og (w : World) (base : Nat) (A : Option Addr) (n c : Nat) (l : List Giv) : Prop := Ow 3 (GivAt w (Nb 0 (.slice A n c))) w base 78 A n c l ∧ base ≤ w.heap.size
theorem Og.below {w w' : World} {base n c : Nat} {A : Option Addr} {l : List Giv} (h : Og w base A n c l) (hb : Below w.heap.size w w') : Og w' base A n c l :=
  ⟨(h.1.mapP (fun vs x _ hp => hp.keep (Kept.all hb _) (fun _ h _ => h))).below hb, Nat.le_trans h.2 hb.size⟩
theorem Og.gvs {w : World} {base n c : Nat} {A : Option Addr} {l : List Giv} (h : Og w base A n c l) (hn : n ≤ 1000000) : Gvs w (fun _ => True) A n c l :=
  (h.1.mapP (fun vs x _ hp => hp.keep (Kept.refl _ _) (fun _ _ _ => trivial))).rw (by omega) (fun _ _ _ => trivial)
theorem Og.push {w : World} {base n c : Nat} {A : Option Addr} {l : List Giv} {A1 : Option Addr} {n1 c1 : Nat} {g : Giv} (h : Og w base A n c l) (hok : g.ok) (hx : Vls w (Nb 0 (.slice A n c)) A1 n1 c1 g.bag) (hn : n < 1000000) :
    ∃ A' c' w', (Builtin.append_ #[37, 37] 37 #[.slice A n c, .slice (some ⟨w.heap.size, 0, none⟩) 1 1]).run Tryz.prog (w.alloc (.cells #[.int .i64 g.cat, .string g.name, .slice A1 n1 c1] 78)) = .ok (.slice A' (n + 1) c') w' ∧ Og w' base A' (n + 1) c' (l ++ [g]) ∧ Below base w w' := by
  obtain ⟨i, hi, hz, hs, hb⟩ := info_of givinfo
  have hbase := h.2
  have a1 : Below w.heap.size w (w.alloc (.cells #[.int .i64 g.cat, .string g.name, .slice A1 n1 c1] 78)) := (Below.refl _ _).alloc (Nat.le_refl _) _
  have h' := Og.below h a1
  have hlit : Rw 3 (GivAt (w.alloc (.cells #[.int .i64 g.cat, .string g.name, .slice A1 n1 c1] 78)) (Nb 0 (.slice A n c))) (w.alloc (.cells #[.int .i64 g.cat, .string g.name, .slice A1 n1 c1] 78)) (fun _ => True) (some ⟨w.heap.size, 0, none⟩) 1 1 [g] := by
    have := Rw.lit (P := GivAt (w.alloc (.cells #[.int .i64 g.cat, .string g.name, .slice A1 n1 c1] 78)) (Nb 0 (.slice A n c))) (R := fun _ => True) w 78 (fun _ => [.int .i64 g.cat, .string g.name, .slice A1 n1 c1]) [g] (n := 1) rfl (by omega) trivial (fun _ _ => rfl) (fun y hy => by simp at hy; subst hy; exact GivAt.keep ⟨A1, n1, c1, rfl, hok, hx⟩ (Kept.all a1 _) (fun _ h _ => h))
    simpa using this
  obtain ⟨A', c', w', hrun, hown, hbel, hg, hob⟩ := Ow.app (ty := 37) Tryz.underlying37 hi hz hs hb rfl (by omega) (by omega) h'.1 hlit (GivAt.one) (by omega) h'.2
  refine ⟨A', c', w', hrun, ⟨hown.mapP fun vs x _ hp => hp.keep ⟨hg.size, fun b hR hlt => hg.block b hlt hR.2⟩ (fun b hR hlt => ⟨hR.1, ?_⟩), Nat.le_trans h'.2 hbel.size⟩, (a1.mono hbase).trans hbel⟩
  rcases hob with e | e
  · rw [e]; exact hR.2
  · rw [e]
    intro he
    injection he with he
    omega

def FewB (l : List Giv) : Prop := ∀ g ∈ l, g.bag.length ≤ 100000
end Go.Proofs.YtmoglaknmlhpgaaGreat
/- apart: the same attribute in memory of its own. -/
namespace Go.Proofs.YtmoglaknmlhpgaaGreat
set_option linter.unusedVariables false
open Go.RowKit Go.Sort

end Go.Proofs.YtmoglaknmlhpgaaGreat
/- A store of an attribute into a row of the call's own. -/
namespace Go.Proofs.YtmoglaknmlhpgaaGreat
set_option linter.unusedVariables false
open Go.RowKit

end Go.Proofs.YtmoglaknmlhpgaaGreat
/- With: a request with one more attribute, or another one in its place. -/
namespace Go.Proofs.YtmoglaknmlhpgaaGreat
set_option linter.unusedVariables false
open Go.RowKit

def ShortN (l : List Giv) : Prop := ∀ g ∈ l, g.name.size ≤ 1000000
end Go.Proofs.YtmoglaknmlhpgaaGreat
/- Requests that may be gone through in a while: none of their parts is long. -/
namespace Go.Proofs.YtmoglaknmlhpgaaGreat
set_option linter.unusedVariables false
open Go.RowKit

theorem few_short {l : List Giv} (h : fewC l ≤ 1200) : ShortG l := fun g hg => by
  obtain ⟨h1, h2, h3⟩ := few_each h hg
  exact ⟨fun v hv => by have := h3 v hv; omega, by omega⟩
theorem few_bags {l : List Giv} (h : fewC l ≤ 1200) : FewB l := fun g hg => by
  obtain ⟨h1, h2, h3⟩ := few_each h hg
  omega
theorem few_names {l : List Giv} (h : fewC l ≤ 1200) : ShortN l := fun g hg => by
  obtain ⟨h1, h2, h3⟩ := few_each h hg
  omega
theorem one_giv {w : World} {R : Nat → Prop} {A : Option Addr} {n c : Nat} (g : Giv) (hok : g.ok) (h : Vls w R A n c g.bag) : Gvs (w.alloc (.cells #[.int .i64 g.cat, .string g.name, .slice A n c] 78)) (fun _ => True) (some ⟨w.heap.size, 0, none⟩) 1 1 [g] := by
  have a1 : Below w.heap.size w (w.alloc (.cells #[.int .i64 g.cat, .string g.name, .slice A n c] 78)) := (Below.refl _ _).alloc (Nat.le_refl _) _
  have := Rw.lit (P := GivAt (w.alloc (.cells #[.int .i64 g.cat, .string g.name, .slice A n c] 78)) (fun _ => True)) (R := fun _ => True) w 78 (fun _ => [.int .i64 g.cat, .string g.name, .slice A n c]) [g] (n := 1) rfl (by omega) trivial (fun _ _ => rfl) (fun y hy => by simp at hy; subst hy; exact GivAt.keep ⟨A, n, c, rfl, hok, h⟩ (Kept.all a1 _) (fun _ _ _ => trivial))
  exact this
theorem Gr.gvs {w : World} {base n c : Nat} {A : Option Addr} {l : List Giv} (h : Gr 3 GivAt w base 78 A n c l) (hn : n ≤ 1000000) : Gvs w (fun b => base ≤ b) A n c l := Gr.rw keeps_giv h (by omega)
theorem with_short {l : List Giv} {g : Giv} (h : ShortG l) (hg : Shorts g.bag ∧ g.bag.length ≤ 100000) : ShortG (withA l g) := fun x hx => by
  rcases with_mem hx with rfl | hx
  · exact hg
  · exact h x hx
theorem with_names {l : List Giv} {g : Giv} (h : ShortN l) (hg : g.name.size ≤ 1000000) : ShortN (withA l g) := fun x hx => by
  rcases with_mem hx with rfl | hx
  · exact hg
  · exact h x hx
theorem right_one {g : Giv} (h : rightA [g] = 0) : attrB ⟨g.cat, g.name, false⟩ = true ∧ bagB g.bag = true := (right_iff.1 h).2.1 g (by simp)
theorem with_getE {l : List Giv} {g : Giv} {a : Atr} (h : ¬ (a.cat = g.cat ∧ a.name = g.name)) : getE (withA l g) a = getE l a := by
  unfold getE getB
  rw [with_other h]
theorem with_getR {l : List Giv} {g : Giv} {a : Atr} (h : ¬ (a.cat = g.cat ∧ a.name = g.name)) : getR (withA l g) a = getR l a := by
  unfold getR
  rw [with_getE h]
  unfold getB
  rw [with_other h]
theorem with_get {l : List Giv} {g : Giv} : getE (withA l g) ⟨g.cat, g.name, false⟩ = 0 ∧ getR (withA l g) ⟨g.cat, g.name, false⟩ = g.bag := by
  have e : getE (withA l g) ⟨g.cat, g.name, false⟩ = 0 := by unfold getE; simp
  refine ⟨e, ?_⟩
  unfold getR
  rw [if_pos e]
  exact with_idx.2.1
end Go.Proofs.YtmoglaknmlhpgaaGreat
/- The helpers of stage 14's statements: read, x; bailiffkeep.Results of two that are the same. -/
namespace Go.Proofs.YtmoglaknmlhpgaaGreat
set_option linter.unusedVariables false
open Go.RowKit
attribute [local go_sem] eq0 feq2 eq4 fgt0 gt2 ord_eq ord_gt ord_lt ev_store

set_option maxRecDepth 100000 in
set_option maxHeartbeats 3200000 in
theorem evread_any {w : World} {s : ByteArray} {p : Pol} {e i : Int} (h : parseR s = (p, e, i)) (hs : s.size ≤ maxLen) :
    Calls Tryz.prog 10 #[.string s] w fun x w' => ∃ A1 n1 c1 A2 n2 c2 A3 n3 c3 A4 n4 c4, x = .returned (.agg #[.string p.id, .bool p.set, .int .i64 p.alg, .slice A1 n1 c1, .slice A2 n2 c2, .slice A3 n3 c3, .slice A4 n4 c4]) ∧ Below w.heap.size w w' ∧
      PolIn w' (fun _ => True) p A1 n1 c1 A2 n2 c2 A3 n3 c3 A4 n4 c4 := by
  have HP := Lib.hid (fun W => parse_is (w := W) h hs)
  have OB := Lib.hid (Ob.made w 28 #[.string ⟨#[]⟩, .bool false, .int .i64 0, .slice none 0 0, .slice none 0 0, .slice none 0 0, .slice none 0 0])
  have D1 := Lib.hid ((Below.refl w.heap.size w).alloc (Nat.le_refl _) (.cells #[.string ⟨#[]⟩, .bool false, .int .i64 0, .slice none 0 0, .slice none 0 0, .slice none 0 0, .slice none 0 0] 28))
  clear h hs
  go_enter Tryz.func10, Tryz.ntmps10
  go_wp2_with fail
  refine (HP.out _).mono ?_
  rintro x w1 ⟨y, rfl, hb, A1, n1, c1, A2, n2, c2, A3, n3, c3, A4, n4, c4, rfl, hp0⟩
  have hp := PolAt.in_ hp0
  clear hp0
  have D2 := below_step D1.out hb
  have OZ := OB.out.below hb OB.out.lt
  have hlt : w.heap.size < w1.heap.size := by have := hb.size; rw [size_al] at this; omega
  clear hb
  have OZ2 := OZ.keep (w' := w1.alloc (.cells #[.string p.id, .bool p.set, .int .i64 p.alg, .slice A1 n1 c1, .slice A2 n2 c2, .slice A3 n3 c3, .slice A4 n4 c4] 28)) (Below.heap_alloc _ _ _ hlt)
  have OP := Ob.made w1 28 #[.string p.id, .bool p.set, .int .i64 p.alg, .slice A1 n1 c1, .slice A2 n2 c2, .slice A3 n3 c3, .slice A4 n4 c4]
  have P7 := put7_ob OZ2 (.string p.id) (.bool p.set) (.int .i64 p.alg) (.slice A1 n1 c1) (.slice A2 n2 c2) (.slice A3 n3 c3) (.slice A4 n4 c4)
  have PO := put7_only (V := w1.alloc (.cells #[.string p.id, .bool p.set, .int .i64 p.alg, .slice A1 n1 c1, .slice A2 n2 c2, .slice A3 n3 c3, .slice A4 n4 c4] 28)) (P := w.heap.size) (.string p.id) (.bool p.set) (.int .i64 p.alg) (.slice A1 n1 c1) (.slice A2 n2 c2) (.slice A3 n3 c3) (.slice A4 n4 c4)
  have DF : Below w.heap.size w (put7W (w1.alloc (.cells #[.string p.id, .bool p.set, .int .i64 p.alg, .slice A1 n1 c1, .slice A2 n2 c2, .slice A3 n3 c3, .slice A4 n4 c4] 28)) w.heap.size (.string p.id) (.bool p.set) (.int .i64 p.alg) (.slice A1 n1 c1) (.slice A2 n2 c2) (.slice A3 n3 c3) (.slice A4 n4 c4)) :=
    (D2.alloc (by omega) _).trans (PO.below (by rw [size_al]; omega) (Nat.le_refl _))
  have HPN : PolIn (w1.alloc (.cells #[.string p.id, .bool p.set, .int .i64 p.alg, .slice A1 n1 c1, .slice A2 n2 c2, .slice A3 n3 c3, .slice A4 n4 c4] 28)) (fun b => b ≠ w.heap.size) p A1 n1 c1 A2 n2 c2 A3 n3 c3 A4 n4 c4 :=
    (hp.then_ ((Below.refl _ _).alloc (Nat.le_refl _) _)).keep (Kept.refl _ _) (fun b hb _ => by have h1 := hb; simp only [size_al] at h1; show b ≠ _; omega)
  have HPF := HPN.keep (R' := fun _ => True) (PO.kept9 (fun b hb => hb)) (fun _ _ _ => trivial)
  simp only [put7W, put1W, put2W, put3W, put4W, put5W, put6W] at P7 PO DF HPF
  have P7' := Lib.hid P7
  have DF' := Lib.hid DF
  have HPF' := Lib.hid HPF
  have q0 := OP.cell 0
  have q1 := OP.cell 1
  have q2 := OP.cell 2
  have q3 := OP.cell 3
  have q4 := OP.cell 4
  have q5 := OP.cell 5
  have q6 := OP.cell 6
  have z0 := OZ2.cell 0
  have z1 := OZ2.cell 1
  have z2 := OZ2.cell 2
  have z3 := OZ2.cell 3
  have z4 := OZ2.cell 4
  have z5 := OZ2.cell 5
  have z6 := OZ2.cell 6
  have f0 := OZ2.frozen 0
  have f1 := OZ2.frozen 1
  have f2 := OZ2.frozen 2
  have f3 := OZ2.frozen 3
  have f4 := OZ2.frozen 4
  have f5 := OZ2.frozen 5
  have f6 := OZ2.frozen 6
  clear OZ OZ2 OP P7 PO DF HPF HPN hp D2 hlt
  go_wp2_with fail
  try simp only [Exit.inBlock, Exit.then]
  refine bodyPost_ret (pol_ret rfl rfl P7'.out) rfl ?_
  exact ⟨A1, n1, c1, A2, n2, c2, A3, n3, c3, A4, n4, c4, rfl, DF'.out, HPF'.out⟩
theorem evx_any {w : World} {R : Nat → Prop} {A : Option Addr} {n c : Nat} {l : List Vl} (h : Vls w R A n c l) :
    Calls Tryz.prog 12 #[.slice A n c] w fun e w' => ∃ A', e = .returned (.slice A' 1 1) ∧ Below w.heap.size w w' ∧ Gvs w' (fun _ => True) A' 1 1 [⟨3, ⟨#[120]⟩, l⟩] := by
  have HX := Lib.hid (one_giv ⟨3, ⟨#[120]⟩, l⟩ ⟨(by decide : InI 3), (by decide : (⟨#[120]⟩ : ByteArray).size ≤ maxLen)⟩ h)
  clear h
  go_enter Tryz.func12, Tryz.ntmps12
  go_wp2_with fail
  go_ret
  exact ⟨_, rfl, (Below.refl _ _).alloc (Nat.le_refl _) _, HX.out⟩
set_option maxHeartbeats 1600000 in
theorem evsame_any {w : World} {R R' : Nat → Prop} {A A' : Option Addr} {n c n' c' : Nat} {l : List Dut} (p d : Fin 5) (h : Dus w R A n c l) (h' : Dus w R' A' n' c' l) :
    Calls Tryz.prog 13 #[.agg #[.complex .f64 (fl p) (fl d), .slice A n c], .agg #[.complex .f64 (fl p) (fl d), .slice A' n' c']] w fun e w' => e = .returned (.bool true) ∧ Below w.heap.size w w' := by
  obtain rfl := Rw.same_len h h'
  have a1 : Below w.heap.size w (w.alloc (.cells #[.complex .f64 (fl p) (fl d), .slice A n c] 33)) := (Below.refl w.heap.size w).alloc (Nat.le_refl _) _
  have D2 := a1.alloc (by rw [size_al]; omega) (.cells #[.complex .f64 (fl p) (fl d), .slice A' n c'] 33)
  have HS := Lib.hid (same_dut (h.keep (Kept.all D2 R) (fun _ h _ => h)) (h'.keep (Kept.all D2 R') (fun _ h _ => h)))
  have OA := (Ob.made w 33 #[.complex .f64 (fl p) (fl d), .slice A n c]).keep (w' := (w.alloc (.cells #[.complex .f64 (fl p) (fl d), .slice A n c] 33)).alloc (.cells #[.complex .f64 (fl p) (fl d), .slice A' n c'] 33)) (Below.heap_alloc _ _ _ (by rw [size_al]; omega))
  have OC := Ob.made (w.alloc (.cells #[.complex .f64 (fl p) (fl d), .slice A n c] 33)) 33 #[.complex .f64 (fl p) (fl d), .slice A' n c']
  rw [size_al] at OC
  have q0 := OA.cell 0
  have q1 := OA.cell 1
  have z0 := OC.cell 0
  have z1 := OC.cell 1
  have DD := Lib.hid D2
  clear OA OC D2 a1 h h'
  go_enter Tryz.func13, Tryz.ntmps13
  go_wp2_with fail
  refine HS.out.mono ?_
  rintro e w' ⟨rfl, hb⟩
  have B2 := Lib.hid (below_step DD.out hb)
  clear hb
  go_wp2_with fail
  go_ret
  exact ⟨rfl, B2.out⟩
theorem evsame_at {w : World} {R R' : Nat → Prop} {A A' : Option Addr} {n c n' c' x y x' y' : Nat} {l l' : List Dut} {m m' : Mk} (hx : (.complex .f64 x y : Value) = mcell m) (hy : (.complex .f64 x' y' : Value) = mcell m') (hm : m = m') (hl : l = l') (h : Dus w R A n c l) (h' : Dus w R' A' n' c' l') :
    Calls Tryz.prog 13 #[.agg #[.complex .f64 x y, .slice A n c], .agg #[.complex .f64 x' y', .slice A' n' c']] w fun e w' => e = .returned (.bool true) ∧ Below w.heap.size w w' := by
  subst hm hl
  rw [hx, hy]
  exact evsame_any m.1 m.2 h h'
theorem mc_na : (.complex .f64 0 0 : Value) = mcell (0, 0) := by unfold mcell; rw [fl0]
theorem mc_p : (.complex .f64 4607182418800017408 0 : Value) = mcell (4, 0) := by unfold mcell; rw [fl0, fl4]
theorem mc_d : (.complex .f64 0 4607182418800017408 : Value) = mcell (0, 4) := by unfold mcell; rw [fl0, fl4]
theorem mc_dp : (.complex .f64 4602678819172646912 4602678819172646912 : Value) = mcell (2, 2) := by unfold mcell; rw [fl2]
theorem mc_ip : (.complex .f64 4602678819172646912 0 : Value) = mcell (2, 0) := by unfold mcell; rw [fl0, fl2]
theorem mc_id : (.complex .f64 0 4602678819172646912 : Value) = mcell (0, 2) := by unfold mcell; rw [fl0, fl2]
end Go.Proofs.YtmoglaknmlhpgaaGreat
/- The parser, plainly: closed texts are read by reckoning. -/
namespace Go.Proofs.YtmoglaknmlhpgaaGreat
set_option linter.unusedVariables false

def lexF : Nat → List UInt8 → Nat → Except Nat (List Tk)
  | 0, _, _ => .error 0
  | n + 1, [], p => .ok [⟨7, p, 0, ⟨#[]⟩⟩]
  | n + 1, c :: r, p => if blk c = true then lexF n r (p + 1) else
      match tokB (c :: r) with
      | none => .error p
      | some (k, m, s, j) => cat [⟨k, p, m, ⟨s.toArray⟩⟩] (lexF n ((c :: r).drop j) (p + j))
theorem lexF_eq : ∀ (n : Nat) (l : List UInt8) (p : Nat), l.length < n → lexF n l p = lexB l p
  | 0, _, _, h => by omega
  | n + 1, [], p, h => by rw [lexB_nil]; rfl
  | n + 1, c :: r, p, h => by
    simp only [List.length_cons] at h
    unfold lexF
    cases hb : blk c with
    | true => rw [if_pos rfl, lexB_blank hb, lexF_eq n r (p + 1) (by omega)]
    | false =>
      rw [if_neg (by simp)]
      cases hq : tokB (c :: r) with
      | none => rw [lexB_bad hb hq]
      | some q =>
        obtain ⟨k, m, s, j⟩ := q
        have := (tokB_pos hq).1
        rw [lexB_tok hb hq]
        simp only
        rw [lexF_eq n _ (p + j) (by simp only [List.length_drop, List.length_cons]; omega)]
def parseF (n : Nat) (l : List UInt8) : Pol × Int × Int :=
  if 4096 < l.length then (noPol, 6, 4096) else
  match lexF n l 0 with
  | .error p => (noPol, 5, (p : Int))
  | .ok ts =>
    let u := polR 5 ⟨ts, 0, 0, 0⟩
    let z := endR u.2
    if z.err = 0 then (if rightE u.1 = 0 then (u.1, 0, 0) else (noPol, 5, (l.length : Int))) else (noPol, z.err, z.at_)
theorem parseF_eq (s : ByteArray) : parseR s = parseF (s.data.toList.length + 1) s.data.toList := by
  unfold parseR parseF
  rw [lexF_eq _ _ 0 (Nat.lt_succ_self _)]
  rfl
theorem parse_eval {s : ByteArray} {n : Nat} {x : Pol × Int × Int} (h : parseF (n + 1) s.data.toList = x) (hn : s.data.toList.length = n) : parseR s = x := by
  rw [parseF_eq, hn, h]
end Go.Proofs.YtmoglaknmlhpgaaGreat
/- Chapter 14's runs, plainly: the policy that is read, and what it comes to. -/
namespace Go.Proofs.YtmoglaknmlhpgaaGreat
set_option linter.unusedVariables false

def evO1 : Dut := ⟨1, 1, ⟨#[97]⟩⟩
def evO2 : Dut := ⟨2, 4, ⟨#[98]⟩⟩
def evO3 : Dut := ⟨1, 3, ⟨#[99]⟩⟩
def evR1 : Rul := ⟨⟨#[114]⟩, false, [], [], [evO1]⟩
def evR2 : Rul := ⟨⟨#[100]⟩, true, [[[⟨⟨3, ⟨#[120]⟩, false⟩, 1, ⟨2, 1, ⟨#[]⟩⟩⟩]]], [], [evO2]⟩
def evP : Pol := .mk ⟨#[112]⟩ false 1 [] [evR1, evR2] [] [evO3]
theorem ev_run : parseR ⟨#[112, 111, 108, 105, 99, 121, 32, 112, 32, 100, 101, 110, 121, 111, 118, 101, 114, 32, 123, 32, 112, 101, 114, 109, 105, 116, 32, 114, 32, 111, 110, 32, 112, 101, 114, 109, 105, 116, 32, 108, 111, 103, 32, 97, 59, 32, 100, 101, 110, 121, 32, 100, 32, 119, 104, 101, 110, 32, 40, 99, 97, 115, 101, 46, 120, 32, 61, 32, 49, 41, 32, 111, 110, 32, 100, 101, 110, 121, 32, 110, 111, 116, 105, 102, 121, 32, 98, 59, 32, 125, 32, 111, 110, 32, 112, 101, 114, 109, 105, 116, 32, 114, 101, 118, 105, 101, 119, 32, 99]⟩ = (evP, 0, 0) := parse_eval (n := 109) (by kernel_rfl) (by kernel_rfl)
theorem ev_right : rightE evP = 0 := by kernel_rfl
def evA (v : Vl) : List Giv := [⟨3, ⟨#[120]⟩, [v]⟩]
theorem ev_1 : evV [] evP = ⟨(4, 0), [evO1, evO3]⟩ := by kernel_rfl
theorem ev_2 : evV (evA ⟨2, 1, ⟨#[]⟩⟩) evP = ⟨(0, 4), [evO2]⟩ := by kernel_rfl
theorem ev_3 : evV (evA ⟨3, 0, ⟨#[97]⟩⟩) evP = ⟨(2, 2), []⟩ := by kernel_rfl
end Go.Proofs.YtmoglaknmlhpgaaGreat
/- Chapter 14's runs, walked. -/
namespace Go.Proofs.YtmoglaknmlhpgaaGreat
set_option linter.unusedVariables false
open Go.RowKit
attribute [local go_sem] eq0 feq2 eq4 fgt0 gt2 ord_eq ord_gt ord_lt ev_store

theorem Ob.c7e {w : World} {g : Nat} {t : TypeId} {a b c d e f h : Value} (H : Ob w g t #[a, b, c, d, e, f, h]) :
    w.cell? ⟨g, 0, none⟩ = some a ∧ w.cell? ⟨g, 1, none⟩ = some b ∧ w.cell? ⟨g, 2, none⟩ = some c ∧ w.cell? ⟨g, 3, none⟩ = some d ∧ w.cell? ⟨g, 4, none⟩ = some e ∧ w.cell? ⟨g, 5, none⟩ = some f ∧ w.cell? ⟨g, 6, none⟩ = some h :=
  ⟨H.cell 0, H.cell 1, H.cell 2, H.cell 3, H.cell 4, H.cell 5, H.cell 6⟩
theorem evpol_is {ask : List Giv} {w : World} {R R2 : Nat → Prop} {A : Option Addr} {n c : Nat} {p : Pol} {A1 A2 A3 A4 : Option Addr} {n1 k1 n2 k2 n3 k3 n4 k4 : Nat} {vp vd : Fin 5} {vob : List Dut} (hv : evV ask p = ⟨(vp, vd), vob⟩) (hr : rightE p = 0) (h : PolIn w R p A1 n1 k1 A2 n2 k2 A3 n3 k3 A4 n4 k4) (hA : Gvs w R2 A n c ask) (hG : ShortG ask) :
    Calls Tryz.prog 11 #[.agg #[.string p.id, .bool p.set, .int .i64 p.alg, .slice A1 n1 k1, .slice A2 n2 k2, .slice A3 n3 k3, .slice A4 n4 k4], .slice A n c] w
      fun e w' => ∃ A' n' c', e = .returned (.tuple #[.agg #[.complex .f64 (fl vp) (fl vd), .slice A' n' c'], .int .i64 0]) ∧ Below w.heap.size w w' ∧ Dus w' (fun b => w.heap.size ≤ b) A' n' c' vob := by
  have := evpol_ok hr h hA hG
  rw [hv] at this
  exact this
theorem evA_short {v : Vl} (h : v.s.size ≤ 100) : ShortG (evA v) := fun g hg => by
  simp [evA] at hg
  subst hg
  exact ⟨fun x hx => by simp at hx; subst hx; omega, by show (1 : Nat) ≤ 100000; omega⟩
theorem ev_lit (w : World) (v : Vl) (hok : v.ok) : Vls (w.alloc (.cells #[.int .i64 v.k, .int .i64 v.n, .string v.s] 40)) (fun _ => True) (some ⟨w.heap.size, 0, none⟩) 1 1 [v] := by
  have := Rw.lit (k := 3) (R := fun _ => True) (P := fun vs (x : Vl) => vs = x.cells ∧ x.ok) w 40 Vl.cells [v] (n := 1) rfl (by omega) trivial (fun _ _ => rfl) (fun x hx => by simp at hx; subst hx; exact ⟨rfl, hok⟩)
  exact this
def ResIn (w : World) (g : Nat) (m : Mk) (ob : List Dut) : Prop := ∃ E f h, Ob w g 33 #[.complex .f64 (fl m.1) (fl m.2), .slice E f h] ∧ Dus w (fun _ => True) E f h ob
theorem ResIn.then_ {w w' : World} {g : Nat} {m : Mk} {ob : List Dut} (h : ResIn w g m ob) (hb : Below w.heap.size w w') : ResIn w' g m ob := by
  obtain ⟨E, f, h, h1, h2⟩ := h
  exact ⟨E, f, h, h1.below hb h1.lt, h2.keep (Kept.all hb _) (fun _ h _ => h)⟩
theorem Dus.set2x {w : World} {g : Nat} {A : Option Addr} {n c : Nat} {l : List Dut} (h : Dus w (fun b => b ≠ g) A n c l) (u v : Value) : Dus ((w.setCell ⟨g, 0, none⟩ u).setCell ⟨g, 1, none⟩ v) (fun _ => True) A n c l :=
  h.keep ⟨by simp [World.setCell], fun b hb _ => (Below.heap_setCell _ _ _ _ hb).trans (Below.heap_setCell _ _ _ _ hb)⟩ (fun b hb _ => trivial)
theorem o1_ok : evO1.ok := by decide +kernel
theorem o2_ok : evO2.ok := by decide +kernel
theorem o3_ok : evO3.ok := by decide +kernel

set_option maxRecDepth 100000 in
set_option maxHeartbeats 6400000 in
theorem evruns_any (w : World) : Calls Tryz.prog 3 #[] w fun e w' => e = .returned (.bool true) ∧ Below w.heap.size w w' := by
  go_enter Tryz.func3, Tryz.ntmps3
  go_wp2_with fail
  refine (evread_any ev_run (by decide +kernel)).mono ?_
  rintro x w1 ⟨A1, n1, c1, A2, n2, c2, A3, n3, c3, A4, n4, c4, rfl, hb, hp⟩
  have B1 := Lib.hid hb
  have HP := Lib.hid hp
  have OBP := Lib.hid (Ob.made w1 28 #[.string evP.id, .bool evP.set, .int .i64 evP.alg, .slice A1 n1 c1, .slice A2 n2 c2, .slice A3 n3 c3, .slice A4 n4 c4])
  have a1 : Below w1.heap.size w1 (w1.alloc (.cells #[.string evP.id, .bool evP.set, .int .i64 evP.alg, .slice A1 n1 c1, .slice A2 n2 c2, .slice A3 n3 c3, .slice A4 n4 c4] 28)) := (Below.refl _ _).alloc (Nat.le_refl _) _
  have HP1 := Lib.hid (hp.then_ a1)
  have BW := Lib.hid (below_step hb a1)
  have EP0 := Lib.hid (evpol_is (R2 := fun _ => True) (A := none) (n := 0) (c := 0) ev_1 ev_right HP1.out (Rw.nil_ _ _ _ _) (fun g hg => by cases hg))
  have q0 := OBP.out.c7e
  clear hb hp a1
  go_wp2_with fail
  refine EP0.out.mono ?_
  rintro x w2 ⟨E1, e2, e3, rfl, hb, hd⟩
  have a2 : Below w2.heap.size w2 (w2.alloc (.cells #[.complex .f64 (fl 4) (fl 0), .slice E1 e2 e3] 33)) := (Below.refl _ _).alloc (Nat.le_refl _) _
  have hb2 := below_step hb a2
  have RA0 : ResIn (w2.alloc (.cells #[.complex .f64 (fl 4) (fl 0), .slice E1 e2 e3] 33)) w2.heap.size (4, 0) [evO1, evO3] := ⟨E1, e2, e3, Ob.made _ _ _, hd.keep (Kept.all a2 _) (fun _ _ _ => trivial)⟩
  have RA := Lib.hid RA0
  have OB2 := Lib.hid (OBP.out.below hb2 OBP.out.lt)
  have HP2 := Lib.hid (HP1.out.then_ hb2)
  have BW2 := Lib.hid (below_step BW.out hb2)
  clear hb hd a2 hb2 RA0 q0 EP0 OBP HP1
  go_upto_region 3 with fail
  obtain ⟨W3, hW3⟩ : ∃ W3, (w2.alloc (.cells #[.complex .f64 (fl 4) (fl 0), .slice E1 e2 e3] 33)) = W3 := ⟨_, rfl⟩
  rw [hW3] at RA OB2 HP2 BW2
  rw [hW3]
  clear hW3
  have EPK := Lib.hid (fun V (hV : Below W3.heap.size W3 V) (A : Option Addr) (h : Gvs V (fun _ => True) A 1 1 (evA ⟨2, 1, ⟨#[]⟩⟩)) => evpol_is ev_2 ev_right (HP2.out.then_ hV) h (evA_short (by decide +kernel)))
  have OBK := Lib.hid (fun V (hV : Below W3.heap.size W3 V) => (OB2.out.below hV OB2.out.lt).c7e)
  go_cut [4, 5] from 15 to 22 (fun u v wx => ∃ g, u = .pointer (some ⟨g, 0, none⟩) ∧ v = .int .i64 0 ∧ ResIn wx g (0, 4) [evO2] ∧ Below W3.heap.size W3 wx)
  case first =>
    refine wp_region_held_tail (fun w' => Below W3.heap.size W3 w') 10 (by kernel_rfl) (by kernel_rfl) ?_
    intro G
    change HeadW _ _ _ _ _ _ _ _ _ _ (W3.drewN 1)
    have S := Lib.hid (below_drewN (Below.refl W3.heap.size W3) 1)
    generalize W3.drewN 1 = y0 at *
    refine HeadW_take (i := 0) (v := ?_) G rfl (by kernel_rfl) (by kernel_rfl) (by kernel_rfl) (fun _ _ _ h => h) (Or.inl ⟨by rfl, ?_⟩) S.out ?_
    rotate_left
    · intro wz hS
      have hk := OBK.out _ hS
      go_simp
      try with_reducible rfl
    refine HeadW_take (i := 1) (v := ?_) G rfl (by kernel_rfl) (by kernel_rfl) (by kernel_rfl) (fun _ _ _ h => h) (Or.inl ⟨by rfl, ?_⟩) S.out ?_
    rotate_left
    · intro wz hS
      go_simp
      try with_reducible rfl
    refine HeadW_ready (rs := [2, 8]) (by kernel_rfl) rfl rfl ?_
    refine AllW.cons rfl (fun K hK => ?_) (AllW.cons rfl (fun K hK => ?_) (AllW.nil))
    · go_simp
      have hb : Below y0.heap.size y0 (y0.alloc (.cells #[.int .i64 2, .int .i64 1, .string ⟨#[]⟩] 40)) := (Below.refl _ _).alloc (Nat.le_refl _) _
      have HV := Lib.hid (ev_lit y0 ⟨2, 1, ⟨#[]⟩⟩ (by decide +kernel))
      have S := Lib.hid (S.out.trans (hb.mono S.out.size))
      refine hK _ _ S.out ?_
      clear hK K hb
      generalize y0.alloc (.cells #[.int .i64 2, .int .i64 1, .string ⟨#[]⟩] 40) = y1 at *
      refine HeadW_ready (rs := [3, 8]) (by kernel_rfl) rfl rfl ?_
      refine AllW.cons rfl (fun K hK => ?_) (AllW.cons rfl (fun K hK => ?_) (AllW.nil))
      · go_simp
        refine (evx_any HV.out).mono ?_
        rintro e y2 ⟨A7, rfl, hb, hg⟩
        have HV := Lib.hid (HV.out.keep (Kept.all hb _) (fun _ h _ => h))
        have HG := Lib.hid (hg)
        clear hg
        have S := Lib.hid (S.out.trans (hb.mono S.out.size))
        refine hK _ _ S.out ?_
        clear hK K hb
        refine HeadW_ready (rs := [4, 8]) (by kernel_rfl) rfl rfl ?_
        refine AllW.cons rfl (fun K hK => ?_) (AllW.cons rfl (fun K hK => ?_) (AllW.nil))
        · go_simp
          refine (EPK.out _ S.out _ HG.out).mono ?_
          rintro e y3 ⟨F1, f2, f3, rfl, hb, hd⟩
          have HV := Lib.hid (HV.out.keep (Kept.all hb _) (fun _ h _ => h))
          have HG := Lib.hid (HG.out.keep (Kept.all hb _) (fun _ h _ => h))
          have HD := Lib.hid (hd)
          clear hd
          have S := Lib.hid (S.out.trans (hb.mono S.out.size))
          refine hK _ _ S.out ?_
          clear hK K hb
          refine HeadW_take (i := 5) (v := ?_) G rfl (by kernel_rfl) (by kernel_rfl) (by kernel_rfl) (fun _ _ _ h => h) (Or.inl ⟨by rfl, ?_⟩) S.out ?_
          rotate_left
          · intro wz hS
            go_simp
            try with_reducible rfl
          refine HeadW_take (i := 6) (v := ?_) G rfl (by kernel_rfl) (by kernel_rfl) (by kernel_rfl) (fun _ _ _ h => h) (Or.inl ⟨by rfl, ?_⟩) S.out ?_
          rotate_left
          · intro wz hS
            go_simp
            try with_reducible rfl
          refine HeadW_take (i := 7) (v := ?_) G rfl (by kernel_rfl) (by kernel_rfl) (by kernel_rfl) (fun _ _ _ h => h) (Or.inl ⟨by rfl, ?_⟩) S.out ?_
          rotate_left
          · intro wz hS
            go_simp
            try with_reducible rfl
          refine HeadW_ready (rs := [8]) (by kernel_rfl) rfl rfl ?_
          refine AllW.cons rfl (fun K hK => ?_) (AllW.nil)
          have HGZ := Lib.hid S.out.size
          have HD := Lib.hid (HD.out.keep (R' := fun b => b < y3.heap.size) (Kept.refl _ _) (fun b _ hlt => hlt))
          go_simp
          have hb : Below y3.heap.size y3 (y3.alloc (.cells #[.complex .f64 0 0, .slice none 0 0] 33)) := (Below.refl _ _).alloc (Nat.le_refl _) _
          have HV := Lib.hid (HV.out.keep (Kept.all hb _) (fun _ h _ => h))
          have HG := Lib.hid (HG.out.keep (Kept.all hb _) (fun _ h _ => h))
          have HD := Lib.hid (HD.out.keep (Kept.all hb _) (fun _ h _ => h))
          have OZ := Lib.hid (Ob.made y3 33 #[.complex .f64 0 0, .slice none 0 0])
          have HD := Lib.hid (HD.out.keep (R' := fun b => b ≠ y3.heap.size) (Kept.refl _ _) (fun b hb _ => by have h1 : b < y3.heap.size := hb; omega))
          have S := Lib.hid (S.out.trans (hb.mono S.out.size))
          refine hK _ _ S.out ?_
          clear hK K hb
          generalize y3.alloc (.cells #[.complex .f64 0 0, .slice none 0 0] 33) = y4 at *
          refine HeadW_ready (rs := [9]) (by kernel_rfl) rfl rfl ?_
          refine AllW.cons rfl (fun K hK => ?_) (AllW.nil)
          have r0 := OZ.out.cell 0
          have r1 := OZ.out.cell 1
          have s0 := OZ.out.frozen 0
          have s1 := OZ.out.frozen 1
          go_simp
          have S := Lib.hid (below_set2 S.out HGZ.out (.complex .f64 (fl 0) (fl 4)) (.slice F1 f2 f3))
          refine hK _ _ S.out ?_
          clear hK K
          intro _
          refine ⟨by kernel_rfl, ?_⟩
          simp only [List.drop_succ_cons, List.drop_zero]
          go_wp2_with fail
          go_meet
          case rel => exact ⟨_, rfl, rfl, ⟨F1, f2, f3, OZ.out.set2 _ _, HD.out.set2x _ _⟩, S.out⟩
        · have HGZ := Lib.hid S.out.size
          go_simp
          have hb : Below y2.heap.size y2 (y2.alloc (.cells #[.complex .f64 0 0, .slice none 0 0] 33)) := (Below.refl _ _).alloc (Nat.le_refl _) _
          have HV := Lib.hid (HV.out.keep (Kept.all hb _) (fun _ h _ => h))
          have HG := Lib.hid (HG.out.keep (Kept.all hb _) (fun _ h _ => h))
          have OZ := Lib.hid (Ob.made y2 33 #[.complex .f64 0 0, .slice none 0 0])
          have S := Lib.hid (S.out.trans (hb.mono S.out.size))
          refine hK _ _ S.out ?_
          clear hK K hb
          generalize y2.alloc (.cells #[.complex .f64 0 0, .slice none 0 0] 33) = y6 at *
          refine HeadW_ready (rs := [4]) (by kernel_rfl) rfl rfl ?_
          refine AllW.cons rfl (fun K hK => ?_) (AllW.nil)
          have hltz := OZ.out.lt
          go_simp
          refine (EPK.out _ S.out _ HG.out).mono ?_
          rintro e y7 ⟨F1, f2, f3, rfl, hb, hd⟩
          have HV := Lib.hid (HV.out.keep (Kept.all hb _) (fun _ h _ => h))
          have HG := Lib.hid (HG.out.keep (Kept.all hb _) (fun _ h _ => h))
          have OZ := Lib.hid (OZ.out.below hb OZ.out.lt)
          have HD := Lib.hid (hd)
          have HD := Lib.hid (hd.keep (R' := fun b => b ≠ y2.heap.size) (Kept.refl _ _) (fun b hb _ => by have h1 : _ ≤ b := hb; omega))
          clear hd
          have S := Lib.hid (S.out.trans (hb.mono S.out.size))
          refine hK _ _ S.out ?_
          clear hK K hb
          refine HeadW_take (i := 5) (v := ?_) G rfl (by kernel_rfl) (by kernel_rfl) (by kernel_rfl) (fun _ _ _ h => h) (Or.inl ⟨by rfl, ?_⟩) S.out ?_
          rotate_left
          · intro wz hS
            go_simp
            try with_reducible rfl
          refine HeadW_take (i := 6) (v := ?_) G rfl (by kernel_rfl) (by kernel_rfl) (by kernel_rfl) (fun _ _ _ h => h) (Or.inl ⟨by rfl, ?_⟩) S.out ?_
          rotate_left
          · intro wz hS
            go_simp
            try with_reducible rfl
          refine HeadW_take (i := 7) (v := ?_) G rfl (by kernel_rfl) (by kernel_rfl) (by kernel_rfl) (fun _ _ _ h => h) (Or.inl ⟨by rfl, ?_⟩) S.out ?_
          rotate_left
          · intro wz hS
            go_simp
            try with_reducible rfl
          refine HeadW_ready (rs := [9]) (by kernel_rfl) rfl rfl ?_
          refine AllW.cons rfl (fun K hK => ?_) (AllW.nil)
          have r0 := OZ.out.cell 0
          have r1 := OZ.out.cell 1
          have s0 := OZ.out.frozen 0
          have s1 := OZ.out.frozen 1
          go_simp
          have S := Lib.hid (below_set2 S.out HGZ.out (.complex .f64 (fl 0) (fl 4)) (.slice F1 f2 f3))
          refine hK _ _ S.out ?_
          clear hK K
          intro _
          refine ⟨by kernel_rfl, ?_⟩
          simp only [List.drop_succ_cons, List.drop_zero]
          go_wp2_with fail
          go_meet
          case rel => exact ⟨_, rfl, rfl, ⟨F1, f2, f3, OZ.out.set2 _ _, HD.out.set2x _ _⟩, S.out⟩
      · have HGZ := Lib.hid S.out.size
        go_simp
        have hb : Below y1.heap.size y1 (y1.alloc (.cells #[.complex .f64 0 0, .slice none 0 0] 33)) := (Below.refl _ _).alloc (Nat.le_refl _) _
        have HV := Lib.hid (HV.out.keep (Kept.all hb _) (fun _ h _ => h))
        have OZ := Lib.hid (Ob.made y1 33 #[.complex .f64 0 0, .slice none 0 0])
        have S := Lib.hid (S.out.trans (hb.mono S.out.size))
        refine hK _ _ S.out ?_
        clear hK K hb
        generalize y1.alloc (.cells #[.complex .f64 0 0, .slice none 0 0] 33) = y9 at *
        refine HeadW_ready (rs := [3]) (by kernel_rfl) rfl rfl ?_
        refine AllW.cons rfl (fun K hK => ?_) (AllW.nil)
        go_simp
        refine (evx_any HV.out).mono ?_
        rintro e y10 ⟨A7, rfl, hb, hg⟩
        have HV := Lib.hid (HV.out.keep (Kept.all hb _) (fun _ h _ => h))
        have OZ := Lib.hid (OZ.out.below hb OZ.out.lt)
        have HG := Lib.hid (hg)
        clear hg
        have S := Lib.hid (S.out.trans (hb.mono S.out.size))
        refine hK _ _ S.out ?_
        clear hK K hb
        refine HeadW_ready (rs := [4]) (by kernel_rfl) rfl rfl ?_
        refine AllW.cons rfl (fun K hK => ?_) (AllW.nil)
        have hltz := OZ.out.lt
        go_simp
        refine (EPK.out _ S.out _ HG.out).mono ?_
        rintro e y11 ⟨F1, f2, f3, rfl, hb, hd⟩
        have HV := Lib.hid (HV.out.keep (Kept.all hb _) (fun _ h _ => h))
        have OZ := Lib.hid (OZ.out.below hb OZ.out.lt)
        have HG := Lib.hid (HG.out.keep (Kept.all hb _) (fun _ h _ => h))
        have HD := Lib.hid (hd)
        have HD := Lib.hid (hd.keep (R' := fun b => b ≠ y1.heap.size) (Kept.refl _ _) (fun b hb _ => by have h1 : _ ≤ b := hb; omega))
        clear hd
        have S := Lib.hid (S.out.trans (hb.mono S.out.size))
        refine hK _ _ S.out ?_
        clear hK K hb
        refine HeadW_take (i := 5) (v := ?_) G rfl (by kernel_rfl) (by kernel_rfl) (by kernel_rfl) (fun _ _ _ h => h) (Or.inl ⟨by rfl, ?_⟩) S.out ?_
        rotate_left
        · intro wz hS
          go_simp
          try with_reducible rfl
        refine HeadW_take (i := 6) (v := ?_) G rfl (by kernel_rfl) (by kernel_rfl) (by kernel_rfl) (fun _ _ _ h => h) (Or.inl ⟨by rfl, ?_⟩) S.out ?_
        rotate_left
        · intro wz hS
          go_simp
          try with_reducible rfl
        refine HeadW_take (i := 7) (v := ?_) G rfl (by kernel_rfl) (by kernel_rfl) (by kernel_rfl) (fun _ _ _ h => h) (Or.inl ⟨by rfl, ?_⟩) S.out ?_
        rotate_left
        · intro wz hS
          go_simp
          try with_reducible rfl
        refine HeadW_ready (rs := [9]) (by kernel_rfl) rfl rfl ?_
        refine AllW.cons rfl (fun K hK => ?_) (AllW.nil)
        have r0 := OZ.out.cell 0
        have r1 := OZ.out.cell 1
        have s0 := OZ.out.frozen 0
        have s1 := OZ.out.frozen 1
        go_simp
        have S := Lib.hid (below_set2 S.out HGZ.out (.complex .f64 (fl 0) (fl 4)) (.slice F1 f2 f3))
        refine hK _ _ S.out ?_
        clear hK K
        intro _
        refine ⟨by kernel_rfl, ?_⟩
        simp only [List.drop_succ_cons, List.drop_zero]
        go_wp2_with fail
        go_meet
        case rel => exact ⟨_, rfl, rfl, ⟨F1, f2, f3, OZ.out.set2 _ _, HD.out.set2x _ _⟩, S.out⟩
    · have HGZ := Lib.hid S.out.size
      go_simp
      have hb : Below y0.heap.size y0 (y0.alloc (.cells #[.complex .f64 0 0, .slice none 0 0] 33)) := (Below.refl _ _).alloc (Nat.le_refl _) _
      have OZ := Lib.hid (Ob.made y0 33 #[.complex .f64 0 0, .slice none 0 0])
      have S := Lib.hid (S.out.trans (hb.mono S.out.size))
      refine hK _ _ S.out ?_
      clear hK K hb
      generalize y0.alloc (.cells #[.complex .f64 0 0, .slice none 0 0] 33) = y13 at *
      refine HeadW_ready (rs := [2]) (by kernel_rfl) rfl rfl ?_
      refine AllW.cons rfl (fun K hK => ?_) (AllW.nil)
      go_simp
      have hb : Below y13.heap.size y13 (y13.alloc (.cells #[.int .i64 2, .int .i64 1, .string ⟨#[]⟩] 40)) := (Below.refl _ _).alloc (Nat.le_refl _) _
      have OZ := Lib.hid (OZ.out.below hb OZ.out.lt)
      have HV := Lib.hid (ev_lit y13 ⟨2, 1, ⟨#[]⟩⟩ (by decide +kernel))
      have S := Lib.hid (S.out.trans (hb.mono S.out.size))
      refine hK _ _ S.out ?_
      clear hK K hb
      generalize y13.alloc (.cells #[.int .i64 2, .int .i64 1, .string ⟨#[]⟩] 40) = y14 at *
      refine HeadW_ready (rs := [3]) (by kernel_rfl) rfl rfl ?_
      refine AllW.cons rfl (fun K hK => ?_) (AllW.nil)
      go_simp
      refine (evx_any HV.out).mono ?_
      rintro e y15 ⟨A7, rfl, hb, hg⟩
      have OZ := Lib.hid (OZ.out.below hb OZ.out.lt)
      have HV := Lib.hid (HV.out.keep (Kept.all hb _) (fun _ h _ => h))
      have HG := Lib.hid (hg)
      clear hg
      have S := Lib.hid (S.out.trans (hb.mono S.out.size))
      refine hK _ _ S.out ?_
      clear hK K hb
      refine HeadW_ready (rs := [4]) (by kernel_rfl) rfl rfl ?_
      refine AllW.cons rfl (fun K hK => ?_) (AllW.nil)
      have hltz := OZ.out.lt
      go_simp
      refine (EPK.out _ S.out _ HG.out).mono ?_
      rintro e y16 ⟨F1, f2, f3, rfl, hb, hd⟩
      have OZ := Lib.hid (OZ.out.below hb OZ.out.lt)
      have HV := Lib.hid (HV.out.keep (Kept.all hb _) (fun _ h _ => h))
      have HG := Lib.hid (HG.out.keep (Kept.all hb _) (fun _ h _ => h))
      have HD := Lib.hid (hd)
      have HD := Lib.hid (hd.keep (R' := fun b => b ≠ y0.heap.size) (Kept.refl _ _) (fun b hb _ => by have h1 : _ ≤ b := hb; omega))
      clear hd
      have S := Lib.hid (S.out.trans (hb.mono S.out.size))
      refine hK _ _ S.out ?_
      clear hK K hb
      refine HeadW_take (i := 5) (v := ?_) G rfl (by kernel_rfl) (by kernel_rfl) (by kernel_rfl) (fun _ _ _ h => h) (Or.inl ⟨by rfl, ?_⟩) S.out ?_
      rotate_left
      · intro wz hS
        go_simp
        try with_reducible rfl
      refine HeadW_take (i := 6) (v := ?_) G rfl (by kernel_rfl) (by kernel_rfl) (by kernel_rfl) (fun _ _ _ h => h) (Or.inl ⟨by rfl, ?_⟩) S.out ?_
      rotate_left
      · intro wz hS
        go_simp
        try with_reducible rfl
      refine HeadW_take (i := 7) (v := ?_) G rfl (by kernel_rfl) (by kernel_rfl) (by kernel_rfl) (fun _ _ _ h => h) (Or.inl ⟨by rfl, ?_⟩) S.out ?_
      rotate_left
      · intro wz hS
        go_simp
        try with_reducible rfl
      refine HeadW_ready (rs := [9]) (by kernel_rfl) rfl rfl ?_
      refine AllW.cons rfl (fun K hK => ?_) (AllW.nil)
      have r0 := OZ.out.cell 0
      have r1 := OZ.out.cell 1
      have s0 := OZ.out.frozen 0
      have s1 := OZ.out.frozen 1
      go_simp
      have S := Lib.hid (below_set2 S.out HGZ.out (.complex .f64 (fl 0) (fl 4)) (.slice F1 f2 f3))
      refine hK _ _ S.out ?_
      clear hK K
      intro _
      refine ⟨by kernel_rfl, ?_⟩
      simp only [List.drop_succ_cons, List.drop_zero]
      go_wp2_with fail
      go_meet
      case rel => exact ⟨_, rfl, rfl, ⟨F1, f2, f3, OZ.out.set2 _ _, HD.out.set2x _ _⟩, S.out⟩
  case rest =>
    obtain ⟨g4, rfl, rfl, hrb, hb⟩ := hcut
    have RB := Lib.hid hrb
    have RA4 := Lib.hid (RA.out.then_ hb)
    have OB4 := Lib.hid (OB2.out.below hb OB2.out.lt)
    have HP4 := Lib.hid (HP2.out.then_ hb)
    have BW4 := Lib.hid (below_step BW2.out hb)
    clear hrb hb RA OB2 HP2 BW2 EPK OBK
    obtain ⟨W4, hW4⟩ : ∃ W4, W4 = wc := ⟨wc, rfl⟩
    subst hW4
    go_upto_region 4 with fail
    have EPK := Lib.hid (fun V (hV : Below W4.heap.size W4 V) (A : Option Addr) (h : Gvs V (fun _ => True) A 1 1 (evA ⟨3, 0, ⟨#[97]⟩⟩)) => evpol_is ev_3 ev_right (HP4.out.then_ hV) h (evA_short (by decide +kernel)))
    have OBK := Lib.hid (fun V (hV : Below W4.heap.size W4 V) => (OB4.out.below hV OB4.out.lt).c7e)
    go_cut [6, 7] from 23 to 30 (fun u v wx => ∃ g, u = .pointer (some ⟨g, 0, none⟩) ∧ v = .int .i64 0 ∧ ResIn wx g (2, 2) [] ∧ Below W4.heap.size W4 wx)
    case first =>
      refine wp_region_held_tail (fun w' => Below W4.heap.size W4 w') 10 (by kernel_rfl) (by kernel_rfl) ?_
      intro G
      change HeadW _ _ _ _ _ _ _ _ _ _ (W4.drewN 1)
      have S := Lib.hid (below_drewN (Below.refl W4.heap.size W4) 1)
      generalize W4.drewN 1 = y0 at *
      refine HeadW_take (i := 0) (v := ?_) G rfl (by kernel_rfl) (by kernel_rfl) (by kernel_rfl) (fun _ _ _ h => h) (Or.inl ⟨by rfl, ?_⟩) S.out ?_
      rotate_left
      · intro wz hS
        have hk := OBK.out _ hS
        go_simp
        try with_reducible rfl
      refine HeadW_take (i := 1) (v := ?_) G rfl (by kernel_rfl) (by kernel_rfl) (by kernel_rfl) (fun _ _ _ h => h) (Or.inl ⟨by rfl, ?_⟩) S.out ?_
      rotate_left
      · intro wz hS
        go_simp
        try with_reducible rfl
      refine HeadW_ready (rs := [2, 8]) (by kernel_rfl) rfl rfl ?_
      refine AllW.cons rfl (fun K hK => ?_) (AllW.cons rfl (fun K hK => ?_) (AllW.nil))
      · go_simp
        have hb : Below y0.heap.size y0 (y0.alloc (.cells #[.int .i64 3, .int .i64 0, .string ⟨#[97]⟩] 40)) := (Below.refl _ _).alloc (Nat.le_refl _) _
        have HV := Lib.hid (ev_lit y0 ⟨3, 0, ⟨#[97]⟩⟩ (by decide +kernel))
        have S := Lib.hid (S.out.trans (hb.mono S.out.size))
        refine hK _ _ S.out ?_
        clear hK K hb
        generalize y0.alloc (.cells #[.int .i64 3, .int .i64 0, .string ⟨#[97]⟩] 40) = y1 at *
        refine HeadW_ready (rs := [3, 8]) (by kernel_rfl) rfl rfl ?_
        refine AllW.cons rfl (fun K hK => ?_) (AllW.cons rfl (fun K hK => ?_) (AllW.nil))
        · go_simp
          refine (evx_any HV.out).mono ?_
          rintro e y2 ⟨A7, rfl, hb, hg⟩
          have HV := Lib.hid (HV.out.keep (Kept.all hb _) (fun _ h _ => h))
          have HG := Lib.hid (hg)
          clear hg
          have S := Lib.hid (S.out.trans (hb.mono S.out.size))
          refine hK _ _ S.out ?_
          clear hK K hb
          refine HeadW_ready (rs := [4, 8]) (by kernel_rfl) rfl rfl ?_
          refine AllW.cons rfl (fun K hK => ?_) (AllW.cons rfl (fun K hK => ?_) (AllW.nil))
          · go_simp
            refine (EPK.out _ S.out _ HG.out).mono ?_
            rintro e y3 ⟨F1, f2, f3, rfl, hb, hd⟩
            have HV := Lib.hid (HV.out.keep (Kept.all hb _) (fun _ h _ => h))
            have HG := Lib.hid (HG.out.keep (Kept.all hb _) (fun _ h _ => h))
            have HD := Lib.hid (hd)
            clear hd
            have S := Lib.hid (S.out.trans (hb.mono S.out.size))
            refine hK _ _ S.out ?_
            clear hK K hb
            refine HeadW_take (i := 5) (v := ?_) G rfl (by kernel_rfl) (by kernel_rfl) (by kernel_rfl) (fun _ _ _ h => h) (Or.inl ⟨by rfl, ?_⟩) S.out ?_
            rotate_left
            · intro wz hS
              go_simp
              try with_reducible rfl
            refine HeadW_take (i := 6) (v := ?_) G rfl (by kernel_rfl) (by kernel_rfl) (by kernel_rfl) (fun _ _ _ h => h) (Or.inl ⟨by rfl, ?_⟩) S.out ?_
            rotate_left
            · intro wz hS
              go_simp
              try with_reducible rfl
            refine HeadW_take (i := 7) (v := ?_) G rfl (by kernel_rfl) (by kernel_rfl) (by kernel_rfl) (fun _ _ _ h => h) (Or.inl ⟨by rfl, ?_⟩) S.out ?_
            rotate_left
            · intro wz hS
              go_simp
              try with_reducible rfl
            refine HeadW_ready (rs := [8]) (by kernel_rfl) rfl rfl ?_
            refine AllW.cons rfl (fun K hK => ?_) (AllW.nil)
            have HGZ := Lib.hid S.out.size
            have HD := Lib.hid (HD.out.keep (R' := fun b => b < y3.heap.size) (Kept.refl _ _) (fun b _ hlt => hlt))
            go_simp
            have hb : Below y3.heap.size y3 (y3.alloc (.cells #[.complex .f64 0 0, .slice none 0 0] 33)) := (Below.refl _ _).alloc (Nat.le_refl _) _
            have HV := Lib.hid (HV.out.keep (Kept.all hb _) (fun _ h _ => h))
            have HG := Lib.hid (HG.out.keep (Kept.all hb _) (fun _ h _ => h))
            have HD := Lib.hid (HD.out.keep (Kept.all hb _) (fun _ h _ => h))
            have OZ := Lib.hid (Ob.made y3 33 #[.complex .f64 0 0, .slice none 0 0])
            have HD := Lib.hid (HD.out.keep (R' := fun b => b ≠ y3.heap.size) (Kept.refl _ _) (fun b hb _ => by have h1 : b < y3.heap.size := hb; omega))
            have S := Lib.hid (S.out.trans (hb.mono S.out.size))
            refine hK _ _ S.out ?_
            clear hK K hb
            generalize y3.alloc (.cells #[.complex .f64 0 0, .slice none 0 0] 33) = y4 at *
            refine HeadW_ready (rs := [9]) (by kernel_rfl) rfl rfl ?_
            refine AllW.cons rfl (fun K hK => ?_) (AllW.nil)
            have r0 := OZ.out.cell 0
            have r1 := OZ.out.cell 1
            have s0 := OZ.out.frozen 0
            have s1 := OZ.out.frozen 1
            go_simp
            have S := Lib.hid (below_set2 S.out HGZ.out (.complex .f64 (fl 2) (fl 2)) (.slice F1 f2 f3))
            refine hK _ _ S.out ?_
            clear hK K
            intro _
            refine ⟨by kernel_rfl, ?_⟩
            simp only [List.drop_succ_cons, List.drop_zero]
            go_wp2_with fail
            go_meet
            case rel => exact ⟨_, rfl, rfl, ⟨F1, f2, f3, OZ.out.set2 _ _, HD.out.set2x _ _⟩, S.out⟩
          · have HGZ := Lib.hid S.out.size
            go_simp
            have hb : Below y2.heap.size y2 (y2.alloc (.cells #[.complex .f64 0 0, .slice none 0 0] 33)) := (Below.refl _ _).alloc (Nat.le_refl _) _
            have HV := Lib.hid (HV.out.keep (Kept.all hb _) (fun _ h _ => h))
            have HG := Lib.hid (HG.out.keep (Kept.all hb _) (fun _ h _ => h))
            have OZ := Lib.hid (Ob.made y2 33 #[.complex .f64 0 0, .slice none 0 0])
            have S := Lib.hid (S.out.trans (hb.mono S.out.size))
            refine hK _ _ S.out ?_
            clear hK K hb
            generalize y2.alloc (.cells #[.complex .f64 0 0, .slice none 0 0] 33) = y6 at *
            refine HeadW_ready (rs := [4]) (by kernel_rfl) rfl rfl ?_
            refine AllW.cons rfl (fun K hK => ?_) (AllW.nil)
            have hltz := OZ.out.lt
            go_simp
            refine (EPK.out _ S.out _ HG.out).mono ?_
            rintro e y7 ⟨F1, f2, f3, rfl, hb, hd⟩
            have HV := Lib.hid (HV.out.keep (Kept.all hb _) (fun _ h _ => h))
            have HG := Lib.hid (HG.out.keep (Kept.all hb _) (fun _ h _ => h))
            have OZ := Lib.hid (OZ.out.below hb OZ.out.lt)
            have HD := Lib.hid (hd)
            have HD := Lib.hid (hd.keep (R' := fun b => b ≠ y2.heap.size) (Kept.refl _ _) (fun b hb _ => by have h1 : _ ≤ b := hb; omega))
            clear hd
            have S := Lib.hid (S.out.trans (hb.mono S.out.size))
            refine hK _ _ S.out ?_
            clear hK K hb
            refine HeadW_take (i := 5) (v := ?_) G rfl (by kernel_rfl) (by kernel_rfl) (by kernel_rfl) (fun _ _ _ h => h) (Or.inl ⟨by rfl, ?_⟩) S.out ?_
            rotate_left
            · intro wz hS
              go_simp
              try with_reducible rfl
            refine HeadW_take (i := 6) (v := ?_) G rfl (by kernel_rfl) (by kernel_rfl) (by kernel_rfl) (fun _ _ _ h => h) (Or.inl ⟨by rfl, ?_⟩) S.out ?_
            rotate_left
            · intro wz hS
              go_simp
              try with_reducible rfl
            refine HeadW_take (i := 7) (v := ?_) G rfl (by kernel_rfl) (by kernel_rfl) (by kernel_rfl) (fun _ _ _ h => h) (Or.inl ⟨by rfl, ?_⟩) S.out ?_
            rotate_left
            · intro wz hS
              go_simp
              try with_reducible rfl
            refine HeadW_ready (rs := [9]) (by kernel_rfl) rfl rfl ?_
            refine AllW.cons rfl (fun K hK => ?_) (AllW.nil)
            have r0 := OZ.out.cell 0
            have r1 := OZ.out.cell 1
            have s0 := OZ.out.frozen 0
            have s1 := OZ.out.frozen 1
            go_simp
            have S := Lib.hid (below_set2 S.out HGZ.out (.complex .f64 (fl 2) (fl 2)) (.slice F1 f2 f3))
            refine hK _ _ S.out ?_
            clear hK K
            intro _
            refine ⟨by kernel_rfl, ?_⟩
            simp only [List.drop_succ_cons, List.drop_zero]
            go_wp2_with fail
            go_meet
            case rel => exact ⟨_, rfl, rfl, ⟨F1, f2, f3, OZ.out.set2 _ _, HD.out.set2x _ _⟩, S.out⟩
        · have HGZ := Lib.hid S.out.size
          go_simp
          have hb : Below y1.heap.size y1 (y1.alloc (.cells #[.complex .f64 0 0, .slice none 0 0] 33)) := (Below.refl _ _).alloc (Nat.le_refl _) _
          have HV := Lib.hid (HV.out.keep (Kept.all hb _) (fun _ h _ => h))
          have OZ := Lib.hid (Ob.made y1 33 #[.complex .f64 0 0, .slice none 0 0])
          have S := Lib.hid (S.out.trans (hb.mono S.out.size))
          refine hK _ _ S.out ?_
          clear hK K hb
          generalize y1.alloc (.cells #[.complex .f64 0 0, .slice none 0 0] 33) = y9 at *
          refine HeadW_ready (rs := [3]) (by kernel_rfl) rfl rfl ?_
          refine AllW.cons rfl (fun K hK => ?_) (AllW.nil)
          go_simp
          refine (evx_any HV.out).mono ?_
          rintro e y10 ⟨A7, rfl, hb, hg⟩
          have HV := Lib.hid (HV.out.keep (Kept.all hb _) (fun _ h _ => h))
          have OZ := Lib.hid (OZ.out.below hb OZ.out.lt)
          have HG := Lib.hid (hg)
          clear hg
          have S := Lib.hid (S.out.trans (hb.mono S.out.size))
          refine hK _ _ S.out ?_
          clear hK K hb
          refine HeadW_ready (rs := [4]) (by kernel_rfl) rfl rfl ?_
          refine AllW.cons rfl (fun K hK => ?_) (AllW.nil)
          have hltz := OZ.out.lt
          go_simp
          refine (EPK.out _ S.out _ HG.out).mono ?_
          rintro e y11 ⟨F1, f2, f3, rfl, hb, hd⟩
          have HV := Lib.hid (HV.out.keep (Kept.all hb _) (fun _ h _ => h))
          have OZ := Lib.hid (OZ.out.below hb OZ.out.lt)
          have HG := Lib.hid (HG.out.keep (Kept.all hb _) (fun _ h _ => h))
          have HD := Lib.hid (hd)
          have HD := Lib.hid (hd.keep (R' := fun b => b ≠ y1.heap.size) (Kept.refl _ _) (fun b hb _ => by have h1 : _ ≤ b := hb; omega))
          clear hd
          have S := Lib.hid (S.out.trans (hb.mono S.out.size))
          refine hK _ _ S.out ?_
          clear hK K hb
          refine HeadW_take (i := 5) (v := ?_) G rfl (by kernel_rfl) (by kernel_rfl) (by kernel_rfl) (fun _ _ _ h => h) (Or.inl ⟨by rfl, ?_⟩) S.out ?_
          rotate_left
          · intro wz hS
            go_simp
            try with_reducible rfl
          refine HeadW_take (i := 6) (v := ?_) G rfl (by kernel_rfl) (by kernel_rfl) (by kernel_rfl) (fun _ _ _ h => h) (Or.inl ⟨by rfl, ?_⟩) S.out ?_
          rotate_left
          · intro wz hS
            go_simp
            try with_reducible rfl
          refine HeadW_take (i := 7) (v := ?_) G rfl (by kernel_rfl) (by kernel_rfl) (by kernel_rfl) (fun _ _ _ h => h) (Or.inl ⟨by rfl, ?_⟩) S.out ?_
          rotate_left
          · intro wz hS
            go_simp
            try with_reducible rfl
          refine HeadW_ready (rs := [9]) (by kernel_rfl) rfl rfl ?_
          refine AllW.cons rfl (fun K hK => ?_) (AllW.nil)
          have r0 := OZ.out.cell 0
          have r1 := OZ.out.cell 1
          have s0 := OZ.out.frozen 0
          have s1 := OZ.out.frozen 1
          go_simp
          have S := Lib.hid (below_set2 S.out HGZ.out (.complex .f64 (fl 2) (fl 2)) (.slice F1 f2 f3))
          refine hK _ _ S.out ?_
          clear hK K
          intro _
          refine ⟨by kernel_rfl, ?_⟩
          simp only [List.drop_succ_cons, List.drop_zero]
          go_wp2_with fail
          go_meet
          case rel => exact ⟨_, rfl, rfl, ⟨F1, f2, f3, OZ.out.set2 _ _, HD.out.set2x _ _⟩, S.out⟩
      · have HGZ := Lib.hid S.out.size
        go_simp
        have hb : Below y0.heap.size y0 (y0.alloc (.cells #[.complex .f64 0 0, .slice none 0 0] 33)) := (Below.refl _ _).alloc (Nat.le_refl _) _
        have OZ := Lib.hid (Ob.made y0 33 #[.complex .f64 0 0, .slice none 0 0])
        have S := Lib.hid (S.out.trans (hb.mono S.out.size))
        refine hK _ _ S.out ?_
        clear hK K hb
        generalize y0.alloc (.cells #[.complex .f64 0 0, .slice none 0 0] 33) = y13 at *
        refine HeadW_ready (rs := [2]) (by kernel_rfl) rfl rfl ?_
        refine AllW.cons rfl (fun K hK => ?_) (AllW.nil)
        go_simp
        have hb : Below y13.heap.size y13 (y13.alloc (.cells #[.int .i64 3, .int .i64 0, .string ⟨#[97]⟩] 40)) := (Below.refl _ _).alloc (Nat.le_refl _) _
        have OZ := Lib.hid (OZ.out.below hb OZ.out.lt)
        have HV := Lib.hid (ev_lit y13 ⟨3, 0, ⟨#[97]⟩⟩ (by decide +kernel))
        have S := Lib.hid (S.out.trans (hb.mono S.out.size))
        refine hK _ _ S.out ?_
        clear hK K hb
        generalize y13.alloc (.cells #[.int .i64 3, .int .i64 0, .string ⟨#[97]⟩] 40) = y14 at *
        refine HeadW_ready (rs := [3]) (by kernel_rfl) rfl rfl ?_
        refine AllW.cons rfl (fun K hK => ?_) (AllW.nil)
        go_simp
        refine (evx_any HV.out).mono ?_
        rintro e y15 ⟨A7, rfl, hb, hg⟩
        have OZ := Lib.hid (OZ.out.below hb OZ.out.lt)
        have HV := Lib.hid (HV.out.keep (Kept.all hb _) (fun _ h _ => h))
        have HG := Lib.hid (hg)
        clear hg
        have S := Lib.hid (S.out.trans (hb.mono S.out.size))
        refine hK _ _ S.out ?_
        clear hK K hb
        refine HeadW_ready (rs := [4]) (by kernel_rfl) rfl rfl ?_
        refine AllW.cons rfl (fun K hK => ?_) (AllW.nil)
        have hltz := OZ.out.lt
        go_simp
        refine (EPK.out _ S.out _ HG.out).mono ?_
        rintro e y16 ⟨F1, f2, f3, rfl, hb, hd⟩
        have OZ := Lib.hid (OZ.out.below hb OZ.out.lt)
        have HV := Lib.hid (HV.out.keep (Kept.all hb _) (fun _ h _ => h))
        have HG := Lib.hid (HG.out.keep (Kept.all hb _) (fun _ h _ => h))
        have HD := Lib.hid (hd)
        have HD := Lib.hid (hd.keep (R' := fun b => b ≠ y0.heap.size) (Kept.refl _ _) (fun b hb _ => by have h1 : _ ≤ b := hb; omega))
        clear hd
        have S := Lib.hid (S.out.trans (hb.mono S.out.size))
        refine hK _ _ S.out ?_
        clear hK K hb
        refine HeadW_take (i := 5) (v := ?_) G rfl (by kernel_rfl) (by kernel_rfl) (by kernel_rfl) (fun _ _ _ h => h) (Or.inl ⟨by rfl, ?_⟩) S.out ?_
        rotate_left
        · intro wz hS
          go_simp
          try with_reducible rfl
        refine HeadW_take (i := 6) (v := ?_) G rfl (by kernel_rfl) (by kernel_rfl) (by kernel_rfl) (fun _ _ _ h => h) (Or.inl ⟨by rfl, ?_⟩) S.out ?_
        rotate_left
        · intro wz hS
          go_simp
          try with_reducible rfl
        refine HeadW_take (i := 7) (v := ?_) G rfl (by kernel_rfl) (by kernel_rfl) (by kernel_rfl) (fun _ _ _ h => h) (Or.inl ⟨by rfl, ?_⟩) S.out ?_
        rotate_left
        · intro wz hS
          go_simp
          try with_reducible rfl
        refine HeadW_ready (rs := [9]) (by kernel_rfl) rfl rfl ?_
        refine AllW.cons rfl (fun K hK => ?_) (AllW.nil)
        have r0 := OZ.out.cell 0
        have r1 := OZ.out.cell 1
        have s0 := OZ.out.frozen 0
        have s1 := OZ.out.frozen 1
        go_simp
        have S := Lib.hid (below_set2 S.out HGZ.out (.complex .f64 (fl 2) (fl 2)) (.slice F1 f2 f3))
        refine hK _ _ S.out ?_
        clear hK K
        intro _
        refine ⟨by kernel_rfl, ?_⟩
        simp only [List.drop_succ_cons, List.drop_zero]
        go_wp2_with fail
        go_meet
        case rel => exact ⟨_, rfl, rfl, ⟨F1, f2, f3, OZ.out.set2 _ _, HD.out.set2x _ _⟩, S.out⟩
    case rest =>
      obtain ⟨g6, rfl, rfl, hrc, hb⟩ := hcut
      obtain ⟨W5, hW5⟩ : ∃ W5, W5 = wc := ⟨wc, rfl⟩
      subst hW5
      have LD := Dus.lit W5 (R := fun _ => True) [evO1, evO3] (n := 2) rfl (by omega) trivial (fun x hx => by simp at hx; rcases hx with rfl | rfl; exact o1_ok; exact o3_ok)
      have al : Below W5.heap.size W5 (W5.alloc (.cells #[.int .i64 1, .int .i64 1, .string ⟨#[97]⟩, .int .i64 1, .int .i64 3, .string ⟨#[99]⟩] 42)) := (Below.refl _ _).alloc (Nat.le_refl _) _
      have hb5 := below_step hb al
      have LD5 : Hid (Dus (W5.alloc (.cells #[.int .i64 1, .int .i64 1, .string ⟨#[97]⟩, .int .i64 1, .int .i64 3, .string ⟨#[99]⟩] 42)) (fun _ => True) (some ⟨W5.heap.size, 0, none⟩) 2 2 [evO1, evO3]) := LD
      obtain ⟨E1, f1, h1, oa, da⟩ := RA4.out.then_ hb5
      obtain ⟨E2, f2, h2, ob, db⟩ := RB.out.then_ hb5
      obtain ⟨E3, f3, h3, oc, dc⟩ := ResIn.then_ hrc al
      have OA := Lib.hid oa
      have OB := Lib.hid ob
      have OC := Lib.hid oc
      have BW5 := Lib.hid (below_step BW4.out hb5)
      have S1 := Lib.hid (evsame_at rfl mc_p rfl rfl da LD5.out)
      have DB := Lib.hid db
      have DC := Lib.hid dc
      have a0 := OA.out.cell 0
      have a1 := OA.out.cell 1
      clear LD al hb hb5 hrc oa ob oc da db dc RA4 RB OB4 HP4 BW4 EPK OBK
      go_wp2_with fail
      refine S1.out.mono ?_
      rintro e w6 ⟨rfl, hb⟩
      have al : Below w6.heap.size w6 (w6.alloc (.cells #[.int .i64 2, .int .i64 4, .string ⟨#[98]⟩] 42)) := (Below.refl _ _).alloc (Nat.le_refl _) _
      have LD := Dus.lit w6 (R := fun _ => True) [evO2] (n := 1) rfl (by omega) trivial (fun x hx => by simp at hx; subst hx; exact o2_ok)
      have LD6 : Hid (Dus (w6.alloc (.cells #[.int .i64 2, .int .i64 4, .string ⟨#[98]⟩] 42)) (fun _ => True) (some ⟨w6.heap.size, 0, none⟩) 1 1 [evO2]) := LD
      have hb6 := below_step hb al
      have S2 := Lib.hid (evsame_at rfl mc_d rfl rfl (DB.out.keep (Kept.all hb6 _) (fun _ h _ => h)) LD6.out)
      have OB6 := Lib.hid (OB.out.below hb OB.out.lt)
      have OC6 := Lib.hid (OC.out.below hb6 OC.out.lt)
      have DC6 := Lib.hid (DC.out.keep (Kept.all hb6 _) (fun _ h _ => h))
      have BW6 := Lib.hid (below_step BW5.out hb6)
      clear hb al LD hb6 OA OB OC DB DC S1 LD5 BW5 a0 a1
      have b0 := OB6.out.cell 0
      have b1 := OB6.out.cell 1
      go_wp2_with fail
      refine S2.out.mono ?_
      rintro e w7 ⟨rfl, hb⟩
      have OC7 := Lib.hid (OC6.out.below hb OC6.out.lt)
      have S3 := Lib.hid (evsame_at rfl mc_dp rfl rfl (DC6.out.keep (Kept.all hb _) (fun _ h _ => h)) (Rw.nil_ 3 _ w7 (fun _ => True)))
      have BW7 := Lib.hid (below_step BW6.out hb)
      clear hb S2 LD6 OB6 OC6 DC6 BW6 b0 b1
      have c0 := OC7.out.cell 0
      have c1 := OC7.out.cell 1
      go_wp2_with fail
      refine S3.out.mono ?_
      rintro e w8 ⟨rfl, hb⟩
      have BW8 := Lib.hid (below_step BW7.out hb)
      clear hb
      go_wp2_with fail
      go_ret
      exact ⟨rfl, BW8.out⟩
theorem evalRuns_walk (w : World) : Calls Tryz.prog 3 #[] w fun e w' => e = .returned (.bool true) ∧ Below w.heap.size w w' := evruns_any w
end Go.Proofs.YtmoglaknmlhpgaaGreat

/- What decisions by a policy keep (plain): duties are of the decision; targets; sets of one; order. -/
namespace Go.Proofs.YtmoglaknmlhpgaaGreat
set_option linter.unusedVariables false

def amongR (x : Dut) (l : List Rul) : Bool := l.any fun r => r.ob.any fun y => decide (y = x)
mutual
def amongP (x : Dut) : Pol → Bool
  | .mk id set alg tg rules kids ob => (ob.any fun y => decide (y = x)) || amongR x rules || amongL x kids
def amongL (x : Dut) : List Pol → Bool
  | [] => false
  | p :: l => amongP x p || amongL x l
end
theorem amongP_eq (x : Dut) (p : Pol) : amongP x p = ((p.ob.any fun y => decide (y = x)) || amongR x p.rules || amongL x p.kids) := by
  obtain ⟨id, set, alg, tg, rules, kids, ob⟩ := p
  show amongP x (.mk id set alg tg rules kids ob) = _
  rw [amongP]
  rfl
theorem amongL_mem {x : Dut} : ∀ {l : List Pol} {p : Pol}, p ∈ l → amongP x p = true → amongL x l = true
  | q :: l, p, h, ha => by
    rw [amongL, Bool.or_eq_true]
    rcases List.mem_cons.1 h with rfl | h
    · exact .inl ha
    · exact .inr (amongL_mem h ha)
def SureM (m : Mk) : Prop := m = (4, 0) ∨ m = (0, 4)
instance (m : Mk) : Decidable (SureM m) := by unfold SureM; infer_instance
theorem dutsM_mem {l : List Dut} {m : Mk} {x : Dut} (h : x ∈ dutsM l m) : SureM m ∧ (x.on = 1 ↔ m = (4, 0)) ∧ x ∈ l := by
  unfold dutsM at h
  split at h
  · rename_i e
    obtain ⟨h1, h2⟩ := List.mem_filter.1 h
    have h2 : x.on = 1 := by simpa using h2
    exact ⟨.inl e, ⟨fun _ => e, fun _ => h2⟩, h1⟩
  · rename_i e
    split at h
    · rename_i e'
      obtain ⟨h1, h2⟩ := List.mem_filter.1 h
      have h2 : x.on = 2 := by simpa using h2
      exact ⟨.inr e', ⟨fun h => by omega, fun h => absurd h e⟩, h1⟩
    · simp at h
theorem along_mem {alg : Int} {m : Mk} {x : Dut} : ∀ {l : List Res}, x ∈ alongV alg m l → ∃ r ∈ l, r.m = m ∧ x ∈ r.ob
  | [], h => by simp [alongV] at h
  | r :: l, h => by
    unfold alongV at h
    split at h
    · rename_i e
      split at h
      · exact ⟨r, by simp, e, h⟩
      · rcases List.mem_append.1 h with h | h
        · exact ⟨r, by simp, e, h⟩
        · obtain ⟨r', a, b⟩ := along_mem h
          exact ⟨r', by simp [a], b⟩
    · obtain ⟨r', a, b⟩ := along_mem h
      exact ⟨r', by simp [a], b⟩
theorem ruleT_ob {t c : Int} {r : Rul} {x : Dut} (h : x ∈ (ruleO t c r).ob) : SureM (ruleO t c r).m ∧ (x.on = 1 ↔ (ruleO t c r).m = (4, 0)) ∧ x ∈ r.ob := by
  unfold ruleO noRes at h ⊢
  split at h
  · simp at h
  · rename_i h1
    split at h
    · simp at h
    · rename_i h2
      rw [if_neg h1, if_neg h2]
      exact dutsM_mem h
theorem polV_ob {t alg : Int} {ob : List Dut} {l : List Res} {x : Dut} (h : x ∈ (polV t alg ob l).ob) : (x ∈ ob ∧ SureM (polV t alg ob l).m ∧ (x.on = 1 ↔ (polV t alg ob l).m = (4, 0))) ∨ ∃ r ∈ l, r.m = (polV t alg ob l).m ∧ x ∈ r.ob := by
  unfold polV noRes at h ⊢
  split at h
  · simp at h
  · rename_i h1
    split at h
    · simp at h
    · rename_i h2
      rw [if_neg h1, if_neg h2]
      rcases List.mem_append.1 h with h | h
      · exact .inr (along_mem h)
      · obtain ⟨a, b, c⟩ := dutsM_mem h
        exact .inl ⟨c, a, b⟩
mutual
theorem dec_ob (ask : List Giv) : ∀ (p : Pol) {x : Dut}, x ∈ (evV ask p).ob → SureM (evV ask p).m ∧ (x.on = 1 ↔ (evV ask p).m = (4, 0)) ∧ amongP x p = true
  | .mk id set alg tg rules kids ob, x, h => by
    rw [evV] at h ⊢
    rw [amongP]
    rcases polV_ob h with ⟨a, b, c⟩ | ⟨r, hr, e, hx⟩
    · refine ⟨b, c, ?_⟩
      have : (ob.any fun y => decide (y = x)) = true := List.any_eq_true.2 ⟨x, a, by simp⟩
      simp [this]
    · rw [← e]
      rcases List.mem_append.1 hr with hr | hr
      · obtain ⟨q, hq, rfl⟩ := List.mem_map.1 hr
        obtain ⟨a, b, c⟩ := ruleT_ob hx
        refine ⟨a, b, ?_⟩
        have : amongR x rules = true := List.any_eq_true.2 ⟨q, hq, List.any_eq_true.2 ⟨x, c, by simp⟩⟩
        simp [this]
      · obtain ⟨a, b, c⟩ := decs_ob ask kids hr hx
        exact ⟨a, b, by simp [c]⟩
theorem decs_ob (ask : List Giv) : ∀ (l : List Pol) {r : Res} {x : Dut}, r ∈ decL ask l → x ∈ r.ob → SureM r.m ∧ (x.on = 1 ↔ r.m = (4, 0)) ∧ amongL x l = true
  | [], r, x, h, hx => by simp [decL] at h
  | p :: l, r, x, h, hx => by
    rw [decL] at h
    rw [amongL]
    rcases List.mem_cons.1 h with rfl | h
    · obtain ⟨a, b, c⟩ := dec_ob ask p hx
      exact ⟨a, b, by simp [c]⟩
    · obtain ⟨a, b, c⟩ := decs_ob ask l h hx
      exact ⟨a, b, by simp [c]⟩
end
theorem dec_none {ask : List Giv} {p : Pol} (h : ¬ SureM (evV ask p).m) : (evV ask p).ob = [] := by
  cases e : (evV ask p).ob with
  | nil => rfl
  | cons x l => exact absurd (dec_ob ask p (x := x) (by rw [e]; simp)).1 h

def bare (p : Pol) : Pol := .mk p.id p.set p.alg [] p.rules p.kids p.ob
theorem met_empty (ask : List Giv) : metI ask [] = 2 := rfl
theorem dec_bare (ask : List Giv) (p : Pol) : evV ask (bare p) = ⟨joinV p.alg (partsV ask p), alongV p.alg (joinV p.alg (partsV ask p)) (partsV ask p) ++ dutsM p.ob (joinV p.alg (partsV ask p))⟩ := by
  rw [decV_eq]
  show polV (metI ask []) p.alg p.ob (partsV ask p) = _
  rw [met_empty]
  rfl
theorem dec_target (ask : List Giv) (p : Pol) : evV ask p = if metI ask p.tg = 1 then ⟨indM (evV ask (bare p)).m, []⟩ else if metI ask p.tg = 2 then evV ask (bare p) else noRes := by
  rw [dec_bare, decV_eq]
  have h := tri_met ask p.tg
  unfold Tri at h
  unfold polV
  by_cases h0 : metI ask p.tg = 0
  · rw [if_pos h0, if_neg (by omega), if_neg (by omega)]
  · rw [if_neg h0]
    by_cases h1 : metI ask p.tg = 1
    · rw [if_pos h1, if_pos h1]
    · rw [if_neg h1, if_neg h1, if_pos (by omega)]
theorem tg_nil : tgE [] = 0 := rfl
theorem right_bare {p : Pol} (h : rightE p = 0) : rightE (bare p) = 0 := by
  obtain ⟨h1, h2, h3, h4, s2, s3, h5, h6⟩ := right_parts h
  unfold rightE
  rw [polS]
  show (match idS p.id ⟨[], 0⟩ with | none => ((1 : Int), (⟨[], 0⟩ : Seen)) | some s1 => _).1 = 0
  rw [h1]
  simp only
  have e2 : fitsB (bare p) = true := h2
  have e3 : orE (tgE (bare p).tg) (obE (bare p).ob) = 0 := by
    show orE (tgE []) (obE p.ob) = 0
    unfold orE at h3 ⊢
    split at h3
    · rename_i h0; exact absurd h3 h0
    · rw [tg_nil, if_neg (by simp)]; exact h3
  have e4 : ¬ (16 < (bare p).rules.length ∨ 16 < (bare p).kids.length) := h4
  have e5 : firstS ruleS (bare p).rules ⟨[p.id], 0⟩ = (0, s2) := h5
  have e6 : firstS (polS 3) (bare p).kids s2 = (0, s3) := h6
  rw [e2, e3, e5, e6]
  simp [e4]
theorem make_unless5 (l : List Mk) : makeM 5 l = (4, 0) ∨ makeM 5 l = (0, 4) := by
  unfold makeM decideM
  simp only [show (5 : Fin 6) ≠ 0 by decide, show (5 : Fin 6) ≠ 1 by decide, show (5 : Fin 6) ≠ 2 by decide, show (5 : Fin 6) ≠ 3 by decide, show (5 : Fin 6) ≠ 4 by decide, if_false]
  split
  · exact .inr rfl
  · exact .inl rfl
theorem allK_six (a : Fin 6) (ask : List Giv) (p : Pol) (h : p.alg = algN a) : joinV p.alg (partsV ask p) = makeM a ((partsV ask p).map Res.m) := by
  unfold joinV
  rw [h, allK_right a (parts_right ask p)]
theorem dec_unless (ask : List Giv) {p : Pol} (h : p.alg = 5 ∨ p.alg = 6) (ht : p.tg = []) : SureM (evV ask p).m := by
  rw [decV_eq, ht, met_empty]
  show SureM (joinV p.alg (partsV ask p))
  rcases h with h | h
  · rw [allK_six 4 ask p h]; exact make_unless _
  · rw [allK_six 5 ask p h]; exact make_unless5 _

def around (id : ByteArray) (k : Int) (p : Pol) : Pol := .mk id true k [] [] [p] []
def setO (k : Int) (r : Res) : Res :=
  if k = 4 ∧ ¬ r.m = (0, 0) ∧ ¬ SureM r.m then ⟨(2, 2), []⟩ else if k = 5 ∧ ¬ SureM r.m then ⟨(0, 4), []⟩ else if k = 6 ∧ ¬ SureM r.m then ⟨(4, 0), []⟩ else r
theorem make_one_ : ∀ a : Fin 6, ∀ p d : Fin 5, rightK (p, d) = true →
    makeM a [(p, d)] = if a = 3 ∧ ¬ (p, d) = ((0, 0) : Mk) ∧ ¬ SureM (p, d) then (2, 2) else if a = 4 ∧ ¬ SureM (p, d) then (0, 4) else if a = 5 ∧ ¬ SureM (p, d) then (4, 0) else (p, d) := by decide +kernel
theorem dec_around (ask : List Giv) (id : ByteArray) (a : Fin 6) (p : Pol) : evV ask (around id (algN a) p) = setO (algN a) (evV ask p) := by
  have hr := dec_right ask p
  have e1 := make_one_ a (evV ask p).m.1 (evV ask p).m.2 hr
  rw [decV_eq]
  show polV (metI ask []) (algN a) [] [evV ask p] = _
  rw [met_empty]
  have e2 : joinV (algN a) [evV ask p] = makeM a [(evV ask p).m] := by
    unfold joinV
    rw [allK_right a (show Six ([evV ask p].map Res.m) from fun m hm => by simp at hm; subst hm; exact hr)]
    rfl
  have hn := dec_none (ask := ask) (p := p)
  show (⟨joinV (algN a) [evV ask p], alongV (algN a) (joinV (algN a) [evV ask p]) [evV ask p] ++ dutsM [] (joinV (algN a) [evV ask p])⟩ : Res) = _
  rw [e2]
  have e3 : ∀ m, dutsM [] m = [] := fun m => by unfold dutsM; split <;> simp
  rw [e3, List.append_nil]
  have e4 : alongV (algN a) (makeM a [(evV ask p).m]) [evV ask p] = if (evV ask p).m = makeM a [(evV ask p).m] then (evV ask p).ob else [] := by
    unfold alongV
    simp only [alongV, List.append_nil]
    split
    · split <;> rfl
    · rfl
  rw [e4]
  generalize evV ask p = r at *
  obtain ⟨m, ob⟩ := r
  simp only at *
  have e1' : makeM a [m] = _ := e1
  rw [e1']
  unfold setO
  simp only
  obtain ⟨rfl, e⟩ | ⟨rfl, e⟩ | ⟨rfl, e⟩ | ⟨rfl, e⟩ | ⟨rfl, e⟩ | ⟨rfl, e⟩ := alg6 a <;> rw [e] <;> simp
  · by_cases h1 : m = (0, 0)
    · simp [h1]
    · by_cases h2 : SureM m
      · simp [h1, h2]
      · have h2' : ¬ SureM m := h2
        simp [h1, h2', hn h2']
        intro a b
        exact absurd (Prod.ext a b) h1
  · by_cases h2 : SureM m
    · simp [h2]
    · simp [h2]
      intro a
      exact absurd (.inr a) h2
  · by_cases h2 : SureM m
    · simp [h2]
    · simp [h2]
      intro a
      exact absurd (.inl a) h2
theorem right_around {id : ByteArray} {k : Int} {p : Pol} (h : rightE (around id k p) = 0) : rightE p = 0 := (right_all h).1 p (by simp [around, Pol.kids])
end Go.Proofs.YtmoglaknmlhpgaaGreat
/- bailiffkeep: how much of a target may be gone through. -/
namespace Go.Proofs.YtmoglaknmlhpgaaGreat
set_option linter.unusedVariables false
open Go.RowKit

theorem takes1_any {w : World} {g m n : Nat} (hl : Lf w g m) (hm : m ≤ 3000) (hn : n < maxLen) :
    Calls Tryz.prog 29 #[.pointer (some ⟨g, 0, none⟩), .int .i64 (1 + (n : Int))] w fun e w' => e = .returned (.bool (decide (1 + n ≤ m))) ∧ Only g w w' ∧ (1 + n ≤ m → Lf w' g (m - (1 + n))) := by
  have := takes_any (n := 1 + n) hl hm (by omega)
  unfold Taking at this
  rwa [show ((1 + n : Nat) : Int) = 1 + (n : Int) by omega] at this

set_option maxRecDepth 100000 in
set_option maxHeartbeats 1600000 in
theorem ktarget_any {w : World} {R : Nat → Prop} {g m n c : Nat} {A : Option Addr} {l : Tgt} (hl : Lf w g m) (hm : m ≤ 3000) (hR : ∀ b, R b → b ≠ g) (h : Tg w R A n c l) :
    Taking 44 #[.pointer (some ⟨g, 0, none⟩), .slice A n c] w g m (tgC l) := by
  have hle := Rw.le h
  have hcap := Rw.cap h
  have HL := Lib.hid (Rw.len h)
  have hbig := Rw.big h
  have HT := Lib.hid (takes1_any (n := n) hl hm (by unfold maxLen; omega))
  have H := Lib.hid h
  have HR := Lib.hid hR
  have HM := Lib.hid hm
  unfold maxLen at hcap
  unfold Taking
  have HC : Hid (tgC l = 1 + n + sumC anyC l) := by show tgC l = _; unfold tgC; rw [HL.out]
  generalize hcc : tgC l = cc at *
  clear hcc h hl hR hm
  by_cases h1 : 1 + n ≤ m
  · rw [decide_eq_true h1] at HT
    have H1 := Lib.hid h1
    clear h1
    go_enter Tryz.func44, Tryz.ntmps44
    go_wp2_with (go_at_call 29; refine HT.out.mono ?_; rintro e w1 ⟨rfl, hb, hw⟩; have B1 := Lib.hid hb; have W1 := Lib.hid (hw H1.out); clear hb hw)
    go_loopw [19] (fun i wr => ∃ k mk : Nat, k ≤ n ∧ i = .int .i64 k ∧ sumC anyC (l.take k) + mk = m - (1 + n) ∧ Lf wr g mk ∧ Only g w wr) (fun i _ => n - (intOf i).toNat)
    case atStart => exact ⟨0, m - (1 + n), Nat.zero_le _, rfl, by rw [sumC_zero]; omega, W1.out, B1.out⟩
    case round =>
      obtain ⟨wo, hwo⟩ : ∃ wo, wo = wr := ⟨wr, rfl⟩
      subst hwo
      obtain ⟨k, mk, hk, rfl, hs, hlf, hb⟩ := hrel
      have HS := Lib.hid hs
      have HB := Lib.hid hb
      have HF := Lib.hid hlf
      clear hs hb hlf
      by_cases hlt : k < n
      · obtain ⟨b, o, x, A', n', c', rfl, hRb, hbl, hx, c0, hin⟩ := (H.out.keep (HB.out.kept HR.out) (fun _ h _ => h)).at_ hlt
        have HX := Lib.hid hx
        have hle' := Rw.le hin
        have hcap' := Rw.cap hin
        have hbig' := Rw.big hin
        have HL' := Lib.hid (Rw.len hin)
        have HIN := Lib.hid hin
        have hsx := sumC_le (f := anyC) hx
        have hex : anyC x = 1 + n' + sumC allC x := by unfold anyC; rw [Rw.len hin]
        have HSX := Lib.hid hsx
        have HEX := Lib.hid hex
        clear hx hin hsx hex
        by_cases h2 : 1 + n' ≤ mk
        · have HT2 := Lib.hid (takes1_any (n := n') HF.out (by have := HS.out; have := HM.out; omega) (by unfold maxLen; omega))
          rw [decide_eq_true h2] at HT2
          unfold maxLen at hcap'
          have H2 := Lib.hid h2
          clear h2
          go_wp2_with (go_at_call 29; refine HT2.out.mono ?_; rintro e w2 ⟨rfl, hb, hw⟩; have B2 := Lib.hid hb; have W2 := Lib.hid (hw H2.out); clear hb hw)
          go_loopw [31] (fun i wq => ∃ k2 m2 : Nat, k2 ≤ n' ∧ i = .int .i64 k2 ∧ sumC allC (x.take k2) + m2 = mk - (1 + n') ∧ Lf wq g m2 ∧ Only g wo wq) (fun i _ => n' - (intOf i).toNat)
          case atStart => exact ⟨0, mk - (1 + n'), Nat.zero_le _, rfl, by rw [sumC_zero]; omega, W2.out, B2.out⟩
          case round =>
            obtain ⟨wq, hwq⟩ : ∃ wq, wq = wr := ⟨wr, rfl⟩
            subst hwq
            obtain ⟨k2, m2, hk2, rfl, hs, hlf, hb⟩ := hrel
            have HS2 := Lib.hid hs
            have HB2 := Lib.hid hb
            have HF2 := Lib.hid hlf
            clear hs hb hlf
            by_cases hlt2 : k2 < n'
            · obtain ⟨b2, o2, y, A2, n2, c2, rfl, hRb2, hbl2, hy, d0, hin2⟩ := (HIN.out.keep (HB2.out.kept HR.out) (fun _ h _ => h)).at_ hlt2
              have HY := Lib.hid hy
              have hle2 := Rw.le hin2
              have hcap2 := Rw.cap hin2
              have hbig2 := Rw.big hin2
              have HL2 := Lib.hid (Rw.len hin2)
              have HIN2 := Lib.hid hin2
              have hsy := sumC_le (f := allC) hy
              have hey : allC y = 1 + n2 + sumC matC y := by unfold allC; rw [Rw.len hin2]
              have HSY := Lib.hid hsy
              have HEY := Lib.hid hey
              clear hy hin2 hsy hey
              by_cases h3 : 1 + n2 ≤ m2
              · have HT3 := Lib.hid (takes1_any (n := n2) HF2.out (by have := HS2.out; have := HS.out; have := HM.out; omega) (by unfold maxLen; omega))
                rw [decide_eq_true h3] at HT3
                unfold maxLen at hcap2
                have H3 := Lib.hid h3
                clear h3
                go_wp2_with (go_at_call 29; refine HT3.out.mono ?_; rintro e w3 ⟨rfl, hb, hw⟩; have B3 := Lib.hid hb; have W3 := Lib.hid (hw H3.out); clear hb hw)
                go_loopw [43] (fun i wz => ∃ k3 m3 : Nat, k3 ≤ n2 ∧ i = .int .i64 k3 ∧ sumC matC (y.take k3) + m3 = m2 - (1 + n2) ∧ Lf wz g m3 ∧ Only g wq wz) (fun i _ => n2 - (intOf i).toNat)
                case atStart => exact ⟨0, m2 - (1 + n2), Nat.zero_le _, rfl, by rw [sumC_zero]; omega, W3.out, B3.out⟩
                case round =>
                  obtain ⟨wz, hwz⟩ : ∃ wz, wz = wr := ⟨wr, rfl⟩
                  subst hwz
                  obtain ⟨k3, m3, hk3, rfl, hs, hlf, hb⟩ := hrel
                  have HS3 := Lib.hid hs
                  have HB3 := Lib.hid hb
                  have HF3 := Lib.hid hlf
                  clear hs hb hlf
                  by_cases hlt3 : k3 < n2
                  · obtain ⟨b3, o3, z, rfl, hRb3, hbl3, hz, hok, f0, f1, f2, f3, f4, f5, f6⟩ := (HIN2.out.keep (HB3.out.kept HR.out) (fun _ h _ => h)).at_ hlt3
                    have HZ := Lib.hid hz
                    have HSZ := Lib.hid (sumC_le (f := matC) hz)
                    have HEZ : Hid (matC z = textC z.a.name + textC z.v.s) := rfl
                    have HXT := Lib.hid (ktext_any z.a.name (HF3.out.alloc (.cells #[.int .i64 z.a.cat, .string z.a.name, .bool z.a.must, .int .i64 z.op, .int .i64 z.v.k, .int .i64 z.v.n, .string z.v.s] 64)) (by have := HS3.out; have := HS2.out; have := HS.out; have := HM.out; omega) hok.1.2)
                    unfold Taking at HXT
                    have HOK := Lib.hid hok
                    have HLT : Hid (g < wz.heap.size) := HF3.out.lt
                    clear hz hok
                    by_cases h4 : textC z.a.name ≤ m3
                    · rw [decide_eq_true h4] at HXT
                      have H4 := Lib.hid h4
                      have hne : wz.heap.size ≠ g := by have := HLT.out; omega
                      clear h4
                      by_cases h5 : textC z.v.s ≤ m3 - textC z.a.name
                      · have H5 := Lib.hid h5
                        have d5 := decide_eq_true h5
                        clear h5
                        go_wp2_with (first
                          | (go_at_call 30; (with_reducible refine HXT.out.mono ?_); rintro e w4 ⟨rfl, hb, hw⟩; have B4 := Lib.hid hb; have W4 := Lib.hid (hw H4.out); have BX := Lib.hid ((Ob.made wz 64 #[.int .i64 z.a.cat, .string z.a.name, .bool z.a.must, .int .i64 z.op, .int .i64 z.v.k, .int .i64 z.v.n, .string z.v.s]).keep (hb.heap (by simp) hne)); have g6 := BX.out.cell 6; have HXT2 := Lib.hid (ktext_any z.v.s W4.out (by have := HS3.out; have := HS2.out; have := HS.out; have := HM.out; omega) HOK.out.2.2.2.2); unfold Taking at HXT2; rw [d5] at HXT2; clear hb hw)
                          | (go_at_call 30; (with_reducible refine HXT2.out.mono ?_); rintro e w5 ⟨rfl, hb, hw⟩; have B5 := Lib.hid hb; have W5 := Lib.hid (hw H5.out); clear hb hw))
                        go_roundw
                        case rel => exact ⟨k3 + 1, m3 - textC z.a.name - textC z.v.s, by omega, by go_num, by rw [sumC_take HZ.out, HEZ.out]; have := HS3.out; have := H4.out; have := H5.out; omega, W5.out, HB3.out.trans ((Only.alloc _ _ _).trans (B4.out.trans B5.out))⟩
                        case measure => simp [intOf]; omega
                      · have H5 := Lib.hid h5
                        have d5 := decide_eq_false h5
                        clear h5
                        go_wp2_with (first
                          | (go_at_call 30; (with_reducible refine HXT.out.mono ?_); rintro e w4 ⟨rfl, hb, hw⟩; have B4 := Lib.hid hb; have W4 := Lib.hid (hw H4.out); have BX := Lib.hid ((Ob.made wz 64 #[.int .i64 z.a.cat, .string z.a.name, .bool z.a.must, .int .i64 z.op, .int .i64 z.v.k, .int .i64 z.v.n, .string z.v.s]).keep (hb.heap (by simp) hne)); have g6 := BX.out.cell 6; have HXT2 := Lib.hid (ktext_any z.v.s W4.out (by have := HS3.out; have := HS2.out; have := HS.out; have := HM.out; omega) HOK.out.2.2.2.2); unfold Taking at HXT2; rw [d5] at HXT2; clear hb hw)
                          | (go_at_call 30; (with_reducible refine HXT2.out.mono ?_); rintro e w5 ⟨rfl, hb, hw⟩; have B5 := Lib.hid hb; clear hb hw))
                        go_ret
                        have hbad : ¬ cc ≤ m := by
                          have := HC.out; have := HS.out; have := H1.out; have := HSX.out; have := HEX.out; have := HS2.out; have := H2.out; have := HSY.out; have := HEY.out; have := HS3.out; have := H3.out; have := HSZ.out; have := HEZ.out; have := H4.out; have := H5.out
                          omega
                        exact ⟨ret_bool (decide_eq_false hbad).symm, HB.out.trans (HB2.out.trans (HB3.out.trans ((Only.alloc _ _ _).trans (B4.out.trans B5.out)))), fun h => absurd h hbad⟩
                    · rw [decide_eq_false h4] at HXT
                      have H4 := Lib.hid h4
                      clear h4
                      go_wp2_with (go_at_call 30; refine HXT.out.mono ?_; rintro e w4 ⟨rfl, hb, hw⟩; have B4 := Lib.hid hb; clear hb hw)
                      go_ret
                      have hbad : ¬ cc ≤ m := by
                        have := HC.out; have := HS.out; have := H1.out; have := HSX.out; have := HEX.out; have := HS2.out; have := H2.out; have := HSY.out; have := HEY.out; have := HS3.out; have := H3.out; have := HSZ.out; have := HEZ.out; have := H4.out
                        omega
                      exact ⟨ret_bool (decide_eq_false hbad).symm, HB.out.trans (HB2.out.trans (HB3.out.trans ((Only.alloc _ _ _).trans B4.out))), fun h => absurd h hbad⟩
                  · obtain rfl : k3 = n2 := by omega
                    go_wp2
                    go_roundw
                    case rel =>
                      have hs := HS3.out
                      rw [sumC_all HL2.out] at hs
                      exact ⟨k2 + 1, m3, by omega, by go_num, by rw [sumC_take HY.out, HEY.out]; have := HS2.out; have := H3.out; omega, HF3.out, HB2.out.trans HB3.out⟩
                    case measure => simp [intOf]; omega
              · have HT3 := Lib.hid (takes1_any (n := n2) HF2.out (by have := HS2.out; have := HS.out; have := HM.out; omega) (by unfold maxLen; omega))
                rw [decide_eq_false h3] at HT3
                unfold maxLen at hcap2
                have H3 := Lib.hid h3
                clear h3
                go_wp2_with (go_at_call 29; refine HT3.out.mono ?_; rintro e w3 ⟨rfl, hb, hw⟩; have B3 := Lib.hid hb; clear hb hw)
                go_ret
                have hbad : ¬ cc ≤ m := by
                  have := HC.out; have := HS.out; have := H1.out; have := HSX.out; have := HEX.out; have := HS2.out; have := H2.out; have := HSY.out; have := HEY.out; have := H3.out
                  omega
                exact ⟨ret_bool (decide_eq_false hbad).symm, HB.out.trans (HB2.out.trans B3.out), fun h => absurd h hbad⟩
            · obtain rfl : k2 = n' := by omega
              go_wp2
              go_roundw
              case rel =>
                have hs := HS2.out
                rw [sumC_all HL'.out] at hs
                exact ⟨k + 1, m2, by omega, by go_num, by rw [sumC_take HX.out, HEX.out]; have := HS.out; have := H2.out; omega, HF2.out, HB.out.trans HB2.out⟩
              case measure => simp [intOf]; omega
        · have HT2 := Lib.hid (takes1_any (n := n') HF.out (by have := HS.out; have := HM.out; omega) (by unfold maxLen; omega))
          rw [decide_eq_false h2] at HT2
          unfold maxLen at hcap'
          have H2 := Lib.hid h2
          clear h2
          go_wp2_with (go_at_call 29; refine HT2.out.mono ?_; rintro e w2 ⟨rfl, hb, hw⟩; have B2 := Lib.hid hb; clear hb hw)
          go_ret
          have hbad : ¬ cc ≤ m := by
            have := HC.out; have := HS.out; have := H1.out; have := HSX.out; have := HEX.out; have := H2.out
            omega
          exact ⟨ret_bool (decide_eq_false hbad).symm, HB.out.trans B2.out, fun h => absurd h hbad⟩
      · obtain rfl : k = n := by omega
        go_wp2
        go_ret
        have hs := HS.out
        rw [sumC_all HL.out] at hs
        have := HC.out
        have := H1.out
        exact ⟨ret_bool (decide_eq_true (by omega)).symm, HB.out, fun _ => by rw [show m - cc = mk by omega]; exact HF.out⟩
  · rw [decide_eq_false h1] at HT
    have H1 := Lib.hid h1
    clear h1
    go_enter Tryz.func44, Tryz.ntmps44
    go_wp2_with (go_at_call 29; refine HT.out.mono ?_; rintro e w1 ⟨rfl, hb, hw⟩; have B1 := Lib.hid hb; clear hb hw)
    go_ret
    have hbad : ¬ cc ≤ m := by have := HC.out; have := H1.out; omega
    exact ⟨ret_bool (decide_eq_false hbad).symm, B1.out, fun h => absurd h hbad⟩
end Go.Proofs.YtmoglaknmlhpgaaGreat
