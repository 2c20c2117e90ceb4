/- lex.All: from label to label. -/
import Derived.Test.YtpedfkigneahgaaDoorLexAllF
namespace Go.Proofs.YtpedfkigneahgaaDoor
set_option linter.unusedVariables false
open Go.RowKit

set_option maxRecDepth 100000 in
set_option maxHeartbeats 1600000 in
theorem pass1 (s : ByteArray) (W : World) (hs : s.size ≤ 4096) (a : Act) (wr : World) (hJ : JTok s W 1 a wr) : ∃ R, findLabel allCode 1 = some R ∧ R.wp Tryd.prog (exitsTo (fun l' a' w' => JAll s W l' a' w' ∧ muAll s l' a' w' < muAll s 1 a wr) (allQ s W)) a wr := by
  refine ⟨_, rfl, ?_⟩
  obtain ⟨ts, A, m, c, k, b, ve, vo, hf, hb, hk, hkb, hbl, hg, ht⟩ := hJ
  rw [mu_eq hf]
  obtain ⟨u, rfl⟩ := hf
  have HB := Lib.hid hb
  have HKB := Lib.hid hkb
  have HBL := Lib.hid hbl
  have HD := Lib.hid (drop_at' hkb)
  have T1 := Lib.hid (ht.setK 1)
  have c1 := ht.c4
  have f1 := ht.fz
  have c2 := T1.out.c4
  have f2 := T1.out.fz
  have hpa := past_inName s (by unfold maxLen; omega) (k) (by omega) wr
  have hle := tw_le s inm (k) (by omega)
  have hex := ext_tw s inm (k)
  have hl1 := goes1 hg
  have HV : Hid (tokB (s.data.toList.drop k) = if Named ((s.data.toList.drop k).takeWhile inm) then some (1, 0, (s.data.toList.drop k).takeWhile inm, ((s.data.toList.drop k).takeWhile inm).length) else none) := by
    show _ = _
    rw [HD.out, tokB, if_pos hl1]
  generalize hnm : (s.data.toList.drop (k)).takeWhile inm = nm at *
  generalize he : k + nm.length = e at *
  have hnv := lname_any (s.extract (k) e) (wr.setCell ⟨W.heap.size, 0, none⟩ (.int .i64 1)) (by rw [ext_size _ hle]; omega)
  have HX : Hid (nameV (s.extract (k) e) = .tuple #[.string (if Named nm then ⟨nm.toArray⟩ else ⟨#[]⟩), .bool (decide (Named nm))]) := by
    show _ = _
    unfold nameV
    rw [hex]
    by_cases h : Named nm
    · rw [if_pos h, if_pos h, ba_of hex]
    · rw [if_neg h, if_neg h]
  rw [HX.out] at hnv
  have HBK : Hid (BackT (if Named nm then some (1, 0, nm, nm.length) else none) k (decide (Named nm)) 1 0 (if Named nm then ⟨nm.toArray⟩ else ⟨#[]⟩) (e : Int)) := by
    show BackT _ _ _ _ _ _ _
    by_cases h : Named nm
    · rw [if_pos h, if_pos h, decide_eq_true h]
      exact back_some rfl (by omega)
    · rw [if_neg h, if_neg h, decide_eq_false h]
      exact back_none
  generalize (if Named nm then (⟨nm.toArray⟩ : ByteArray) else ⟨#[]⟩) = x at *
  generalize decide (Named nm) = ok at *
  have HPA := Lib.hid hpa
  have HNV := Lib.hid hnv
  have HB1 := Lib.hid (HB.out.set 0 (.int .i64 1))
  have hki : k ≤ e := by omega
  have hki2 : ((k : Nat) : Int) ≤ (e : Int) := by omega
  have hki3 : (k : Int) + 1 ≤ (e : Int) + 1 := by omega
  have hki4 : ((k : Int) + 1).toNat = k + 1 := by omega
  have hki5 : (0 : Int) ≤ (k : Int) + 1 := by omega
  clear hpa hnv hb hkb hbl hg ht hex hnm he hl1
  go_wp2_with fail
  refine HPA.out.mono ?_
  rintro e' w' ⟨rfl, rfl⟩
  go_wp2_with fail
  refine HNV.out.mono ?_
  rintro e' w2 ⟨rfl, hb2⟩
  have T2 := Lib.hid (T1.out.then_ hb2)
  have T3 := Lib.hid (T2.out.setS x)
  have HB3 := Lib.hid ((HB1.out.then_ hb2).set 3 (.string x))
  have c3 := T2.out.c4
  have f3 := T2.out.fz
  clear hb2
  go_wp2_with fail
  go_step3
  refine ⟨JAll7 ⟨ts, A, m, c, k, b, _, _, _, _, _, _, Fr_mk, (HB3.out : ABase s W ts A m c k _), hk, HKB.out, HBL.out, T3.out, ?_⟩, ?_⟩
  · rw [HV.out]
    exact HBK.out
  · rw [mu_eq Fr_mk]
    simp

set_option maxRecDepth 100000 in
set_option maxHeartbeats 1600000 in
theorem pass4 (s : ByteArray) (W : World) (hs : s.size ≤ 4096) (a : Act) (wr : World) (hJ : JTok s W 4 a wr) : ∃ R, findLabel allCode 4 = some R ∧ R.wp Tryd.prog (exitsTo (fun l' a' w' => JAll s W l' a' w' ∧ muAll s l' a' w' < muAll s 4 a wr) (allQ s W)) a wr := by
  refine ⟨_, rfl, ?_⟩
  obtain ⟨ts, A, m, c, k, b, ve, vo, hf, hb, hk, hkb, hbl, hg, ht⟩ := hJ
  rw [mu_eq hf]
  obtain ⟨u, rfl⟩ := hf
  have HB := Lib.hid hb
  have HKB := Lib.hid hkb
  have HBL := Lib.hid hbl
  have HD := Lib.hid (drop_at' hkb)
  have T1 := Lib.hid (ht.setK 4)
  have c1 := ht.c4
  have f1 := ht.fz
  have c2 := T1.out.c4
  have f2 := T1.out.fz
  have hpa := past_inName s (by unfold maxLen; omega) (k + 1) (by omega) wr
  have hle := tw_le s inm (k + 1) (by omega)
  have hex := ext_tw s inm (k + 1)
  have hl1 := goes4 hg
  have HV : Hid (tokB (s.data.toList.drop k) = if Named ((s.data.toList.drop (k + 1)).takeWhile inm) then some (4, 0, (s.data.toList.drop (k + 1)).takeWhile inm, ((s.data.toList.drop (k + 1)).takeWhile inm).length + 1) else none) := by
    show _ = _
    rw [HD.out, hl1, tokB, if_neg (by decide), if_neg (by decide), if_neg (by decide), if_neg (by decide), if_pos rfl]
  generalize hnm : (s.data.toList.drop (k + 1)).takeWhile inm = nm at *
  generalize he : k + 1 + nm.length = e at *
  have hnv := lname_any (s.extract (k + 1) e) (wr.setCell ⟨W.heap.size, 0, none⟩ (.int .i64 4)) (by rw [ext_size _ hle]; omega)
  have HX : Hid (nameV (s.extract (k + 1) e) = .tuple #[.string (if Named nm then ⟨nm.toArray⟩ else ⟨#[]⟩), .bool (decide (Named nm))]) := by
    show _ = _
    unfold nameV
    rw [hex]
    by_cases h : Named nm
    · rw [if_pos h, if_pos h, ba_of hex]
    · rw [if_neg h, if_neg h]
  rw [HX.out] at hnv
  have HBK : Hid (BackT (if Named nm then some (4, 0, nm, nm.length + 1) else none) k (decide (Named nm)) 4 0 (if Named nm then ⟨nm.toArray⟩ else ⟨#[]⟩) (e : Int)) := by
    show BackT _ _ _ _ _ _ _
    by_cases h : Named nm
    · rw [if_pos h, if_pos h, decide_eq_true h]
      exact back_some rfl (by omega)
    · rw [if_neg h, if_neg h, decide_eq_false h]
      exact back_none
  generalize (if Named nm then (⟨nm.toArray⟩ : ByteArray) else ⟨#[]⟩) = x at *
  generalize decide (Named nm) = ok at *
  have HPA := Lib.hid hpa
  have HNV := Lib.hid hnv
  have HB1 := Lib.hid (HB.out.set 0 (.int .i64 4))
  have hki : k + 1 ≤ e := by omega
  have hki2 : ((k + 1 : Nat) : Int) ≤ (e : Int) := by omega
  have hki3 : (k : Int) + 1 ≤ (e : Int) + 1 := by omega
  have hki4 : ((k : Int) + 1).toNat = k + 1 := by omega
  have hki5 : (0 : Int) ≤ (k : Int) + 1 := by omega
  have hki6 : (k : Int) + 1 ≤ (e : Int) := by omega
  clear hpa hnv hb hkb hbl hg ht hex hnm he hl1
  go_wp2_with fail
  refine HPA.out.mono ?_
  rintro e' w' ⟨rfl, rfl⟩
  go_wp2_with fail
  refine HNV.out.mono ?_
  rintro e' w2 ⟨rfl, hb2⟩
  have T2 := Lib.hid (T1.out.then_ hb2)
  have T3 := Lib.hid (T2.out.setS x)
  have HB3 := Lib.hid ((HB1.out.then_ hb2).set 3 (.string x))
  have c3 := T2.out.c4
  have f3 := T2.out.fz
  clear hb2
  go_wp2_with fail
  go_step3
  refine ⟨JAll7 ⟨ts, A, m, c, k, b, _, _, _, _, _, _, Fr_mk, (HB3.out : ABase s W ts A m c k _), hk, HKB.out, HBL.out, T3.out, ?_⟩, ?_⟩
  · rw [HV.out]
    exact HBK.out
  · rw [mu_eq Fr_mk]
    simp
end Go.Proofs.YtpedfkigneahgaaDoor
