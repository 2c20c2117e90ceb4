/- lex.All: from label to label. -/
import Derived.Test.YtpedfkigneahgaaDoorLexAllF
namespace Go.Proofs.YtpedfkigneahgaaDoor
set_option linter.unusedVariables false
open Go.RowKit

set_option maxRecDepth 100000 in
set_option maxHeartbeats 1600000 in
theorem pass5 (s : ByteArray) (W : World) (hs : s.size ≤ 4096) (a : Act) (wr : World) (hJ : JTok s W 5 a wr) : ∃ R, findLabel allCode 5 = some R ∧ R.wp Tryd.prog (exitsTo (fun l' a' w' => JAll s W l' a' w' ∧ muAll s l' a' w' < muAll s 5 a wr) (allQ s W)) a wr := by
  refine ⟨_, rfl, ?_⟩
  obtain ⟨ts, A, m, c, k, b, ve, vo, hf, hb, hk, hkb, hbl, hg, ht⟩ := hJ
  rw [mu_eq hf]
  obtain ⟨u, rfl⟩ := hf
  have HB := Lib.hid hb
  have HKB := Lib.hid hkb
  have HBL := Lib.hid hbl
  have HD := Lib.hid (drop_at' hkb)
  have T1 := Lib.hid (ht.setK 5)
  have c1 := ht.c4
  have f1 := ht.fz
  have c2 := T1.out.c4
  have f2 := T1.out.fz
  have hnv := ltext_any s (by omega) (k + 1) (by omega) (wr.setCell ⟨W.heap.size, 0, none⟩ (.int .i64 5))
  have hl1 := goes5 hg
  have HV : Hid (tokB (s.data.toList.drop k) = (txtR (s.data.toList.drop (k + 1))).map fun p => (5, 0, p.1, p.2 + 1)) := by
    show _ = _
    rw [HD.out, hl1, tokB, if_neg (by decide), if_neg (by decide), if_neg (by decide), if_neg (by decide), if_neg (by decide), if_pos rfl]
    unfold txtR
    cases qtB (s.data.toList.drop (k + 1)) with
    | none => rfl
    | some p =>
      simp only [Option.bind_some]
      by_cases hz : p.1.length ≤ 64
      · rw [if_pos hz, if_pos hz]; rfl
      · rw [if_neg hz, if_neg hz]; rfl
  obtain ⟨x, e, ok, HX, HBK⟩ : ∃ (x : ByteArray) (e : Int) (ok : Bool), Hid (textV s.data.toList (k + 1) = .tuple #[.string x, .int .i64 e, .bool ok]) ∧ Hid (BackT ((txtR (s.data.toList.drop (k + 1))).map fun p => (5, 0, p.1, p.2 + 1)) k ok 5 0 x e) := by
    cases ho : txtR (s.data.toList.drop (k + 1)) with
    | none => exact ⟨_, _, _, textV_none ho, back_none⟩
    | some p => exact ⟨_, _, _, textV_some ho, back_some rfl (by omega)⟩
  rw [HX.out] at hnv
  have HNV := Lib.hid hnv
  have HB1 := Lib.hid (HB.out.set 0 (.int .i64 5))
  have hki4 : ((k : Int) + 1).toNat = k + 1 := by omega
  have hki5 : (0 : Int) ≤ (k : Int) + 1 := by omega
  clear hnv hb hkb hbl hg ht hl1
  go_wp2_with fail
  refine HNV.out.mono ?_
  rintro e' w2 ⟨rfl, hb2⟩
  have T2 := Lib.hid (T1.out.then_ hb2)
  have T3 := Lib.hid (T2.out.setS x)
  have HB3 := Lib.hid ((HB1.out.then_ hb2).set 3 (.string x))
  have c3 := T2.out.c4
  have f3 := T2.out.fz
  clear hb2
  go_wp2_with fail
  go_step3
  refine ⟨JAll7 ⟨ts, A, m, c, k, b, _, _, _, _, _, _, Fr_mk, (HB3.out : ABase s W ts A m c k _), hk, HKB.out, HBL.out, T3.out, ?_⟩, ?_⟩
  · rw [HV.out]
    exact HBK.out
  · rw [mu_eq Fr_mk]
    simp
end Go.Proofs.YtpedfkigneahgaaDoor
