/- lex.All: from label to label. -/
import Derived.Test.YtpedfkigneahgaaDoorLexAll7
namespace Go.Proofs.YtpedfkigneahgaaDoor
set_option linter.unusedVariables false
open Go.RowKit

set_option maxRecDepth 100000 in
set_option maxHeartbeats 1600000 in
theorem pass6 (s : ByteArray) (W : World) (hs : s.size ≤ 4096) (a : Act) (wr : World) (hJ : JTok s W 6 a wr) : ∃ R, findLabel allCode 6 = some R ∧ R.wp Tryd.prog (exitsTo (fun l' a' w' => JAll s W l' a' w' ∧ muAll s l' a' w' < muAll s 6 a wr) (allQ s W)) a wr := by
  refine ⟨_, rfl, ?_⟩
  obtain ⟨ts, A, m, c, k, b, ve, vo, hf, hb, hk, hkb, hbl, hg, ht⟩ := hJ
  rw [mu_eq hf]
  obtain ⟨u, rfl⟩ := hf
  have HB := Lib.hid hb
  have HKB := Lib.hid hkb
  have HBL := Lib.hid hbl
  have HD := Lib.hid (drop_at' hkb)
  have T1 := Lib.hid (ht.setK 6)
  have c1 := ht.c4
  have f1 := ht.fz
  have c2 := T1.out.c4
  have f2 := T1.out.fz
  have hl1 := goes6 hg
  have hnv := mark_any b (wr.setCell ⟨W.heap.size, 0, none⟩ (.int .i64 6))
  have HV : Hid (tokB (s.data.toList.drop k) = if mrk b = true then some (6, 0, [b], 1) else none) := by
    show _ = _
    rw [HD.out, tokB, if_neg (by rw [hl1.1]; simp), if_neg (by rw [hl1.2.1]; simp), if_neg hl1.2.2.1, if_neg hl1.2.2.2.1, if_neg hl1.2.2.2.2.1, if_neg hl1.2.2.2.2.2]
  have HX : Hid (markV b = .tuple #[.string (if mrk b = true then ⟨#[b]⟩ else ⟨#[]⟩), .bool (mrk b)]) := rfl
  rw [HX.out] at hnv
  have HBK : Hid (BackT (if mrk b = true then some (6, 0, [b], 1) else none) k (mrk b) 6 0 (if mrk b = true then ⟨#[b]⟩ else ⟨#[]⟩) ((k : Int) + 1)) := by
    show BackT _ _ _ _ _ _ _
    cases h : mrk b with
    | true => rw [if_pos rfl, if_pos rfl]; exact back_some rfl (by omega)
    | false => rw [if_neg (by simp), if_neg (by simp)]; exact back_none
  have hbyte : s[k] = b := by
    have := data_at hk
    rw [hkb] at this
    exact (Option.some.inj this).symm
  generalize (if mrk b = true then (⟨#[b]⟩ : ByteArray) else ⟨#[]⟩) = x at *
  generalize mrk b = ok at *
  have HNV := Lib.hid hnv
  have HB1 := Lib.hid (HB.out.set 0 (.int .i64 6))
  have hki : 0 ≤ (k : Int) ∧ (k : Int) < s.size := by omega
  clear hnv hb hkb hbl hg ht hl1
  go_wp2_with fail
  refine HNV.out.mono ?_
  rintro e' w2 ⟨rfl, hb2⟩
  have T2 := Lib.hid (T1.out.then_ hb2)
  have T3 := Lib.hid (T2.out.setS x)
  have HB3 := Lib.hid ((HB1.out.then_ hb2).set 3 (.string x))
  have c3 := T2.out.c4
  have f3 := T2.out.fz
  clear hb2
  go_wp2_with fail
  go_step3
  go_step
  go_step
  refine wp_mono (backPass s W hs _ _ ⟨ts, A, m, c, k, b, (k : Int) + 1, ok, _, 6, 0, x, Fr_mk, (HB3.out : ABase s W ts A m c k _), hk, HKB.out, HBL.out, T3.out, by rw [HV.out]; exact HBK.out⟩) ?_
  intro e2 a2 w3 hq
  cases e2 with
  | goto l =>
    refine ⟨hq.1, Nat.lt_trans hq.2 ?_⟩
    rw [mu_eq Fr_mk]
    simp
  | _ => exact hq
end Go.Proofs.YtpedfkigneahgaaDoor
