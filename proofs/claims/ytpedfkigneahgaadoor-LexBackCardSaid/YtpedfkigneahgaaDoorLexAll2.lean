/- lex.All: from label to label. -/
import Derived.Test.YtpedfkigneahgaaDoorLexAllF
namespace Go.Proofs.YtpedfkigneahgaaDoor
set_option linter.unusedVariables false
open Go.RowKit

set_option maxRecDepth 100000 in
set_option maxHeartbeats 1600000 in
theorem pass2 (s : ByteArray) (W : World) (hs : s.size ≤ 4096) (a : Act) (wr : World) (hJ : JTok s W 2 a wr) : ∃ R, findLabel allCode 2 = some R ∧ R.wp Tryd.prog (exitsTo (fun l' a' w' => JAll s W l' a' w' ∧ muAll s l' a' w' < muAll s 2 a wr) (allQ s W)) a wr := by
  refine ⟨_, rfl, ?_⟩
  obtain ⟨ts, A, m, c, k, b, ve, vo, hf, hb, hk, hkb, hbl, hg, ht⟩ := hJ
  rw [mu_eq hf]
  obtain ⟨u, rfl⟩ := hf
  have HB := Lib.hid hb
  have HKB := Lib.hid hkb
  have HBL := Lib.hid hbl
  have HD := Lib.hid (drop_at' hkb)
  have T1 := Lib.hid (ht.setK 2)
  have c1 := ht.c4
  have f1 := ht.fz
  have c2 := T1.out.c4
  have f2 := T1.out.fz
  have hpa := past_digit s (by unfold maxLen; omega) (k + 1) (by omega) wr
  have hle := tw_le s dgt (k + 1) (by omega)
  have hex := ext_tw1 s dgt k hkb
  have hl1 := goes2 hg
  have HV : Hid (tokB (s.data.toList.drop k) = (numbA (b :: (s.data.toList.drop (k + 1)).takeWhile dgt)).map fun n => (2, n, [], ((s.data.toList.drop (k + 1)).takeWhile dgt).length + 1)) := by
    show _ = _
    rw [HD.out, tokB, if_neg (by rw [hl1.1]; simp), numbA]
    by_cases hd : dgt b = true
    · have h45 : b ≠ 45 := by rintro rfl; revert hd; decide
      rw [if_pos hd, if_neg h45, List.takeWhile_cons, if_pos hd, Option.map_map]
      rfl
    · obtain rfl : b = 45 := hl1.2.resolve_left hd
      rw [if_neg hd, if_pos rfl, if_pos rfl]
      cases decD 9223372036854775808 ((s.data.toList.drop (k + 1)).takeWhile dgt) with
      | none => rfl
      | some n =>
        simp only [Option.bind_some]
        by_cases hz : n = 0
        · rw [if_pos hz, if_pos hz]; rfl
        · rw [if_neg hz, if_neg hz]; rfl
  have hal := tw_all dgt (s.data.toList.drop (k + 1))
  generalize hnm : (s.data.toList.drop (k + 1)).takeWhile dgt = ds at *
  generalize he : k + 1 + ds.length = e at *
  have hnv := number_any (s.extract k e) (by rw [ext_size _ hle]; omega) hex hal (by rcases hl1.2 with h | h; exact .inr h; exact .inl h) (wr.setCell ⟨W.heap.size, 0, none⟩ (.int .i64 2))
  rw [hex] at hnv
  generalize numbA (b :: ds) = o at *
  have HX : Hid (nmV o = .tuple #[.int .i64 (o.getD 0), .bool o.isSome]) := rfl
  rw [HX.out] at hnv
  have HBK : Hid (BackT (o.map fun n => (2, n, [], ds.length + 1)) k o.isSome 2 (o.getD 0) ⟨#[]⟩ (e : Int)) := by
    show BackT _ _ _ _ _ _ _
    cases o with
    | none => exact back_none
    | some n => exact back_some rfl (by omega)
  generalize o.getD 0 = x at *
  generalize o.isSome = ok at *
  have HPA := Lib.hid hpa
  have HNV := Lib.hid hnv
  have HB1 := Lib.hid (HB.out.set 0 (.int .i64 2))
  have T3 := Lib.hid (T1.out.setN x)
  have HB3 := Lib.hid (HB1.out.set 2 (.int .i64 x))
  have hki : k ≤ e := by omega
  have hki2 : ((k : Nat) : Int) ≤ (e : Int) := by omega
  have hki3 : (k : Int) + 1 ≤ (e : Int) + 1 := by omega
  have hki4 : ((k : Int) + 1).toNat = k + 1 := by omega
  have hki5 : (0 : Int) ≤ (k : Int) + 1 := by omega
  have hki6 : (k : Int) + 1 ≤ (e : Int) := by omega
  clear hpa hnv hb hkb hbl hg ht hex hnm he hl1 hal
  go_wp2_with fail
  refine HPA.out.mono ?_
  rintro e' w' ⟨rfl, rfl⟩
  go_wp2_with fail
  refine HNV.out.mono ?_
  rintro e' w2 ⟨rfl, rfl⟩
  go_wp2_with fail
  go_step3
  refine ⟨JAll7 ⟨ts, A, m, c, k, b, _, _, _, _, _, _, Fr_mk, (HB3.out : ABase s W ts A m c k _), hk, HKB.out, HBL.out, T3.out, ?_⟩, ?_⟩
  · rw [HV.out]
    exact HBK.out
  · rw [mu_eq Fr_mk]
    simp

set_option maxRecDepth 100000 in
set_option maxHeartbeats 1600000 in
theorem pass3 (s : ByteArray) (W : World) (hs : s.size ≤ 4096) (a : Act) (wr : World) (hJ : JTok s W 3 a wr) : ∃ R, findLabel allCode 3 = some R ∧ R.wp Tryd.prog (exitsTo (fun l' a' w' => JAll s W l' a' w' ∧ muAll s l' a' w' < muAll s 3 a wr) (allQ s W)) a wr := by
  refine ⟨_, rfl, ?_⟩
  obtain ⟨ts, A, m, c, k, b, ve, vo, hf, hb, hk, hkb, hbl, hg, ht⟩ := hJ
  rw [mu_eq hf]
  obtain ⟨u, rfl⟩ := hf
  have HB := Lib.hid hb
  have HKB := Lib.hid hkb
  have HBL := Lib.hid hbl
  have HD := Lib.hid (drop_at' hkb)
  have T1 := Lib.hid (ht.setK 3)
  have c1 := ht.c4
  have f1 := ht.fz
  have c2 := T1.out.c4
  have f2 := T1.out.fz
  have hpa := past_digit s (by unfold maxLen; omega) (k + 1) (by omega) wr
  have hle := tw_le s dgt (k + 1) (by omega)
  have hex := ext_tw s dgt (k + 1)
  have hl1 := goes3 hg
  have HV : Hid (tokB (s.data.toList.drop k) = ((decD 1099511627776 ((s.data.toList.drop (k + 1)).takeWhile dgt)).map fun (n : Nat) => (n : Int)).map fun n => (3, n, [], ((s.data.toList.drop (k + 1)).takeWhile dgt).length + 1)) := by
    show _ = _
    rw [HD.out, hl1, tokB, if_neg (by decide), if_neg (by decide), if_neg (by decide), if_pos rfl, Option.map_map]
    rfl
  have hal := tw_all dgt (s.data.toList.drop (k + 1))
  generalize hnm : (s.data.toList.drop (k + 1)).takeWhile dgt = ds at *
  generalize he : k + 1 + ds.length = e at *
  have hnv := above_any (s.extract (k + 1) e) (by rw [ext_size _ hle]; omega) (by rw [hex]; exact hal) 1099511627776 (by omega) (by omega) (wr.setCell ⟨W.heap.size, 0, none⟩ (.int .i64 3))
  rw [hex] at hnv
  generalize (decD 1099511627776 ds).map (fun (n : Nat) => (n : Int)) = o at *
  have HX : Hid (nmV o = .tuple #[.int .i64 (o.getD 0), .bool o.isSome]) := rfl
  rw [HX.out] at hnv
  have HBK : Hid (BackT (o.map fun n => (3, n, [], ds.length + 1)) k o.isSome 3 (o.getD 0) ⟨#[]⟩ (e : Int)) := by
    show BackT _ _ _ _ _ _ _
    cases o with
    | none => exact back_none
    | some n => exact back_some rfl (by omega)
  generalize o.getD 0 = x at *
  generalize o.isSome = ok at *
  have HPA := Lib.hid hpa
  have HNV := Lib.hid hnv
  have HB1 := Lib.hid (HB.out.set 0 (.int .i64 3))
  have T3 := Lib.hid (T1.out.setN x)
  have HB3 := Lib.hid (HB1.out.set 2 (.int .i64 x))
  have hki : k ≤ e := by omega
  have hki2 : ((k : Nat) : Int) ≤ (e : Int) := by omega
  have hki3 : (k : Int) + 1 ≤ (e : Int) + 1 := by omega
  have hki4 : ((k : Int) + 1).toNat = k + 1 := by omega
  have hki5 : (0 : Int) ≤ (k : Int) + 1 := by omega
  have hki6 : (k : Int) + 1 ≤ (e : Int) := by omega
  clear hpa hnv hb hkb hbl hg ht hex hnm he hl1 hal
  go_wp2_with fail
  refine HPA.out.mono ?_
  rintro e' w' ⟨rfl, rfl⟩
  go_wp2_with fail
  refine HNV.out.mono ?_
  rintro e' w2 ⟨rfl, rfl⟩
  go_wp2_with fail
  go_step3
  refine ⟨JAll7 ⟨ts, A, m, c, k, b, _, _, _, _, _, _, Fr_mk, (HB3.out : ABase s W ts A m c k _), hk, HKB.out, HBL.out, T3.out, ?_⟩, ?_⟩
  · rw [HV.out]
    exact HBK.out
  · rw [mu_eq Fr_mk]
    simp
end Go.Proofs.YtpedfkigneahgaaDoor
