/- lex.All: from label to label. -/
import Derived.Test.YtpedfkigneahgaaDoorLexAllF
namespace Go.Proofs.YtpedfkigneahgaaDoor
set_option linter.unusedVariables false
open Go.RowKit

/-- What stands behind the label 'back'. -/
noncomputable def backCode : Code := match findLabel allCode 7 with | some (.seq _ c) => c | _ => .skip
theorem cat_bad {l : List UInt8} {ts : List Tk} {k : Nat} {b : UInt8} {r : List UInt8} (h : l = b :: r) (hb : blk b = false) (ht : tokB l = none) : cat ts (lexB l k) = .error k := by
  rw [h, lexB_bad hb (by rw [← h]; exact ht)]
  rfl
theorem cat_tok {l : List UInt8} {ts : List Tk} {k : Nat} {b : UInt8} {r : List UInt8} {k' n' : Int} {st : List UInt8} {j : Nat} (h : l = b :: r) (hb : blk b = false) (ht : tokB l = some (k', n', st, j)) : cat ts (lexB l k) = cat (ts ++ [⟨k', k, n', ⟨st.toArray⟩⟩]) (lexB (l.drop j) (k + j)) := by
  subst h
  rw [lexB_tok hb ht, cat_cat]
set_option maxRecDepth 100000 in
set_option maxHeartbeats 1600000 in
theorem backPass' (s : ByteArray) (W : World) (hs : s.size ≤ 4096) (a : Act) (wr : World) (hJ : JBack s W a wr) : ∃ R, findLabel allCode 7 = some (.seq .skip R) ∧ R.wp Tryd.prog (exitsTo (fun l' a' w' => JAll s W l' a' w' ∧ muAll s l' a' w' < muAll s 7 a wr) (allQ s W)) a wr := by
  obtain ⟨ts, A, m, c, k, b, e, ok, vc, kk, nn, ss, hf, hb, hk, hkb, hbl, ht, hbk⟩ := hJ
  rw [mu_eq hf]
  obtain ⟨u, rfl⟩ := hf
  have hd := drop_at' hkb
  cases ho : tokB (s.data.toList.drop k) with
  | none =>
    rw [ho] at hbk
    obtain rfl : ok = false := hbk.1
    have HV : Hid (lexB s.data.toList 0 = .error k) := by
      show _ = _
      rw [hb.2.2.2.2.2]
      exact cat_bad hd hbl ho
    have HBEL := Lib.hid hb.2.1
    clear hb hkb hbl ht hbk hd ho
    refine ⟨_, rfl, ?_⟩
    go_wp2_with fail
    rw [exitsTo_ret]
    unfold allQ
    go_ret3
    rw [HV.out]
    exact ⟨rfl, HBEL.out⟩
  | some q =>
    obtain ⟨k', n', st, j⟩ := q
    rw [ho] at hbk
    obtain rfl : ok = true := hbk.1
    obtain ⟨rfl, _, rfl, rfl, rfl⟩ := hbk.2 _ _ _ _ rfl
    have hj := tokB_pos ho
    have hj2 : j ≤ s.size - k := by have := hj.2.1; rwa [List.length_drop, data_len] at this
    have HV : Hid (lexB s.data.toList 0 = cat (ts ++ [⟨kk, k, nn, ⟨st.toArray⟩⟩]) (lexB (s.data.toList.drop (k + j)) (k + j))) := by
      show _ = _
      rw [hb.2.2.2.2.2, cat_tok hd hbl ho, List.drop_drop]
    have hm : ts.length = m := by have := hb.1.1; rw [cells4_len] at this; omega
    have htl := hb.2.2.2.1
    have hap := append_tok (ty := 22) hb.1 ⟨kk, k, nn, ⟨st.toArray⟩⟩ (by omega) hb.2.2.1
    obtain ⟨A2, c2, w2, hap, hown2, hbel2⟩ := hap
    have HAP := Lib.hid hap
    have HB3 : Hid (ABase s W (ts ++ [⟨kk, k, nn, ⟨st.toArray⟩⟩]) A2 (m + 1) c2 (k + j) w2) := by
      exact ⟨hown2, hb.2.1.trans (hbel2.mono (by omega)), by have := hbel2.size; have := hb.2.2.1; omega, by rw [List.length_append]; simp; omega, by omega, HV.out⟩
    have T3 := Lib.hid (ht.below hbel2 (Nat.lt_succ_self _))
    have c1 := ht.c4
    have hj1 := hj.1
    clear hb hkb hbl hd ho hbk hap hown2 hbel2 hj ht
    generalize (⟨st.toArray⟩ : ByteArray) = x at *
    refine ⟨_, rfl, ?_⟩
    go_wp2_with (at_builtin; refine wpList_append_run rfl _ _ _ _ rfl rfl rfl HAP.out ?_)
    go_step3
    rw [show (k : Int) + (j : Int) = ((k + j : Nat) : Int) by omega]
    refine ⟨JAll0 ⟨_, A2, m + 1, c2, k + j, _, _, _, _, _, _, _, Fr_mk, HB3.out, T3.out⟩, ?_⟩
    rw [mu_eq Fr_mk]
    simp
    omega
theorem backPass (s : ByteArray) (W : World) (hs : s.size ≤ 4096) (a : Act) (wr : World) (hJ : JBack s W a wr) : backCode.wp Tryd.prog (exitsTo (fun l' a' w' => JAll s W l' a' w' ∧ muAll s l' a' w' < muAll s 7 a wr) (allQ s W)) a wr := by
  obtain ⟨R, h, hw⟩ := backPass' s W hs a wr hJ
  unfold backCode
  rw [h]
  exact hw
theorem pass7 (s : ByteArray) (W : World) (hs : s.size ≤ 4096) (a : Act) (wr : World) (hJ : JBack s W a wr) : ∃ R, findLabel allCode 7 = some R ∧ R.wp Tryd.prog (exitsTo (fun l' a' w' => JAll s W l' a' w' ∧ muAll s l' a' w' < muAll s 7 a wr) (allQ s W)) a wr := by
  refine ⟨.seq .skip backCode, rfl, ?_⟩
  have h := Lib.hid (backPass s W hs a wr hJ)
  clear hJ
  go_wp2_with fail
  exact h.out
end Go.Proofs.YtpedfkigneahgaaDoor
