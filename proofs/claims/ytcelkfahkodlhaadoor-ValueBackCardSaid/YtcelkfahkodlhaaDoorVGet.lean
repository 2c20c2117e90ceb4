/- value.Get. -/
import Derived.Test.YtcelkfahkodlhaaDoorVGetSpec
import Derived.Test.YtcelkfahkodlhaaDoorVFew
import Derived.Test.YtcelkfahkodlhaaDoorVBoxPut
namespace Go.Proofs.YtcelkfahkodlhaaDoor
set_option linter.unusedVariables false
open Go.RowKit

theorem Rdr.alloc {w : World} {t : TypeId} {bs r p : Nat} {l : List UInt8} {q : Int} (h : Rdr w t bs r l p q) (o : Obj) : Rdr (w.alloc o) t bs r l p q := h.then_ ((Below.refl _ _).alloc (Nat.le_refl _) o)
theorem Only.alloc {r : Nat} {w w' : World} (h : Only r w w') (o : Obj) : Only r w (w'.alloc o) := h.trans (Only.of_below ((Below.refl _ _).alloc (Nat.le_refl _) o))
/-- A store into a block that is the call's own. -/
theorem Only.own {r : Nat} {w w' : World} (h : Only r w w') {p : Addr} (hp : w.heap.size ≤ p.block) (u : Value) : Only r w (w'.setCell p u) :=
  ⟨h.os, h.tape, h.output, by simpa [World.setCell] using h.size, fun i hi hne => (Below.heap_setCell w' p u i (by omega)).trans (h.block i hi hne)⟩
theorem Rdr.own {w : World} {t : TypeId} {bs r p : Nat} {l : List UInt8} {q : Int} (h : Rdr w t bs r l p q) {a : Addr} (ha : r < a.block) (u : Value) : Rdr (w.setCell a u) t bs r l p q :=
  h.keep fun k _ hk => Below.heap_setCell w a u k (by omega)

set_option maxHeartbeats 3200000 in
set_option maxRecDepth 100000 in
theorem vget_any {w : World} {bs r p : Nat} {l : List UInt8} {q : Int} (h : Rdr w 67 bs r l p q) :
    Calls Tryd.prog 32 #[.pointer (some ⟨r, 0, none⟩)] w fun e w' => e = .returned (.agg #[.int .i64 (getV l p q).k, .int .i64 (getV l p q).n, .string (getV l p q).s]) ∧ Rdr w' 67 bs r l (getF l p q).1 (getF l p q).2 ∧ Only r w w' := by
  have hrl := h.lt
  have hpl : p ≤ l.length := by obtain ⟨_, _, _, _, hs, hp, _⟩ := h; have := hs.len; rw [bv_len] at this; omega
  have hll : l.length ≤ 70368744177664 := by obtain ⟨_, _, _, _, hs, _, hn, _⟩ := h; have := hs.len; rw [bv_len] at this; omega
  rcases hIn : rIn l p q 1 5 with ⟨k, p1, q1⟩
  have hk := rIn_facts (q := q) (lo := 1) (hi := 5) hpl
  rw [hIn] at hk
  have HIN := Lib.hid hIn
  have HK := Lib.hid hk
  have HLL := Lib.hid hll
  have HR := Lib.hid h
  clear hIn hk hll h
  go_enter Tryd.func32, Tryd.ntmps32
  go_wp2_with fail
  refine (at_any (HR.out.alloc _)).mono ?_
  rintro e w1 ⟨rfl, hw1⟩
  subst hw1
  go_wp2_with fail
  have hin := rin_any (lo := 1) (hi := 5) (HR.out.alloc (.cells #[.int .i64 0, .int .i64 0, .string ⟨#[]⟩] 26))
  rw [HIN.out] at hin
  refine hin.mono ?_
  clear hin
  rintro e w1 ⟨rfl, hr1, ho1⟩
  have hsz1 : w.heap.size + 1 ≤ w1.heap.size := by have := ho1.le; rw [size_al] at this; exact this
  have G1 := Lib.hid (((Bx.made w 0 0 ⟨#[]⟩).only ho1 (by omega)).alloc (.cells #[.int .i64 k, .int .i64 0, .string ⟨#[]⟩] 26))
  have V1 := Lib.hid (Bx.made w1 k 0 ⟨#[]⟩)
  have R1 := Lib.hid (hr1.alloc (.cells #[.int .i64 k, .int .i64 0, .string ⟨#[]⟩] 26))
  have O1 := Lib.hid (((Only.refl.alloc (.cells #[.int .i64 0, .int .i64 0, .string ⟨#[]⟩] 26)).trans ho1).alloc (.cells #[.int .i64 k, .int .i64 0, .string ⟨#[]⟩] 26))
  clear hr1 ho1
  have hi := fun W => inT_any k W
  cases ht : inT k
  · rw [ht] at hi
    have HI := Lib.hid hi
    have HT := Lib.hid ht
    clear hi ht
    go_wp2_with fail
    have hg4 : w.heap.size + 1 ≤ w1.heap.size := hsz1
    generalize w1.alloc (.cells #[.int .i64 k, .int .i64 0, .string ⟨#[]⟩] 26) = W2 at *
    generalize w1.heap.size = g4 at *
    clear hsz1
    refine (HI.out _).mono ?_
    rintro e w2 ⟨rfl, hw2⟩
    subst hw2
    have v1 := V1.out.c3
    go_wp2_with fail
    rcases hx : rNum l p1 q1 with ⟨n, p2, q2⟩
    have hc := rnum_any R1.out
    have hf := rNum_facts (q := q1) HK.out.1
    rw [hx] at hc hf
    have HP : Hid (p ≤ p2 ∧ p2 ≤ l.length) := ⟨Nat.le_trans HK.out.2.1 hf.2.1, hf.1⟩
    have HTS : Hid ((⟨#[]⟩ : ByteArray).size ≤ maxLen) := by show _ ≤ _; decide
    have HA := Lib.hid (getA_num HIN.out HT.out hx)
    clear hx hf
    dsimp only at hc
    refine hc.mono ?_
    clear hc
    rintro e w3 ⟨rfl, hr3, ho3⟩
    have G3 := Lib.hid (G1.out.only ho3 (by omega))
    have V3 := Lib.hid (V1.out.only ho3 (by omega))
    have R3 := Lib.hid hr3
    have O3 := Lib.hid (O1.out.trans ho3)
    clear hr3 ho3 v1 G1 V1 R1 O1
    have v3 := V3.out.c3
    have vf3 := V3.out.fz
    have G4 := Lib.hid (G3.out.only (r := g4) (Only.refl.setCell (p := ⟨g4, 1, none⟩) rfl (.int .i64 n)) (by omega))
    have V4 := Lib.hid (V3.out.setN n)
    have R4 := Lib.hid (R3.out.own (a := ⟨g4, 1, none⟩) (by show r < g4; omega) (.int .i64 n))
    have O4 := Lib.hid (O3.out.own (p := ⟨g4, 1, none⟩) (by show w.heap.size ≤ g4; omega) (.int .i64 n))
    go_wp2_with fail
    clear v3 vf3 G3 V3 R3 O3
    generalize w3.setCell ⟨g4, 1, none⟩ (.int .i64 n) = W4 at *
    have v4 := V4.out.c3
    have HV := Lib.hid (show getV l p q = if (getF l p q).2 ≠ 0 then ⟨0, 0, ⟨#[]⟩⟩ else ⟨k, n, (⟨#[]⟩ : ByteArray)⟩ by unfold getV; rw [HA.out])
    by_cases hr : RightV k n ((⟨#[]⟩ : ByteArray)).data.toList
    · have HF := Lib.hid (show getF l p q = (p2, q2) by unfold getF; rw [HA.out]; exact if_pos hr)
      have rr := fun W => right_any k n (⟨#[]⟩ : ByteArray) HTS.out W
      rw [decide_eq_true hr] at rr
      have RR := Lib.hid rr
      clear rr hr
      refine (RR.out _).mono ?_
      rintro e w5 ⟨rfl, hb5⟩
      have G5 := Lib.hid (G4.out.then_ hb5)
      have V5 := Lib.hid (V4.out.then_ hb5)
      have R5 := Lib.hid (R4.out.then_ hb5)
      have O5 := Lib.hid (O4.out.trans (Only.of_below hb5))
      clear hb5 v4
      go_wp2_with fail
      refine (wrong_any R5.out).mono ?_
      rintro e w6 ⟨rfl, hw6⟩
      subst hw6
      have g5 := G5.out.c3
      have gf5 := G5.out.fz
      have v5 := V5.out.c3
      by_cases hq : q2 = 0
      · subst hq
        have HV2 : Hid (getV l p q = ⟨k, n, (⟨#[]⟩ : ByteArray)⟩) := by show _ = _; rw [HV.out, HF.out]; rfl
        go_wp2_with fail
        try simp only [Exit.inBlock, Exit.then]
        refine bodyPost_ret (box_ret rfl rfl (G5.out.put k n (⟨#[]⟩ : ByteArray))) rfl ?_
        refine ⟨?_, ?_, ((O5.out.own (p := ⟨w.heap.size, 0, none⟩) (Nat.le_refl _) _).own (p := ⟨w.heap.size, 1, none⟩) (Nat.le_refl _) _).own (p := ⟨w.heap.size, 2, none⟩) (Nat.le_refl _) _⟩
        · rw [HV2.out]
        · rw [HF.out]
          exact ((R5.out.own (a := ⟨w.heap.size, 0, none⟩) hrl _).own (a := ⟨w.heap.size, 1, none⟩) hrl _).own (a := ⟨w.heap.size, 2, none⟩) hrl _
      · have HV2 : Hid (getV l p q = ⟨0, 0, ⟨#[]⟩⟩) := by show _ = _; rw [HV.out, HF.out]; exact if_pos hq
        have hq' : (q2 != 0) = true := by rw [bne_iff_ne]; exact hq
        clear hq
        go_wp2_with fail
        try simp only [Exit.inBlock, Exit.then]
        refine bodyPost_ret (box_ret rfl rfl (G5.out.put 0 0 ⟨#[]⟩)) rfl ?_
        refine ⟨?_, ?_, ((O5.out.own (p := ⟨w.heap.size, 0, none⟩) (Nat.le_refl _) _).own (p := ⟨w.heap.size, 1, none⟩) (Nat.le_refl _) _).own (p := ⟨w.heap.size, 2, none⟩) (Nat.le_refl _) _⟩
        · rw [HV2.out]
        · rw [HF.out]
          exact ((R5.out.own (a := ⟨w.heap.size, 0, none⟩) hrl _).own (a := ⟨w.heap.size, 1, none⟩) hrl _).own (a := ⟨w.heap.size, 2, none⟩) hrl _
    · have HF0 := Lib.hid (show getF l p q = failTo p2 q2 p by unfold getF; rw [HA.out]; exact if_neg hr)
      have rr := fun W => right_any k n (⟨#[]⟩ : ByteArray) HTS.out W
      rw [decide_eq_false hr] at rr
      have RR := Lib.hid rr
      clear rr hr
      refine (RR.out _).mono ?_
      rintro e w5 ⟨rfl, hb5⟩
      have G5' := Lib.hid (G4.out.then_ hb5)
      have R5' := Lib.hid (R4.out.then_ hb5)
      have O5' := Lib.hid (O4.out.trans (Only.of_below hb5))
      clear hb5 v4 V4
      go_wp2_with fail
      have hfl := fail_any (p : Int) R5'.out
      rcases hft : failTo p2 q2 p with ⟨p3, q3⟩
      have hq3 : q3 ≠ 0 := by have := failTo_wrong (q2 := q2) HP.out.1; rw [hft] at this; exact this
      rw [hft] at hfl
      refine hfl.mono ?_
      have HF := Lib.hid (HF0.out.trans hft)
      have HV2 : Hid (getV l p q = ⟨0, 0, ⟨#[]⟩⟩) := by show _ = _; rw [HV.out, HF.out]; exact if_pos hq3
      have hq' : (q3 != 0) = true := by rw [bne_iff_ne]; exact hq3
      clear hfl hft hq3 HF0
      rintro e w6 ⟨rfl, hr6, ho6, _⟩
      have G5 := Lib.hid (G5'.out.only ho6 (by omega))
      have R5 := Lib.hid hr6
      have O5 := Lib.hid (O5'.out.trans ho6)
      clear hr6 ho6 G5' R5' O5'
      go_wp2_with fail
      refine (wrong_any R5.out).mono ?_
      rintro e w7 ⟨rfl, hw7⟩
      subst hw7
      have g5 := G5.out.c3
      have gf5 := G5.out.fz
      go_wp2_with fail
      try simp only [Exit.inBlock, Exit.then]
      refine bodyPost_ret (box_ret rfl rfl (G5.out.put 0 0 ⟨#[]⟩)) rfl ?_
      refine ⟨?_, ?_, ((O5.out.own (p := ⟨w.heap.size, 0, none⟩) (Nat.le_refl _) _).own (p := ⟨w.heap.size, 1, none⟩) (Nat.le_refl _) _).own (p := ⟨w.heap.size, 2, none⟩) (Nat.le_refl _) _⟩
      · rw [HV2.out]
      · rw [HF.out]
        exact ((R5.out.own (a := ⟨w.heap.size, 0, none⟩) hrl _).own (a := ⟨w.heap.size, 1, none⟩) hrl _).own (a := ⟨w.heap.size, 2, none⟩) hrl _
  · rw [ht] at hi
    have HI := Lib.hid hi
    have HT := Lib.hid ht
    clear hi ht
    go_wp2_with fail
    have hg4 : w.heap.size + 1 ≤ w1.heap.size := hsz1
    generalize w1.alloc (.cells #[.int .i64 k, .int .i64 0, .string ⟨#[]⟩] 26) = W2 at *
    generalize w1.heap.size = g4 at *
    clear hsz1
    refine (HI.out _).mono ?_
    rintro e w2 ⟨rfl, hw2⟩
    subst hw2
    have v1 := V1.out.c3
    go_wp2_with fail
    rcases hx : rText l p1 q1 64 with ⟨sx, p2, q2⟩
    have hc := rtext_any (most := 64) R1.out
    have hf := rText_facts (q := q1) (most := 64) HK.out.1
    have hlen := rText_len (l := l) (p := p1) (q := q1) (most := 64)
    rw [hx] at hc hf hlen
    have HP : Hid (p ≤ p2 ∧ p2 ≤ l.length) := ⟨Nat.le_trans HK.out.2.1 hf.2.1, hf.1⟩
    have HTS : Hid ((⟨sx.toArray⟩ : ByteArray).size ≤ maxLen) := by
      show sx.toArray.size ≤ maxLen
      simp only [List.size_toArray]
      dsimp only at hlen
      have := HLL.out
      unfold maxLen; omega
    have HA := Lib.hid (getA_text HIN.out HT.out hx)
    clear hx hf hlen
    dsimp only at hc
    generalize (⟨sx.toArray⟩ : ByteArray) = tx at *
    refine hc.mono ?_
    clear hc
    rintro e w3 ⟨rfl, hr3, ho3⟩
    have G3 := Lib.hid (G1.out.only ho3 (by omega))
    have V3 := Lib.hid (V1.out.only ho3 (by omega))
    have R3 := Lib.hid hr3
    have O3 := Lib.hid (O1.out.trans ho3)
    clear hr3 ho3 v1 G1 V1 R1 O1
    have v3 := V3.out.c3
    have vf3 := V3.out.fz
    have G4 := Lib.hid (G3.out.only (r := g4) (Only.refl.setCell (p := ⟨g4, 2, none⟩) rfl (.string tx)) (by omega))
    have V4 := Lib.hid (V3.out.setS tx)
    have R4 := Lib.hid (R3.out.own (a := ⟨g4, 2, none⟩) (by show r < g4; omega) (.string tx))
    have O4 := Lib.hid (O3.out.own (p := ⟨g4, 2, none⟩) (by show w.heap.size ≤ g4; omega) (.string tx))
    go_wp2_with fail
    clear v3 vf3 G3 V3 R3 O3
    generalize w3.setCell ⟨g4, 2, none⟩ (.string tx) = W4 at *
    have v4 := V4.out.c3
    have HV := Lib.hid (show getV l p q = if (getF l p q).2 ≠ 0 then ⟨0, 0, ⟨#[]⟩⟩ else ⟨k, 0, tx⟩ by unfold getV; rw [HA.out])
    by_cases hr : RightV k 0 (tx).data.toList
    · have HF := Lib.hid (show getF l p q = (p2, q2) by unfold getF; rw [HA.out]; exact if_pos hr)
      have rr := fun W => right_any k 0 tx HTS.out W
      rw [decide_eq_true hr] at rr
      have RR := Lib.hid rr
      clear rr hr
      refine (RR.out _).mono ?_
      rintro e w5 ⟨rfl, hb5⟩
      have G5 := Lib.hid (G4.out.then_ hb5)
      have V5 := Lib.hid (V4.out.then_ hb5)
      have R5 := Lib.hid (R4.out.then_ hb5)
      have O5 := Lib.hid (O4.out.trans (Only.of_below hb5))
      clear hb5 v4
      go_wp2_with fail
      refine (wrong_any R5.out).mono ?_
      rintro e w6 ⟨rfl, hw6⟩
      subst hw6
      have g5 := G5.out.c3
      have gf5 := G5.out.fz
      have v5 := V5.out.c3
      by_cases hq : q2 = 0
      · subst hq
        have HV2 : Hid (getV l p q = ⟨k, 0, tx⟩) := by show _ = _; rw [HV.out, HF.out]; rfl
        go_wp2_with fail
        try simp only [Exit.inBlock, Exit.then]
        refine bodyPost_ret (box_ret rfl rfl (G5.out.put k 0 tx)) rfl ?_
        refine ⟨?_, ?_, ((O5.out.own (p := ⟨w.heap.size, 0, none⟩) (Nat.le_refl _) _).own (p := ⟨w.heap.size, 1, none⟩) (Nat.le_refl _) _).own (p := ⟨w.heap.size, 2, none⟩) (Nat.le_refl _) _⟩
        · rw [HV2.out]
        · rw [HF.out]
          exact ((R5.out.own (a := ⟨w.heap.size, 0, none⟩) hrl _).own (a := ⟨w.heap.size, 1, none⟩) hrl _).own (a := ⟨w.heap.size, 2, none⟩) hrl _
      · have HV2 : Hid (getV l p q = ⟨0, 0, ⟨#[]⟩⟩) := by show _ = _; rw [HV.out, HF.out]; exact if_pos hq
        have hq' : (q2 != 0) = true := by rw [bne_iff_ne]; exact hq
        clear hq
        go_wp2_with fail
        try simp only [Exit.inBlock, Exit.then]
        refine bodyPost_ret (box_ret rfl rfl (G5.out.put 0 0 ⟨#[]⟩)) rfl ?_
        refine ⟨?_, ?_, ((O5.out.own (p := ⟨w.heap.size, 0, none⟩) (Nat.le_refl _) _).own (p := ⟨w.heap.size, 1, none⟩) (Nat.le_refl _) _).own (p := ⟨w.heap.size, 2, none⟩) (Nat.le_refl _) _⟩
        · rw [HV2.out]
        · rw [HF.out]
          exact ((R5.out.own (a := ⟨w.heap.size, 0, none⟩) hrl _).own (a := ⟨w.heap.size, 1, none⟩) hrl _).own (a := ⟨w.heap.size, 2, none⟩) hrl _
    · have HF0 := Lib.hid (show getF l p q = failTo p2 q2 p by unfold getF; rw [HA.out]; exact if_neg hr)
      have rr := fun W => right_any k 0 tx HTS.out W
      rw [decide_eq_false hr] at rr
      have RR := Lib.hid rr
      clear rr hr
      refine (RR.out _).mono ?_
      rintro e w5 ⟨rfl, hb5⟩
      have G5' := Lib.hid (G4.out.then_ hb5)
      have R5' := Lib.hid (R4.out.then_ hb5)
      have O5' := Lib.hid (O4.out.trans (Only.of_below hb5))
      clear hb5 v4 V4
      go_wp2_with fail
      have hfl := fail_any (p : Int) R5'.out
      rcases hft : failTo p2 q2 p with ⟨p3, q3⟩
      have hq3 : q3 ≠ 0 := by have := failTo_wrong (q2 := q2) HP.out.1; rw [hft] at this; exact this
      rw [hft] at hfl
      refine hfl.mono ?_
      have HF := Lib.hid (HF0.out.trans hft)
      have HV2 : Hid (getV l p q = ⟨0, 0, ⟨#[]⟩⟩) := by show _ = _; rw [HV.out, HF.out]; exact if_pos hq3
      have hq' : (q3 != 0) = true := by rw [bne_iff_ne]; exact hq3
      clear hfl hft hq3 HF0
      rintro e w6 ⟨rfl, hr6, ho6, _⟩
      have G5 := Lib.hid (G5'.out.only ho6 (by omega))
      have R5 := Lib.hid hr6
      have O5 := Lib.hid (O5'.out.trans ho6)
      clear hr6 ho6 G5' R5' O5'
      go_wp2_with fail
      refine (wrong_any R5.out).mono ?_
      rintro e w7 ⟨rfl, hw7⟩
      subst hw7
      have g5 := G5.out.c3
      have gf5 := G5.out.fz
      go_wp2_with fail
      try simp only [Exit.inBlock, Exit.then]
      refine bodyPost_ret (box_ret rfl rfl (G5.out.put 0 0 ⟨#[]⟩)) rfl ?_
      refine ⟨?_, ?_, ((O5.out.own (p := ⟨w.heap.size, 0, none⟩) (Nat.le_refl _) _).own (p := ⟨w.heap.size, 1, none⟩) (Nat.le_refl _) _).own (p := ⟨w.heap.size, 2, none⟩) (Nat.le_refl _) _⟩
      · rw [HV2.out]
      · rw [HF.out]
        exact ((R5.out.own (a := ⟨w.heap.size, 0, none⟩) hrl _).own (a := ⟨w.heap.size, 1, none⟩) hrl _).own (a := ⟨w.heap.size, 2, none⟩) hrl _
end Go.Proofs.YtcelkfahkodlhaaDoor
