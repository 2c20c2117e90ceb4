/- bailiffref1.GetValue. -/
import Derived.Test.YtcelkfahkodlhaaDoorVGet
import Derived.Test.YtcelkfahkodlhaaDoorRefTextR
import Derived.Deep.DeepCutAuto
namespace Go.Proofs.YtcelkfahkodlhaaDoor
set_option linter.unusedVariables false
open Go.RowKit

theorem RR.alloc {w : World} {hi r p : Nat} {l : List UInt8} {q : Int} (h : RR w hi r l p q) (o : Obj) : RR (w.alloc o) hi r l p q := h.then_ ((Below.refl _ _).alloc (Nat.le_refl _) o)
theorem RR.own {w : World} {hi r p : Nat} {l : List UInt8} {q : Int} (h : RR w hi r l p q) {a : Addr} (ha : r < a.block) (u : Value) : RR (w.setCell a u) hi r l p q :=
  h.keep (Below.heap_setCell w a u r (by omega)) fun k hk => Below.heap_setCell w a u k (by have := h.base; omega)
theorem getF_wrong {l : List UInt8} {p p2 : Nat} {q q2 : Int} {v : Vl} (hA : getA l p q = (v, p2, q2)) (hq : q2 ≠ 0) : getF l p q = (p2, q2) := by
  unfold getF
  rw [hA]
  dsimp only
  split
  · rfl
  · unfold failTo; rw [if_pos (.inl hq)]
theorem getF_back {l : List UInt8} {p p2 : Nat} {q : Int} {v : Vl} (hA : getA l p q = (v, p2, 0)) (hr : ¬ v.right) (hp : p ≤ p2) : getF l p q = (p, 7) := by
  unfold getF
  rw [hA]
  dsimp only
  rw [if_neg hr]
  unfold failTo
  rw [if_neg (by omega)]
  rfl
theorem getF_right {l : List UInt8} {p p2 : Nat} {q q2 : Int} {v : Vl} (hA : getA l p q = (v, p2, q2)) (hr : v.right) : getF l p q = (p2, q2) := by
  unfold getF
  rw [hA]
  dsimp only
  rw [if_pos hr]

set_option maxHeartbeats 3200000 in
set_option maxRecDepth 100000 in
theorem vrefget_any {w : World} {hb r p : Nat} {l : List UInt8} {q : Int} (h : RR w hb r l p q) :
    Calls Tryd.prog 33 #[.pointer (some ⟨r, 0, none⟩)] w fun e w' => e = .returned (.agg #[.int .i64 (getV l p q).k, .int .i64 (getV l p q).n, .string (getV l p q).s]) ∧ RR w' hb r l (getF l p q).1 (getF l p q).2 ∧ Only r w w' := by
  have hrl := h.lt
  obtain ⟨hpl, hll⟩ : p ≤ l.length ∧ l.length ≤ 70368744177664 := by obtain ⟨_, _, _, _, _, _, _, _, _, _, hl, hp, hn⟩ := h.cells; omega
  rcases hIn : rIn l p q 1 5 with ⟨k, p1, q1⟩
  have hk := rIn_facts (q := q) (lo := 1) (hi := 5) hpl
  rw [hIn] at hk
  have HIN := Lib.hid hIn
  have HK := Lib.hid hk
  have HLL := Lib.hid hll
  have HR := Lib.hid h
  have HPL := Lib.hid hpl
  obtain ⟨A0, n0, c0, r0, r1, r2, _⟩ := (h.alloc (.cells #[.int .i64 0, .int .i64 0, .string ⟨#[]⟩] 26)).cells
  clear hIn hk hll h hpl
  go_enter Tryd.func33, Tryd.ntmps33
  go_wp2_with fail
  have hin := rrin (lo := 1) (hi := 5) (HR.out.alloc (.cells #[.int .i64 0, .int .i64 0, .string ⟨#[]⟩] 26))
  rw [HIN.out] at hin
  refine hin.mono ?_
  clear hin r0 r1 r2
  rintro e w1 ⟨rfl, hr1, ho1⟩
  have hsz1 : w.heap.size + 1 ≤ w1.heap.size := by have := ho1.le; rw [size_al] at this; exact this
  have G1 := Lib.hid (((Bx.made w 0 0 ⟨#[]⟩).only ho1 (by omega)).alloc (.cells #[.int .i64 k, .int .i64 0, .string ⟨#[]⟩] 26))
  have V1 := Lib.hid (Bx.made w1 k 0 ⟨#[]⟩)
  have R1 := Lib.hid (hr1.alloc (.cells #[.int .i64 k, .int .i64 0, .string ⟨#[]⟩] 26))
  have O1 := Lib.hid (((Only.refl.alloc (.cells #[.int .i64 0, .int .i64 0, .string ⟨#[]⟩] 26)).trans ho1).alloc (.cells #[.int .i64 k, .int .i64 0, .string ⟨#[]⟩] 26))
  clear hr1 ho1
  by_cases h3 : k = 3
  · subst h3
    have HT : Hid (inT 3 = true) := rfl
    have hg4 : w.heap.size + 1 ≤ w1.heap.size := hsz1
    go_wp2_with fail
    generalize w1.alloc (.cells #[.int .i64 3, .int .i64 0, .string ⟨#[]⟩] 26) = W2 at *
    generalize w1.heap.size = g4 at *
    clear hsz1
    rcases hx : rText l p1 q1 64 with ⟨sx, p2, q2⟩
    have hc := rrtext (most := 64) R1.out
    have hf := rText_facts (q := q1) (most := 64) HK.out.1
    have hlen := rText_len (l := l) (p := p1) (q := q1) (most := 64)
    rw [hx] at hc hf hlen
    have HP : Hid (p ≤ p2 ∧ p2 ≤ l.length) := ⟨Nat.le_trans HK.out.2.1 hf.2.1, hf.1⟩
    have HTS : Hid ((⟨sx.toArray⟩ : ByteArray).size ≤ maxLen) := by
      show sx.toArray.size ≤ maxLen
      simp only [List.size_toArray]
      dsimp only at hlen
      have := HLL.out
      unfold maxLen; omega
    have HA := Lib.hid (getA_text HIN.out HT.out hx)
    clear hx hf hlen
    dsimp only at hc
    generalize (⟨sx.toArray⟩ : ByteArray) = tx at *
    refine hc.mono ?_
    clear hc
    rintro e w3 ⟨rfl, hr3, ho3⟩
    have G3 := Lib.hid (G1.out.only ho3 (by omega))
    have V3 := Lib.hid (V1.out.only ho3 (by omega))
    have R3 := Lib.hid hr3
    have O3 := Lib.hid (O1.out.trans ho3)
    clear hr3 ho3 G1 V1 R1 O1
    have v3 := V3.out.c3
    have vf3 := V3.out.fz
    have G4 := Lib.hid (G3.out.only (r := g4) (Only.refl.setCell (p := ⟨g4, 2, none⟩) rfl (.string tx)) (by omega))
    have V4 := Lib.hid (V3.out.setS tx)
    have R4 := Lib.hid (R3.out.own (a := ⟨g4, 2, none⟩) (by show r < g4; omega) (.string tx))
    have O4 := Lib.hid (O3.out.own (p := ⟨g4, 2, none⟩) (by show w.heap.size ≤ g4; omega) (.string tx))
    go_upto_region 6 with fail
    clear v3 vf3 G3 V3 R3 O3
    generalize w3.setCell ⟨g4, 2, none⟩ (.string tx) = W4 at *
    have v4 := V4.out.c3
    obtain ⟨A0, n0, c0, r0, r1, r2, _⟩ := R4.out.cells
    have HV := Lib.hid (show getV l p q = if (getF l p q).2 ≠ 0 then ⟨0, 0, ⟨#[]⟩⟩ else ⟨3, 0, tx⟩ by unfold getV; rw [HA.out])
    by_cases hq : q2 = 0
    · subst hq
      by_cases hr : RightV 3 0 (tx).data.toList
      · have HF := Lib.hid (getF_right HA.out hr)
        have rr := fun W => refright_any 3 0 tx HTS.out W
        rw [decide_eq_true hr] at rr
        have RR' := Lib.hid rr
        have HV2 : Hid (getV l p q = ⟨3, 0, tx⟩) := by show _ = _; rw [HV.out, HF.out]; rfl
        clear rr hr
        go_wp2_with fail
        refine (RR'.out _).mono ?_
        rintro e w5 ⟨rfl, hb5⟩
        have G5 := Lib.hid (G4.out.then_ hb5)
        have V5 := Lib.hid (V4.out.then_ hb5)
        have R5 := Lib.hid (R4.out.then_ hb5)
        have O5 := Lib.hid (O4.out.trans (Only.of_below hb5))
        clear hb5 v4 r0 r1 r2
        have g5 := G5.out.c3
        have gf5 := G5.out.fz
        have v5 := V5.out.c3
        go_wp2_with fail
        try simp only [Exit.inBlock, Exit.then]
        refine bodyPost_ret (box_ret rfl rfl (G5.out.put 3 0 tx)) rfl ?_
        refine ⟨?_, ?_, ((O5.out.own (p := ⟨w.heap.size, 0, none⟩) (Nat.le_refl _) _).own (p := ⟨w.heap.size, 1, none⟩) (Nat.le_refl _) _).own (p := ⟨w.heap.size, 2, none⟩) (Nat.le_refl _) _⟩
        · rw [HV2.out]
        · rw [HF.out]
          exact ((R5.out.own (a := ⟨w.heap.size, 0, none⟩) hrl _).own (a := ⟨w.heap.size, 1, none⟩) hrl _).own (a := ⟨w.heap.size, 2, none⟩) hrl _
      · have HF := Lib.hid (getF_back HA.out hr HP.out.1)
        have rr := fun W => refright_any 3 0 tx HTS.out W
        rw [decide_eq_false hr] at rr
        have RR' := Lib.hid rr
        have HV2 : Hid (getV l p q = ⟨0, 0, ⟨#[]⟩⟩) := by show _ = _; rw [HV.out, HF.out]; rfl
        clear rr hr
        go_wp2_with fail
        refine (RR'.out _).mono ?_
        rintro e w5 ⟨rfl, hb5⟩
        have G5' := Lib.hid (G4.out.then_ hb5)
        have R5' := Lib.hid (R4.out.then_ hb5)
        have O5' := Lib.hid (O4.out.trans (Only.of_below hb5))
        clear hb5 v4 V4 r0 r1 r2
        obtain ⟨A6, n6, c6, s0, s1, s2, f0, f1, f2, _⟩ := R5'.out.cells
        have R6 := Lib.hid (R5'.out.setp (p' := p) (x := (p : Int)) HPL.out rfl)
        have G6 := Lib.hid (G5'.out.only (r := r) (Only.refl.setCell (p := ⟨r, 1, none⟩) rfl (.int .i64 (p : Int))) (by omega))
        have O6 := Lib.hid (O5'.out.setCell (p := ⟨r, 1, none⟩) rfl (.int .i64 (p : Int)))
        go_wp2_with fail
        refine (rrfail 7 R6.out).mono ?_
        rintro e w7 ⟨rfl, hr7, ho7⟩
        have G5 := Lib.hid (G6.out.only ho7 (by omega))
        have R5 := Lib.hid hr7
        have O5 := Lib.hid (O6.out.trans ho7)
        clear hr7 ho7 s0 s1 s2 f0 f1 f2
        have g5 := G5.out.c3
        have gf5 := G5.out.fz
        go_wp2_with fail
        try simp only [Exit.inBlock, Exit.then]
        refine bodyPost_ret (box_ret rfl rfl (G5.out.put 0 0 ⟨#[]⟩)) rfl ?_
        refine ⟨?_, ?_, ((O5.out.own (p := ⟨w.heap.size, 0, none⟩) (Nat.le_refl _) _).own (p := ⟨w.heap.size, 1, none⟩) (Nat.le_refl _) _).own (p := ⟨w.heap.size, 2, none⟩) (Nat.le_refl _) _⟩
        · rw [HV2.out]
        · rw [HF.out]
          exact ((R5.out.own (a := ⟨w.heap.size, 0, none⟩) hrl _).own (a := ⟨w.heap.size, 1, none⟩) hrl _).own (a := ⟨w.heap.size, 2, none⟩) hrl _
    · have HF := Lib.hid (getF_wrong HA.out hq)
      have HV2 : Hid (getV l p q = ⟨0, 0, ⟨#[]⟩⟩) := by show _ = _; rw [HV.out, HF.out]; exact if_pos hq
      have hq' : (q2 != 0) = true := by rw [bne_iff_ne]; exact hq
      clear hq
      have g5 := G4.out.c3
      have gf5 := G4.out.fz
      have G5 := Lib.hid G4.out
      have R5 := Lib.hid R4.out
      have O5 := Lib.hid O4.out
      go_wp2_with fail
      try simp only [Exit.inBlock, Exit.then]
      refine bodyPost_ret (box_ret rfl rfl (G5.out.put 0 0 ⟨#[]⟩)) rfl ?_
      refine ⟨?_, ?_, ((O5.out.own (p := ⟨w.heap.size, 0, none⟩) (Nat.le_refl _) _).own (p := ⟨w.heap.size, 1, none⟩) (Nat.le_refl _) _).own (p := ⟨w.heap.size, 2, none⟩) (Nat.le_refl _) _⟩
      · rw [HV2.out]
      · rw [HF.out]
        exact ((R5.out.own (a := ⟨w.heap.size, 0, none⟩) hrl _).own (a := ⟨w.heap.size, 1, none⟩) hrl _).own (a := ⟨w.heap.size, 2, none⟩) hrl _
  by_cases h5 : k = 5
  · subst h5
    have HT : Hid (inT 5 = true) := rfl
    have hg4 : w.heap.size + 1 ≤ w1.heap.size := hsz1
    go_wp2_with fail
    generalize w1.alloc (.cells #[.int .i64 5, .int .i64 0, .string ⟨#[]⟩] 26) = W2 at *
    generalize w1.heap.size = g4 at *
    clear hsz1
    rcases hx : rText l p1 q1 64 with ⟨sx, p2, q2⟩
    have hc := rrtext (most := 64) R1.out
    have hf := rText_facts (q := q1) (most := 64) HK.out.1
    have hlen := rText_len (l := l) (p := p1) (q := q1) (most := 64)
    rw [hx] at hc hf hlen
    have HP : Hid (p ≤ p2 ∧ p2 ≤ l.length) := ⟨Nat.le_trans HK.out.2.1 hf.2.1, hf.1⟩
    have HTS : Hid ((⟨sx.toArray⟩ : ByteArray).size ≤ maxLen) := by
      show sx.toArray.size ≤ maxLen
      simp only [List.size_toArray]
      dsimp only at hlen
      have := HLL.out
      unfold maxLen; omega
    have HA := Lib.hid (getA_text HIN.out HT.out hx)
    clear hx hf hlen
    dsimp only at hc
    generalize (⟨sx.toArray⟩ : ByteArray) = tx at *
    refine hc.mono ?_
    clear hc
    rintro e w3 ⟨rfl, hr3, ho3⟩
    have G3 := Lib.hid (G1.out.only ho3 (by omega))
    have V3 := Lib.hid (V1.out.only ho3 (by omega))
    have R3 := Lib.hid hr3
    have O3 := Lib.hid (O1.out.trans ho3)
    clear hr3 ho3 G1 V1 R1 O1
    have v3 := V3.out.c3
    have vf3 := V3.out.fz
    have G4 := Lib.hid (G3.out.only (r := g4) (Only.refl.setCell (p := ⟨g4, 2, none⟩) rfl (.string tx)) (by omega))
    have V4 := Lib.hid (V3.out.setS tx)
    have R4 := Lib.hid (R3.out.own (a := ⟨g4, 2, none⟩) (by show r < g4; omega) (.string tx))
    have O4 := Lib.hid (O3.out.own (p := ⟨g4, 2, none⟩) (by show w.heap.size ≤ g4; omega) (.string tx))
    go_upto_region 6 with fail
    clear v3 vf3 G3 V3 R3 O3
    generalize w3.setCell ⟨g4, 2, none⟩ (.string tx) = W4 at *
    have v4 := V4.out.c3
    obtain ⟨A0, n0, c0, r0, r1, r2, _⟩ := R4.out.cells
    have HV := Lib.hid (show getV l p q = if (getF l p q).2 ≠ 0 then ⟨0, 0, ⟨#[]⟩⟩ else ⟨5, 0, tx⟩ by unfold getV; rw [HA.out])
    by_cases hq : q2 = 0
    · subst hq
      by_cases hr : RightV 5 0 (tx).data.toList
      · have HF := Lib.hid (getF_right HA.out hr)
        have rr := fun W => refright_any 5 0 tx HTS.out W
        rw [decide_eq_true hr] at rr
        have RR' := Lib.hid rr
        have HV2 : Hid (getV l p q = ⟨5, 0, tx⟩) := by show _ = _; rw [HV.out, HF.out]; rfl
        clear rr hr
        go_wp2_with fail
        refine (RR'.out _).mono ?_
        rintro e w5 ⟨rfl, hb5⟩
        have G5 := Lib.hid (G4.out.then_ hb5)
        have V5 := Lib.hid (V4.out.then_ hb5)
        have R5 := Lib.hid (R4.out.then_ hb5)
        have O5 := Lib.hid (O4.out.trans (Only.of_below hb5))
        clear hb5 v4 r0 r1 r2
        have g5 := G5.out.c3
        have gf5 := G5.out.fz
        have v5 := V5.out.c3
        go_wp2_with fail
        try simp only [Exit.inBlock, Exit.then]
        refine bodyPost_ret (box_ret rfl rfl (G5.out.put 5 0 tx)) rfl ?_
        refine ⟨?_, ?_, ((O5.out.own (p := ⟨w.heap.size, 0, none⟩) (Nat.le_refl _) _).own (p := ⟨w.heap.size, 1, none⟩) (Nat.le_refl _) _).own (p := ⟨w.heap.size, 2, none⟩) (Nat.le_refl _) _⟩
        · rw [HV2.out]
        · rw [HF.out]
          exact ((R5.out.own (a := ⟨w.heap.size, 0, none⟩) hrl _).own (a := ⟨w.heap.size, 1, none⟩) hrl _).own (a := ⟨w.heap.size, 2, none⟩) hrl _
      · have HF := Lib.hid (getF_back HA.out hr HP.out.1)
        have rr := fun W => refright_any 5 0 tx HTS.out W
        rw [decide_eq_false hr] at rr
        have RR' := Lib.hid rr
        have HV2 : Hid (getV l p q = ⟨0, 0, ⟨#[]⟩⟩) := by show _ = _; rw [HV.out, HF.out]; rfl
        clear rr hr
        go_wp2_with fail
        refine (RR'.out _).mono ?_
        rintro e w5 ⟨rfl, hb5⟩
        have G5' := Lib.hid (G4.out.then_ hb5)
        have R5' := Lib.hid (R4.out.then_ hb5)
        have O5' := Lib.hid (O4.out.trans (Only.of_below hb5))
        clear hb5 v4 V4 r0 r1 r2
        obtain ⟨A6, n6, c6, s0, s1, s2, f0, f1, f2, _⟩ := R5'.out.cells
        have R6 := Lib.hid (R5'.out.setp (p' := p) (x := (p : Int)) HPL.out rfl)
        have G6 := Lib.hid (G5'.out.only (r := r) (Only.refl.setCell (p := ⟨r, 1, none⟩) rfl (.int .i64 (p : Int))) (by omega))
        have O6 := Lib.hid (O5'.out.setCell (p := ⟨r, 1, none⟩) rfl (.int .i64 (p : Int)))
        go_wp2_with fail
        refine (rrfail 7 R6.out).mono ?_
        rintro e w7 ⟨rfl, hr7, ho7⟩
        have G5 := Lib.hid (G6.out.only ho7 (by omega))
        have R5 := Lib.hid hr7
        have O5 := Lib.hid (O6.out.trans ho7)
        clear hr7 ho7 s0 s1 s2 f0 f1 f2
        have g5 := G5.out.c3
        have gf5 := G5.out.fz
        go_wp2_with fail
        try simp only [Exit.inBlock, Exit.then]
        refine bodyPost_ret (box_ret rfl rfl (G5.out.put 0 0 ⟨#[]⟩)) rfl ?_
        refine ⟨?_, ?_, ((O5.out.own (p := ⟨w.heap.size, 0, none⟩) (Nat.le_refl _) _).own (p := ⟨w.heap.size, 1, none⟩) (Nat.le_refl _) _).own (p := ⟨w.heap.size, 2, none⟩) (Nat.le_refl _) _⟩
        · rw [HV2.out]
        · rw [HF.out]
          exact ((R5.out.own (a := ⟨w.heap.size, 0, none⟩) hrl _).own (a := ⟨w.heap.size, 1, none⟩) hrl _).own (a := ⟨w.heap.size, 2, none⟩) hrl _
    · have HF := Lib.hid (getF_wrong HA.out hq)
      have HV2 : Hid (getV l p q = ⟨0, 0, ⟨#[]⟩⟩) := by show _ = _; rw [HV.out, HF.out]; exact if_pos hq
      have hq' : (q2 != 0) = true := by rw [bne_iff_ne]; exact hq
      clear hq
      have g5 := G4.out.c3
      have gf5 := G4.out.fz
      have G5 := Lib.hid G4.out
      have R5 := Lib.hid R4.out
      have O5 := Lib.hid O4.out
      go_wp2_with fail
      try simp only [Exit.inBlock, Exit.then]
      refine bodyPost_ret (box_ret rfl rfl (G5.out.put 0 0 ⟨#[]⟩)) rfl ?_
      refine ⟨?_, ?_, ((O5.out.own (p := ⟨w.heap.size, 0, none⟩) (Nat.le_refl _) _).own (p := ⟨w.heap.size, 1, none⟩) (Nat.le_refl _) _).own (p := ⟨w.heap.size, 2, none⟩) (Nat.le_refl _) _⟩
      · rw [HV2.out]
      · rw [HF.out]
        exact ((R5.out.own (a := ⟨w.heap.size, 0, none⟩) hrl _).own (a := ⟨w.heap.size, 1, none⟩) hrl _).own (a := ⟨w.heap.size, 2, none⟩) hrl _
  · have h3' : (k == 3) = false := by rw [beq_eq_false_iff_ne]; exact h3
    have h5' : (k == 5) = false := by rw [beq_eq_false_iff_ne]; exact h5
    have HT : Hid (inT k = false) := by show _ = _; unfold inT; rw [decide_eq_false h3, decide_eq_false h5]; rfl
    clear h3 h5
    have hg4 : w.heap.size + 1 ≤ w1.heap.size := hsz1
    go_wp2_with fail
    generalize w1.alloc (.cells #[.int .i64 k, .int .i64 0, .string ⟨#[]⟩] 26) = W2 at *
    generalize w1.heap.size = g4 at *
    clear hsz1
    rcases hx : rNum l p1 q1 with ⟨n, p2, q2⟩
    have hc := rrnum R1.out
    have hf := rNum_facts (q := q1) HK.out.1
    rw [hx] at hc hf
    have HP : Hid (p ≤ p2 ∧ p2 ≤ l.length) := ⟨Nat.le_trans HK.out.2.1 hf.2.1, hf.1⟩
    have HTS : Hid ((⟨#[]⟩ : ByteArray).size ≤ maxLen) := by show _ ≤ _; decide
    have HA := Lib.hid (getA_num HIN.out HT.out hx)
    clear hx hf
    dsimp only at hc
    refine hc.mono ?_
    clear hc
    rintro e w3 ⟨rfl, hr3, ho3⟩
    have G3 := Lib.hid (G1.out.only ho3 (by omega))
    have V3 := Lib.hid (V1.out.only ho3 (by omega))
    have R3 := Lib.hid hr3
    have O3 := Lib.hid (O1.out.trans ho3)
    clear hr3 ho3 G1 V1 R1 O1
    have v3 := V3.out.c3
    have vf3 := V3.out.fz
    have G4 := Lib.hid (G3.out.only (r := g4) (Only.refl.setCell (p := ⟨g4, 1, none⟩) rfl (.int .i64 n)) (by omega))
    have V4 := Lib.hid (V3.out.setN n)
    have R4 := Lib.hid (R3.out.own (a := ⟨g4, 1, none⟩) (by show r < g4; omega) (.int .i64 n))
    have O4 := Lib.hid (O3.out.own (p := ⟨g4, 1, none⟩) (by show w.heap.size ≤ g4; omega) (.int .i64 n))
    go_upto_region 6 with fail
    clear v3 vf3 G3 V3 R3 O3
    generalize w3.setCell ⟨g4, 1, none⟩ (.int .i64 n) = W4 at *
    have v4 := V4.out.c3
    obtain ⟨A0, n0, c0, r0, r1, r2, _⟩ := R4.out.cells
    have HV := Lib.hid (show getV l p q = if (getF l p q).2 ≠ 0 then ⟨0, 0, ⟨#[]⟩⟩ else ⟨k, n, (⟨#[]⟩ : ByteArray)⟩ by unfold getV; rw [HA.out])
    by_cases hq : q2 = 0
    · subst hq
      by_cases hr : RightV k n ((⟨#[]⟩ : ByteArray)).data.toList
      · have HF := Lib.hid (getF_right HA.out hr)
        have rr := fun W => refright_any k n (⟨#[]⟩ : ByteArray) HTS.out W
        rw [decide_eq_true hr] at rr
        have RR' := Lib.hid rr
        have HV2 : Hid (getV l p q = ⟨k, n, (⟨#[]⟩ : ByteArray)⟩) := by show _ = _; rw [HV.out, HF.out]; rfl
        clear rr hr
        go_wp2_with fail
        refine (RR'.out _).mono ?_
        rintro e w5 ⟨rfl, hb5⟩
        have G5 := Lib.hid (G4.out.then_ hb5)
        have V5 := Lib.hid (V4.out.then_ hb5)
        have R5 := Lib.hid (R4.out.then_ hb5)
        have O5 := Lib.hid (O4.out.trans (Only.of_below hb5))
        clear hb5 v4 r0 r1 r2
        have g5 := G5.out.c3
        have gf5 := G5.out.fz
        have v5 := V5.out.c3
        go_wp2_with fail
        try simp only [Exit.inBlock, Exit.then]
        refine bodyPost_ret (box_ret rfl rfl (G5.out.put k n (⟨#[]⟩ : ByteArray))) rfl ?_
        refine ⟨?_, ?_, ((O5.out.own (p := ⟨w.heap.size, 0, none⟩) (Nat.le_refl _) _).own (p := ⟨w.heap.size, 1, none⟩) (Nat.le_refl _) _).own (p := ⟨w.heap.size, 2, none⟩) (Nat.le_refl _) _⟩
        · rw [HV2.out]
        · rw [HF.out]
          exact ((R5.out.own (a := ⟨w.heap.size, 0, none⟩) hrl _).own (a := ⟨w.heap.size, 1, none⟩) hrl _).own (a := ⟨w.heap.size, 2, none⟩) hrl _
      · have HF := Lib.hid (getF_back HA.out hr HP.out.1)
        have rr := fun W => refright_any k n (⟨#[]⟩ : ByteArray) HTS.out W
        rw [decide_eq_false hr] at rr
        have RR' := Lib.hid rr
        have HV2 : Hid (getV l p q = ⟨0, 0, ⟨#[]⟩⟩) := by show _ = _; rw [HV.out, HF.out]; rfl
        clear rr hr
        go_wp2_with fail
        refine (RR'.out _).mono ?_
        rintro e w5 ⟨rfl, hb5⟩
        have G5' := Lib.hid (G4.out.then_ hb5)
        have R5' := Lib.hid (R4.out.then_ hb5)
        have O5' := Lib.hid (O4.out.trans (Only.of_below hb5))
        clear hb5 v4 V4 r0 r1 r2
        obtain ⟨A6, n6, c6, s0, s1, s2, f0, f1, f2, _⟩ := R5'.out.cells
        have R6 := Lib.hid (R5'.out.setp (p' := p) (x := (p : Int)) HPL.out rfl)
        have G6 := Lib.hid (G5'.out.only (r := r) (Only.refl.setCell (p := ⟨r, 1, none⟩) rfl (.int .i64 (p : Int))) (by omega))
        have O6 := Lib.hid (O5'.out.setCell (p := ⟨r, 1, none⟩) rfl (.int .i64 (p : Int)))
        go_wp2_with fail
        refine (rrfail 7 R6.out).mono ?_
        rintro e w7 ⟨rfl, hr7, ho7⟩
        have G5 := Lib.hid (G6.out.only ho7 (by omega))
        have R5 := Lib.hid hr7
        have O5 := Lib.hid (O6.out.trans ho7)
        clear hr7 ho7 s0 s1 s2 f0 f1 f2
        have g5 := G5.out.c3
        have gf5 := G5.out.fz
        go_wp2_with fail
        try simp only [Exit.inBlock, Exit.then]
        refine bodyPost_ret (box_ret rfl rfl (G5.out.put 0 0 ⟨#[]⟩)) rfl ?_
        refine ⟨?_, ?_, ((O5.out.own (p := ⟨w.heap.size, 0, none⟩) (Nat.le_refl _) _).own (p := ⟨w.heap.size, 1, none⟩) (Nat.le_refl _) _).own (p := ⟨w.heap.size, 2, none⟩) (Nat.le_refl _) _⟩
        · rw [HV2.out]
        · rw [HF.out]
          exact ((R5.out.own (a := ⟨w.heap.size, 0, none⟩) hrl _).own (a := ⟨w.heap.size, 1, none⟩) hrl _).own (a := ⟨w.heap.size, 2, none⟩) hrl _
    · have HF := Lib.hid (getF_wrong HA.out hq)
      have HV2 : Hid (getV l p q = ⟨0, 0, ⟨#[]⟩⟩) := by show _ = _; rw [HV.out, HF.out]; exact if_pos hq
      have hq' : (q2 != 0) = true := by rw [bne_iff_ne]; exact hq
      clear hq
      have g5 := G4.out.c3
      have gf5 := G4.out.fz
      have G5 := Lib.hid G4.out
      have R5 := Lib.hid R4.out
      have O5 := Lib.hid O4.out
      go_wp2_with fail
      try simp only [Exit.inBlock, Exit.then]
      refine bodyPost_ret (box_ret rfl rfl (G5.out.put 0 0 ⟨#[]⟩)) rfl ?_
      refine ⟨?_, ?_, ((O5.out.own (p := ⟨w.heap.size, 0, none⟩) (Nat.le_refl _) _).own (p := ⟨w.heap.size, 1, none⟩) (Nat.le_refl _) _).own (p := ⟨w.heap.size, 2, none⟩) (Nat.le_refl _) _⟩
      · rw [HV2.out]
      · rw [HF.out]
        exact ((R5.out.own (a := ⟨w.heap.size, 0, none⟩) hrl _).own (a := ⟨w.heap.size, 1, none⟩) hrl _).own (a := ⟨w.heap.size, 2, none⟩) hrl _
end Go.Proofs.YtcelkfahkodlhaaDoor
