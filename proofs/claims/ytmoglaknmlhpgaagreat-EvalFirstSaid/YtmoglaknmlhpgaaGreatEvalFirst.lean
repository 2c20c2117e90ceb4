/- The law EvalFirst. -/
import Derived.Test.YtmoglaknmlhpgaaGreatEvalFirstL
import Derived.Lib.MinMax
import Derived.IntWalk
import Derived.Deep.CutRange
import Derived.Deep.CutBlock
namespace Go.Proofs.YtmoglaknmlhpgaaGreat
set_option linter.unusedVariables false
open Go.RowKit
attribute [local go_sem] eq0 feq2 eq4 fgt0 gt2 ord_eq ord_gt ord_lt ev_store

set_option maxRecDepth 100000 in
set_option maxHeartbeats 12800000 in
theorem evalFirst_walk (W : World) (p : Pol) {A1 : Option Addr} {n1 k1 : Nat} {A2 : Option Addr} {n2 k2 : Nat} {A3 : Option Addr} {n3 k3 : Nat} {A4 : Option Addr} {n4 k4 : Nat} (h : PolIn W (fun _ => True) p A1 n1 k1 A2 n2 k2 A3 n3 k3 A4 n4 k4)
    (A5 : Option Addr) (n5 k5 : Nat) (h5 : ∃ l, Gvs W (fun _ => True) A5 n5 k5 l) (g : Int) (hg : (Lit.int IntKind.i64 g).wf = true) (t : Int) (ht : (Lit.int IntKind.i64 t).wf = true) :
    Calls Tryz.prog 7 #[.agg #[.string p.id, .bool p.set, .int .i64 p.alg, .slice A1 n1 k1, .slice A2 n2 k2, .slice A3 n3 k3, .slice A4 n4 k4], .slice A5 n5 k5, .int .i64 g, .int .i64 t] W fun e w' => e = .returned (.bool true) ∧ Below W.heap.size W w' := by
  obtain ⟨ask, hA⟩ := h5
  obtain ⟨m, hpl, hsm⟩ := evsmall h
  have SM := Lib.hid hsm
  have FE := Lib.hid (fun (b : Bool) (hb : decide (fewC ask ≤ 1200) = b) => evfew (w := W) hA hb)
  have RI := Lib.hid (fun (r : Int) (hr : rightE p = r) => evright h hr)
  have OP := Lib.hid (Ob.made W 28 #[.string p.id, .bool p.set, .int .i64 p.alg, .slice A1 n1 k1, .slice A2 n2 k2, .slice A3 n3 k3, .slice A4 n4 k4])
  have BW := Lib.hid ((Below.refl W.heap.size W).alloc (Nat.le_refl _) (.cells #[.string p.id, .bool p.set, .int .i64 p.alg, .slice A1 n1 k1, .slice A2 n2 k2, .slice A3 n3 k3, .slice A4 n4 k4] 28))
  clear hsm
  by_cases c1 : polC (m + 1) p ≤ 3000
  rotate_left
  · have hd : decide (polC (m + 1) p ≤ 3000) = false := decide_eq_false c1
    rw [hd] at SM
    clear hd c1 FE RI h hA hpl
    go_enter Tryz.func7, Tryz.ntmps7
    have cOP := OP.out.c7e
    go_wp2_with fail
    refine (SM.out _ BW.out).mono ?_
    rintro e w1 ⟨rfl, hb⟩
    clear cOP
    have BW := Lib.hid (below_step BW.out hb)
    have OP := Lib.hid (OP.out.below hb OP.out.lt)
    clear hb
    go_wp2_with fail
    refine (evruns_any _).mono ?_
    rintro e w2 ⟨rfl, hb⟩
    have BW := Lib.hid (below_step BW.out hb)
    have OP := Lib.hid (OP.out.below hb OP.out.lt)
    clear hb
    go_wp2_with fail
    go_ret
    exact ⟨rfl, BW.out⟩
  have hd : decide (polC (m + 1) p ≤ 3000) = true := decide_eq_true c1
  rw [hd] at SM
  clear hd
  by_cases c2 : fewC ask ≤ 1200
  rotate_left
  · have hf : decide (fewC ask ≤ 1200) = false := decide_eq_false c2
    have HF := Lib.hid (FE.out _ hf)
    clear hf c1 c2 FE RI h hA hpl
    go_enter Tryz.func7, Tryz.ntmps7
    have cOP := OP.out.c7e
    go_wp2_with fail
    refine (SM.out _ BW.out).mono ?_
    rintro e w1 ⟨rfl, hb⟩
    clear cOP
    have BW := Lib.hid (below_step BW.out hb)
    have OP := Lib.hid (OP.out.below hb OP.out.lt)
    clear hb
    go_wp2_with fail
    refine (HF.out _ BW.out).mono ?_
    rintro e w2 ⟨rfl, hb⟩
    have BW := Lib.hid (below_step BW.out hb)
    have OP := Lib.hid (OP.out.below hb OP.out.lt)
    clear hb
    go_wp2_with fail
    refine (evruns_any _).mono ?_
    rintro e w3 ⟨rfl, hb⟩
    have BW := Lib.hid (below_step BW.out hb)
    have OP := Lib.hid (OP.out.below hb OP.out.lt)
    clear hb
    go_wp2_with fail
    go_ret
    exact ⟨rfl, BW.out⟩
  have ht : decide (fewC ask ≤ 1200) = true := decide_eq_true c2
  have HF := Lib.hid (FE.out _ ht)
  clear ht FE
  by_cases c3 : rightE p = 0
  rotate_left
  · have HR := Lib.hid (RI.out _ rfl)
    have hr : (rightE p != 0) = true := by rw [bne_iff_ne]; exact c3
    generalize rightE p = r at *
    clear c1 c2 c3 RI h hA hpl
    go_enter Tryz.func7, Tryz.ntmps7
    have cOP := OP.out.c7e
    go_wp2_with fail
    refine (SM.out _ BW.out).mono ?_
    rintro e w1 ⟨rfl, hb⟩
    clear cOP
    have BW := Lib.hid (below_step BW.out hb)
    have OP := Lib.hid (OP.out.below hb OP.out.lt)
    clear hb
    go_wp2_with fail
    refine (HF.out _ BW.out).mono ?_
    rintro e w2 ⟨rfl, hb⟩
    have BW := Lib.hid (below_step BW.out hb)
    have OP := Lib.hid (OP.out.below hb OP.out.lt)
    clear hb
    have cOP := OP.out.c7e
    go_wp2_with fail
    refine (HR.out _ BW.out).mono ?_
    rintro e w3 ⟨rfl, hb⟩
    clear cOP
    have BW := Lib.hid (below_step BW.out hb)
    have OP := Lib.hid (OP.out.below hb OP.out.lt)
    clear hb
    go_wp2_with fail
    refine (evruns_any _).mono ?_
    rintro e w4 ⟨rfl, hb⟩
    have BW := Lib.hid (below_step BW.out hb)
    have OP := Lib.hid (OP.out.below hb OP.out.lt)
    clear hb
    go_wp2_with fail
    go_ret
    exact ⟨rfl, BW.out⟩
  have HR := Lib.hid (RI.out _ c3)
  clear RI
  obtain ⟨pid, pset, palg, ptg, pru, pki, pob⟩ := p
  simp only [Pol.id, Pol.set, Pol.alg] at SM HR OP BW ⊢
  cases pset
  rotate_left
  · clear c1 c2 c3 h hA hpl
    go_enter Tryz.func7, Tryz.ntmps7
    have cOP := OP.out.c7e
    go_wp2_with fail
    refine (SM.out _ BW.out).mono ?_
    rintro e w1 ⟨rfl, hb⟩
    clear cOP
    have BW := Lib.hid (below_step BW.out hb)
    have OP := Lib.hid (OP.out.below hb OP.out.lt)
    clear hb
    go_wp2_with fail
    refine (HF.out _ BW.out).mono ?_
    rintro e w2 ⟨rfl, hb⟩
    have BW := Lib.hid (below_step BW.out hb)
    have OP := Lib.hid (OP.out.below hb OP.out.lt)
    clear hb
    have cOP := OP.out.c7e
    go_wp2_with fail
    refine (HR.out _ BW.out).mono ?_
    rintro e w3 ⟨rfl, hb⟩
    clear cOP
    have BW := Lib.hid (below_step BW.out hb)
    have OP := Lib.hid (OP.out.below hb OP.out.lt)
    clear hb
    have cOP := OP.out.c7e
    go_wp2_with fail
    refine (evruns_any _).mono ?_
    rintro e w4 ⟨rfl, hb⟩
    clear cOP
    have BW := Lib.hid (below_step BW.out hb)
    have OP := Lib.hid (OP.out.below hb OP.out.lt)
    clear hb
    go_wp2_with fail
    go_ret
    exact ⟨rfl, BW.out⟩
  by_cases hn1 : n1 = 0
  rotate_left
  · have hp1 : (0 : Int) < (n1 : Int) := by omega
    clear c1 c2 c3 h hA hpl hn1
    go_enter Tryz.func7, Tryz.ntmps7
    have cOP := OP.out.c7e
    go_wp2_with fail
    refine (SM.out _ BW.out).mono ?_
    rintro e w1 ⟨rfl, hb⟩
    clear cOP
    have BW := Lib.hid (below_step BW.out hb)
    have OP := Lib.hid (OP.out.below hb OP.out.lt)
    clear hb
    go_wp2_with fail
    refine (HF.out _ BW.out).mono ?_
    rintro e w2 ⟨rfl, hb⟩
    have BW := Lib.hid (below_step BW.out hb)
    have OP := Lib.hid (OP.out.below hb OP.out.lt)
    clear hb
    have cOP := OP.out.c7e
    go_wp2_with fail
    refine (HR.out _ BW.out).mono ?_
    rintro e w3 ⟨rfl, hb⟩
    clear cOP
    have BW := Lib.hid (below_step BW.out hb)
    have OP := Lib.hid (OP.out.below hb OP.out.lt)
    clear hb
    have cOP := OP.out.c7e
    go_wp2_with fail
    refine (evruns_any _).mono ?_
    rintro e w4 ⟨rfl, hb⟩
    clear cOP
    have BW := Lib.hid (below_step BW.out hb)
    have OP := Lib.hid (OP.out.below hb OP.out.lt)
    clear hb
    go_wp2_with fail
    go_ret
    exact ⟨rfl, BW.out⟩
  subst hn1
  have htg : ptg = [] := List.eq_nil_of_length_eq_zero (Rw.len h.2.1)
  subst htg
  have hG := few_short c2
  have hal := flat_kids c3 rfl
  have hkids : pki = [] := hal.1
  have h16 : pru.length ≤ 16 := (right_all c3).2.2.2.1
  have hn2 : n2 ≤ 16 := by have h1 := Rw.len h.2.2.1; have h2 : (Pol.mk pid false palg [] pru pki pob).rules.length = n2 := h1; have h3 : pru.length = n2 := h2; omega
  have hln2 : pru.length = n2 := Rw.len h.2.2.1
  have r3 : rightE (withR (Pol.mk pid false palg [] pru pki pob) 3 pru) = 0 := right_with c3 rfl (by omega) (fun r hr => hr) (Nat.le_refl _) (fun h => h)
  obtain ⟨⟨⟨vp, vd⟩, vob⟩, hv⟩ : ∃ v, evV ask (withR (Pol.mk pid false palg [] pru pki pob) 3 pru) = v := ⟨_, rfl⟩
  have CP := Lib.hid (evcopy h c1 hpl)
  have EQ := Lib.hid (fun V (hV : Below W.heap.size W V) (R : Nat → Prop) (B1 B2 B3 B4 : Option Addr) (d1 d2 d3 d4 : Nat) (hq : PolIn V R (Pol.mk pid false palg [] pru pki pob) B1 0 d1 B2 n2 d2 B3 n3 d3 B4 n4 d4) => evdec (with_in (a := 3) hq (by decide) hq.2.2.1) r3 (hA.keep (Kept.all hV _) (fun _ h _ => h)) hG hv)
  have HC1 := Lib.hid c1
  have HC3 := Lib.hid c3
  have HA := Lib.hid hA
  have HG := Lib.hid hG
  have HKI := Lib.hid hkids
  have HN2 := Lib.hid hn2
  have HLN := Lib.hid hln2
  have HV := Lib.hid hv
  have HPL := Lib.hid hpl
  have H2L := Lib.hid (Rw.le h.2.2.1)
  have HRP := Lib.hid (fun r (hr : r ∈ pru) => (right_at c3).all.2.2.1 r hr)
  clear c1 c2 c3 hG hal hkids h16 hn2 hln2 r3 hv h hA hpl
  go_enter Tryz.func7, Tryz.ntmps7
  have cOP := OP.out.c7e
  go_wp2_with fail
  refine (SM.out _ BW.out).mono ?_
  rintro e w1 ⟨rfl, hb⟩
  clear cOP
  have BW := Lib.hid (below_step BW.out hb)
  have OP := Lib.hid (OP.out.below hb OP.out.lt)
  clear hb
  go_wp2_with fail
  refine (HF.out _ BW.out).mono ?_
  rintro e w2 ⟨rfl, hb⟩
  have BW := Lib.hid (below_step BW.out hb)
  have OP := Lib.hid (OP.out.below hb OP.out.lt)
  clear hb
  have cOP := OP.out.c7e
  go_wp2_with fail
  refine (HR.out _ BW.out).mono ?_
  rintro e w3 ⟨rfl, hb⟩
  clear cOP
  have BW := Lib.hid (below_step BW.out hb)
  have OP := Lib.hid (OP.out.below hb OP.out.lt)
  clear hb
  have cOP := OP.out.c7e
  go_wp2_with fail
  refine (CP.out _ BW.out).mono ?_
  rintro e w4 ⟨B1, d1, B2, d2, B3, d3, B4, d4, rfl, hb, hq⟩
  clear cOP
  have BQ4 := Lib.hid (below_step BW.out hb).size
  have al : Below w4.heap.size w4 (w4.alloc (.cells #[.string pid, .bool false, .int .i64 3, .slice B1 0 d1, .slice B2 n2 d2, .slice B3 n3 d3, .slice B4 n4 d4] 28)) := ((Below.refl _ _).alloc (Nat.le_refl _) _)
  have hb2 := below_step hb al
  have BW := Lib.hid (below_step BW.out hb2)
  have OP := Lib.hid (OP.out.below hb2 OP.out.lt)
  have OQ := Lib.hid (Ob.made w4 28 #[.string pid, .bool false, .int .i64 3, .slice B1 0 d1, .slice B2 n2 d2, .slice B3 n3 d3, .slice B4 n4 d4])
  have HQ := Lib.hid ((hq.keep (R' := fun b => b < w4.heap.size) (Kept.refl _ _) (fun _ _ h => h)).then_ al)
  clear hq
  clear hb hb2 al
  have cOQ := OQ.out.c7e
  go_wp2_with fail
  refine (EQ.out _ BW.out _ _ _ _ _ _ _ _ _ HQ.out _ (Below.refl _ _)).mono ?_
  rintro e w5 ⟨E1, e2, e3, rfl, hb, hd⟩
  clear cOQ
  have al : Below w5.heap.size w5 (w5.alloc (.cells #[.complex .f64 (fl vp) (fl vd), .slice E1 e2 e3] 33)) := ((Below.refl _ _).alloc (Nat.le_refl _) _)
  have hb2 := below_step hb al
  have BW := Lib.hid (below_step BW.out hb2)
  have OP := Lib.hid (OP.out.below hb2 OP.out.lt)
  have OQ := Lib.hid (OQ.out.below hb2 OQ.out.lt)
  have HQ := Lib.hid (HQ.out.then_ hb2)
  have OA := Lib.hid (Ob.made w5 33 #[.complex .f64 (fl vp) (fl vd), .slice E1 e2 e3])
  have DA := Lib.hid (hd.keep (R' := fun _ => True) (Kept.all al _) (fun _ _ _ => trivial))
  clear hd
  clear hb hb2 al
  have cOQ := OQ.out.c7e
  go_upto_block 0 with fail
  obtain ⟨W6, hW6⟩ : ∃ y, y = (w5.alloc (.cells #[.complex .f64 (fl vp) (fl vd), .slice E1 e2 e3] 33)) := ⟨_, rfl⟩
  rw [← hW6] at OQ OA DA HQ BW OP
  have OQ6 := Lib.hid OQ.out
  have OA6 := Lib.hid OA.out
  have DA6 := Lib.hid DA.out
  have HQ6 := Lib.hid HQ.out
  have BW6 := Lib.hid BW.out
  rw [← hW6]
  clear hW6 cOQ
  have HCUT : Hid (∀ k : Nat, k = k) := fun _ => rfl
  go_cut [12] from 54 to 71 (fun s wx => ∃ k : Nat, k ≤ n2 ∧ s = .int .i64 k ∧ ((∀ (j : Nat) (r : Rul), pru[j]? = some r → j < k → (ruleV ask r).m = (0, 0)) ∧ (∀ r, pru[k]? = some r → (ruleV ask r).m ≠ (0, 0))) ∧ Below W6.heap.size W6 wx)
  case first =>
    go_wp2
    go_loopw [12] (fun s wr => ∃ k : Nat, k ≤ n2 ∧ s = .int .i64 k ∧ (∀ (j : Nat) (r : Rul), pru[j]? = some r → j < k → (ruleV ask r).m = (0, 0)) ∧ Below W6.heap.size W6 wr) (fun s _ => n2 - (intOf s).toNat)
    case atStart => exact ⟨0, Nat.zero_le _, rfl, fun j r _ h => absurd h (Nat.not_lt_zero _), Below.refl _ _⟩
    case round =>
      obtain ⟨k, hk, rfl, hna, hb⟩ := hrel
      have HNA := Lib.hid hna
      have HB := Lib.hid hb
      have HBW := Lib.hid (below_step BW6.out hb)
      have OQR := Lib.hid (OQ6.out.below hb OQ6.out.lt)
      have q4 := OQR.out.cell 4
      clear hna hb
      have hk16 := HN2.out
      by_cases hlt : k < n2
      · obtain ⟨b, o, r, C1, m1, f1, C2, m2, f2, C3, m3, f3, rfl, hRb, hbl, hx, hid, ⟨x0, x1, x2, x3, x4⟩, t1, t2, t3⟩ := (HQ6.out.2.2.1.keep (Kept.all HB.out _) (fun _ h _ => h)).at_ hlt
        have HX := Lib.hid hx
        have hr := HRP.out r (List.mem_of_getElem? hx)
        obtain ⟨⟨⟨rp, rd⟩, rob⟩, hrv⟩ : ∃ v, ruleV ask r = v := ⟨_, rfl⟩
        have HC := Lib.hid (rule_at ask r t1 t2 t3 hr.2.2 (HA.out.keep (Kept.all HBW.out _) (fun _ h _ => h)) HG.out hrv)
        have HRV := Lib.hid hrv
        clear hx hid t1 t2 t3 hr hrv
        obtain ⟨rid, rdeny, rtg, rcond, rob'⟩ := r
        simp only at x0 x1 x2 x3 x4 HC
        by_cases hm : (rp, rd) = ((0, 0) : Mk)
        · obtain ⟨rfl, rfl⟩ := Prod.mk.inj hm
          go_wp2_with fail
          refine HC.out.mono ?_
          rintro z w9 ⟨D1, g2, g3, rfl, hb⟩
          have HB9 := Lib.hid (below_step HB.out hb)
          clear hb
          have hfd := fun W => evfield (fl 0) (fl 0) D1 g2 g3 W
          go_wp2_with fail
          go_roundw
          case rel =>
            refine ⟨k + 1, by omega, by go_num, fun j r hj hjk => ?_, HB9.out⟩
            by_cases hjk2 : j < k
            · exact HNA.out j r hj hjk2
            · obtain rfl : j = k := by omega
              obtain rfl := Option.some.inj (HX.out.symm.trans hj)
              rw [HRV.out]
          case measure => simp [intOf]; omega
        · have hmb : (rp == 0 && rd == 0) = false := by rw [Bool.eq_false_iff]; intro h; rw [Bool.and_eq_true, beq_iff_eq, beq_iff_eq] at h; exact hm (by rw [h.1, h.2])
          have HM := Lib.hid hm
          clear hm
          go_wp2_with fail
          refine HC.out.mono ?_
          rintro z w9 ⟨D1, g2, g3, rfl, hb⟩
          have HB9 := Lib.hid (below_step HB.out hb)
          clear hb
          have hfd := fun W => evfield (fl rp) (fl rd) D1 g2 g3 W
          go_wp2_with fail
          go_meet
          case rel => exact ⟨k, hk, rfl, ⟨HNA.out, fun r hr => by obtain rfl := Option.some.inj (HX.out.symm.trans hr); rw [HRV.out]; exact HM.out⟩, HB9.out⟩
      · obtain rfl : n2 = k := by omega
        go_wp2_with fail
        go_meet
        case rel => exact ⟨n2, Nat.le_refl _, rfl, ⟨HNA.out, fun r hr => by have h1 := (List.getElem?_eq_some_iff.1 hr).1; have h2 := HLN.out; omega⟩, HB.out⟩
  case rest =>
    obtain ⟨k, hk, rfl, hka, hb⟩ := hcut
    obtain ⟨W7, hW7⟩ : ∃ y, y = wc := ⟨wc, rfl⟩
    subst hW7
    have OQ7 := Lib.hid (OQ6.out.below hb OQ6.out.lt)
    have OA7 := Lib.hid (OA6.out.below hb OA6.out.lt)
    have DA7 := Lib.hid (DA6.out.keep (Kept.all hb _) (fun _ h _ => h))
    have HQ7 := Lib.hid (HQ6.out.then_ hb)
    have BW7 := Lib.hid (below_step BW6.out hb)
    have hk16 := HN2.out
    obtain ⟨mm, hmm⟩ : ∃ mm : Nat, mm = min (k + 1) n2 := ⟨_, rfl⟩
    have hm1 : mm ≤ n2 := by omega
    have hmin : min ((k : Int) + 1) (n2 : Int) = (mm : Int) := by omega
    have htk : pru.take mm = pru.take (k + 1) := by
      have h1 := HLN.out
      by_cases h2 : k + 1 ≤ n2
      · rw [show mm = k + 1 by omega]
      · rw [List.take_of_length_le (by omega), List.take_of_length_le (by omega)]
    have hev : evV ask (withR (Pol.mk pid false palg [] pru pki pob) 3 (pru.take mm)) = ⟨(vp, vd), vob⟩ := by
      rw [htk]
      exact (dec_first ask (p := (Pol.mk pid false palg [] pru pki pob)) HKI.out rfl hka.1 hka.2).trans HV.out
    have hrt : rightE (withR (Pol.mk pid false palg [] pru pki pob) 3 (pru.take mm)) = 0 := right_take HC3.out rfl mm
    have hwi := with_in (a := 3) HQ7.out (by decide) HQ7.out.2.2.1
    have CF := Lib.hid (evcopy (p := withR (Pol.mk pid false palg [] pru pki pob) 3 pru) hwi (Nat.le_trans (Nat.le_of_eq (with_size m (Pol.mk pid false palg [] pru pki pob) 3)) HC1.out) (no_kids hwi.2.2.2.1.choose_spec HKI.out m))
    have EF := Lib.hid (fun V (hV : Below W.heap.size W V) (R : Nat → Prop) (D1 D2 D3 D4 : Option Addr) (f1 f2 f3 f4 : Nat) (hq : PolIn V R (withR (Pol.mk pid false palg [] pru pki pob) 3 pru) D1 0 f1 D2 n2 f2 D3 n3 f3 D4 n4 f4) => evdec (with_in (p := withR (Pol.mk pid false palg [] pru pki pob) 3 pru) (a := 3) hq (by decide) (hq.2.2.1.take hm1)) hrt (HA.out.keep (Kept.all hV _) (fun _ h _ => h)) HG.out hev)
    have HLE := Lib.hid (Rw.le HQ7.out.2.2.1)
    have HM1 := Lib.hid hm1
    have hcap2 := Rw.cap HQ7.out.2.2.1
    unfold maxLen at hcap2
    have HCAP := Lib.hid hcap2
    have B7 : Hid (Below W7.heap.size W7 W7) := Below.refl _ _
    clear hmm htk hev hrt hwi hka hcap2 hb OQ6 OA6 DA6 HQ6 BW6
    have HMIN := Lib.hid hmin
    clear hmin hm1
    have cOQ7 := OQ7.out.c7e
    go_wp2_with fail
    refine (CF.out _ B7.out).mono ?_
    rintro e w8 ⟨D1, f1, D2, f2, D3, f3, D4, f4, rfl, hb, hq⟩
    clear cOQ7
    have al : Below w8.heap.size w8 (w8.alloc (.cells #[.string pid, .bool false, .int .i64 3, .slice D1 0 f1, .slice D2 mm f2, .slice D3 n3 f3, .slice D4 n4 f4] 28)) := ((Below.refl _ _).alloc (Nat.le_refl _) _)
    have hb2 := below_step hb al
    have BW7 := Lib.hid (below_step BW7.out hb2)
    have B7 := Lib.hid (below_step B7.out hb2)
    have OQ7 := Lib.hid (OQ7.out.below hb2 OQ7.out.lt)
    have OA7 := Lib.hid (OA7.out.below hb2 OA7.out.lt)
    have HQ7 := Lib.hid (HQ7.out.then_ hb2)
    have DA7 := Lib.hid (DA7.out.keep (Kept.all hb2 _) (fun _ h _ => h))
    have OF := Lib.hid (Ob.made w8 28 #[.string pid, .bool false, .int .i64 3, .slice D1 0 f1, .slice D2 mm f2, .slice D3 n3 f3, .slice D4 n4 f4])
    have HF2 := Lib.hid (hq.then_ al)
    have of := Ob.made w8 28 #[.string pid, .bool false, .int .i64 3, .slice D1 0 f1, .slice D2 n2 f2, .slice D3 n3 f3, .slice D4 n4 f4]
    have z := of.c7e
    have f4' := of.frozen 4
    have hle2 := Rw.le hq.2.2.1
    have hcp := Rw.cap hq.2.2.1
    unfold maxLen at hcp
    clear hq of
    clear hb hb2 al
    have hmin := HMIN.out
    have hm1 := HM1.out
    have hi1 : (mm : Int) ≤ (f2 : Int) := by omega
    have hi2 : (0 : Int) ≤ (mm : Int) := by omega
    have cOF := OF.out.c7e
    go_wp2_with fail
    refine (EF.out _ BW7.out _ _ _ _ _ _ _ _ _ HF2.out _ (Below.refl _ _)).mono ?_
    rintro e w9 ⟨G1, g2, g3, rfl, hb, hd⟩
    clear cOF
    have al : Below w9.heap.size w9 (w9.alloc (.cells #[.complex .f64 (fl vp) (fl vd), .slice G1 g2 g3] 33)) := ((Below.refl _ _).alloc (Nat.le_refl _) _)
    have hb2 := below_step hb al
    have BW7 := Lib.hid (below_step BW7.out hb2)
    have B7 := Lib.hid (below_step B7.out hb2)
    have OQ7 := Lib.hid (OQ7.out.below hb2 OQ7.out.lt)
    have OA7 := Lib.hid (OA7.out.below hb2 OA7.out.lt)
    have OF := Lib.hid (OF.out.below hb2 OF.out.lt)
    have HQ7 := Lib.hid (HQ7.out.then_ hb2)
    have DA7 := Lib.hid (DA7.out.keep (Kept.all hb2 _) (fun _ h _ => h))
    have HF2 := Lib.hid (HF2.out.then_ hb2)
    have OB := Lib.hid (Ob.made w9 33 #[.complex .f64 (fl vp) (fl vd), .slice G1 g2 g3])
    have DB := Lib.hid (hd.keep (R' := fun _ => True) (Kept.all al _) (fun _ _ _ => trivial))
    clear hd z f4' hmin hi1 hi2
    clear hb hb2 al
    have cOA7 := OA7.out.c2e
    have cOB := OB.out.c2e
    go_wp2_with fail
    refine (evsame_any vp vd DA7.out DB.out).mono ?_
    rintro e w10 ⟨rfl, hb⟩
    clear cOA7 cOB
    have BW7 := Lib.hid (below_step BW7.out hb)
    have B7 := Lib.hid (below_step B7.out hb)
    have OQ7 := Lib.hid (OQ7.out.below hb OQ7.out.lt)
    have OA7 := Lib.hid (OA7.out.below hb OA7.out.lt)
    have OF := Lib.hid (OF.out.below hb OF.out.lt)
    have OB := Lib.hid (OB.out.below hb OB.out.lt)
    have HQ7 := Lib.hid (HQ7.out.then_ hb)
    have DA7 := Lib.hid (DA7.out.keep (Kept.all hb _) (fun _ h _ => h))
    have HF2 := Lib.hid (HF2.out.then_ hb)
    have DB := Lib.hid (DB.out.keep (Kept.all hb _) (fun _ h _ => h))
    clear hb
    obtain ⟨ga, hga, hgk⟩ := evtwo g
    have hwg := fun w => within_any (n := g) (lo := 0) (hi := 1) (w := w) (by omega) (by omega) (by omega)
    have hgb := within_le (n := g) (lo := 0) (hi := 1) (by omega)
    generalize withinOf g 0 1 = gi at *
    obtain ⟨kk, hkk⟩ : ∃ x, x = algN ga := ⟨_, rfl⟩
    have hwr : IntKind.i64.wrap (1 + gi) = kk := by rw [hgk, ← hkk]; exact IntWalk.i64_in kk (by rw [hkk, ← hgk]; omega)
    have hwt := fun w => within_any (n := t) (lo := 0) (hi := (n2 : Int)) (w := w) (by omega) (by omega) (by have := HN2.out; omega)
    have htb := within_le (n := t) (lo := 0) (hi := (n2 : Int)) (by omega)
    obtain ⟨nn, hnn⟩ : ∃ nn : Nat, (nn : Int) = withinOf t 0 n2 := ⟨(withinOf t 0 n2).toNat, by omega⟩
    rw [← hnn] at hwt htb
    have WG := Lib.hid hwg
    have WT := Lib.hid hwt
    have hki : InI kk := by rw [hkk]; rcases hga with rfl | rfl <;> decide
    have hr2 : rightE (withR (Pol.mk pid false palg [] pru pki pob) kk pru) = 0 := by rw [hkk]; exact right_with HC3.out rfl (by rcases hga with rfl | rfl <;> decide) (fun r hr => hr) (Nat.le_refl _) (fun h => h)
    have hr3 : rightE (withR (Pol.mk pid false palg [] pru pki pob) kk (pru.drop nn ++ pru.take nn)) = 0 := by rw [hkk]; exact right_turn HC3.out rfl hga nn
    have hor := dec_order ask (p := (Pol.mk pid false palg [] pru pki pob)) HKI.out rfl hga nn
    rw [← hkk] at hor
    obtain ⟨⟨⟨cp, cd⟩, cob⟩, hcv⟩ : ∃ v, evV ask (withR (Pol.mk pid false palg [] pru pki pob) kk pru) = v := ⟨_, rfl⟩
    obtain ⟨⟨⟨xp, xd⟩, xob⟩, hxv⟩ : ∃ v, evV ask (withR (Pol.mk pid false palg [] pru pki pob) kk (pru.drop nn ++ pru.take nn)) = v := ⟨_, rfl⟩
    have hor2 : (xp, xd) = (cp, cd) ∧ xob.length = cob.length := by have h1 : (evV ask (withR (Pol.mk pid false palg [] pru pki pob) kk (pru.drop nn ++ pru.take nn))).m = (evV ask (withR (Pol.mk pid false palg [] pru pki pob) kk pru)).m := hor.1; have h2 : (evV ask (withR (Pol.mk pid false palg [] pru pki pob) kk (pru.drop nn ++ pru.take nn))).ob.length = (evV ask (withR (Pol.mk pid false palg [] pru pki pob) kk pru)).ob.length := hor.2; rw [hxv, hcv] at h1 h2; exact ⟨h1, h2⟩
    have HOR := Lib.hid hor2
    have HNN : Hid (nn ≤ n2) := by show _ ≤ _; omega
    have EC := Lib.hid (fun V (hV : Below W.heap.size W V) (R : Nat → Prop) (hq : PolIn V R (Pol.mk pid false palg [] pru pki pob) B1 0 d1 B2 n2 d2 B3 n3 d3 B4 n4 d4) => evdec (with_in (a := kk) hq hki hq.2.2.1) hr2 (HA.out.keep (Kept.all hV _) (fun _ h _ => h)) HG.out hcv)
    have ED := Lib.hid (fun V (hV : Below W.heap.size W V) (R : Nat → Prop) (A6 : Option Addr) (c6 : Nat) (hq : PolIn V R (Pol.mk pid false palg [] pru pki pob) B1 0 d1 B2 n2 d2 B3 n3 d3 B4 n4 d4) (hr : Rus V R A6 n2 c6 (pru.drop nn ++ pru.take nn)) => evdec (with_in (a := kk) hq hki hr) hr3 (HA.out.keep (Kept.all hV _) (fun _ h _ => h)) HG.out hxv)
    have hbw4 : W.heap.size ≤ w4.heap.size := by have h1 := BQ4.out; omega
    clear hga hgk hgb hkk htb hnn hki hr2 hr3 hor hcv hxv hor2 hwg hwt
    go_wp2_with fail
    refine (WG.out _).mono ?_
    rintro e w' ⟨rfl, rfl⟩
    have cq := OQ7.out.cell 2
    have fq := OQ7.out.frozen 2
    go_upto_region 15 with fail
    have oq2 : Ob (w10.setCell ⟨w4.heap.size, 2, none⟩ (.int .i64 kk)) w4.heap.size 28 #[.string pid, .bool false, .int .i64 kk, .slice B1 0 d1, .slice B2 n2 d2, .slice B3 n3 d3, .slice B4 n4 d4] := OQ7.out.put 2 (.int .i64 kk)
    have bw2 := BW7.out.setCell (p := ⟨w4.heap.size, 2, none⟩) hbw4 (.int .i64 kk)
    have hq2 := HQ7.out.keep (w' := (w10.setCell ⟨w4.heap.size, 2, none⟩ (.int .i64 kk))) (R' := fun b => b < w4.heap.size) ⟨by simp [World.setCell], fun b hb _ => Below.heap_setCell _ _ _ _ (by have h1 : b < w4.heap.size := hb; show b ≠ w4.heap.size; omega)⟩ (fun _ h _ => h)
    obtain ⟨W11, hW11⟩ : ∃ y, y = (w10.setCell ⟨w4.heap.size, 2, none⟩ (.int .i64 kk)) := ⟨_, rfl⟩
    rw [← hW11] at oq2 bw2 hq2
    rw [← hW11]
    have OQ8 := Lib.hid oq2
    have BW8 := Lib.hid bw2
    have HQ8 := Lib.hid hq2
    clear hW11 oq2 bw2 hq2 cq fq hwr hbw4 OQ7 HQ7 BW7 B7 DA7 DB HF2 OF OA7 OB
    have OQ11L := Lib.hid OQ8.out.lt
    have cOQ8 := OQ8.out.c7e
    go_wp2_with fail
    refine (EC.out _ BW8.out _ HQ8.out _ (Below.refl _ _)).mono ?_
    rintro e w12 ⟨H1, h2, h3, rfl, hb, hd⟩
    clear cOQ8
    have al : Below w12.heap.size w12 (w12.alloc (.cells #[.complex .f64 (fl cp) (fl cd), .slice H1 h2 h3] 33)) := ((Below.refl _ _).alloc (Nat.le_refl _) _)
    have hb2 := below_step hb al
    have BW8 := Lib.hid (below_step BW8.out hb2)
    have OQ8 := Lib.hid (OQ8.out.below hb2 OQ8.out.lt)
    have HQ8 := Lib.hid (HQ8.out.then_ hb2)
    have OC := Lib.hid (Ob.made w12 33 #[.complex .f64 (fl cp) (fl cd), .slice H1 h2 h3])
    have HLC : Hid (cob.length = h2) := Rw.len hd
    have HW12 : Hid (w4.heap.size < w12.heap.size) := Nat.lt_of_lt_of_le OQ11L.out hb.size
    clear hd
    clear hb hb2 al
    have cOQ8 := OQ8.out.c7e
    go_wp2_with fail
    refine (WT.out _).mono ?_
    rintro e w' ⟨rfl, rfl⟩
    clear cOQ8
    go_upto_region 17 with fail
    obtain ⟨W13, hW13⟩ : ∃ y, y = (w12.alloc (.cells #[.complex .f64 (fl cp) (fl cd), .slice H1 h2 h3] 33)) := ⟨_, rfl⟩
    rw [← hW13] at BW8 OQ8 HQ8 OC
    rw [← hW13]
    have BW9 := Lib.hid BW8.out
    have OQ9 := Lib.hid OQ8.out
    have HQ9 := Lib.hid HQ8.out
    have OC9 := Lib.hid OC.out
    clear hW13
    have OBK := Lib.hid (fun V (hV : Below W13.heap.size W13 V) => (OQ9.out.below hV OQ9.out.lt).c7e)
    have hle2 := HLE.out
    have hcap := HCAP.out
    have hnn2 := HNN.out
    have i1 : (0 : Int) ≤ (nn : Int) := by omega
    have i2 : (nn : Int) ≤ (n2 : Int) := by omega
    have i3 : (nn : Int) ≤ (d2 : Int) := by omega
    have i4 : (n2 : Int) ≤ (d2 : Int) := by omega
    refine wp_region_held_tail (fun w' => Below W13.heap.size W13 w') 11 (by kernel_rfl) (by kernel_rfl) ?_
    intro G
    change HeadW _ _ _ _ _ _ _ _ _ _ (W13.drewN 1)
    have S := Lib.hid (below_drewN (Below.refl W13.heap.size W13) 1)
    generalize W13.drewN 1 = y0 at *
    refine HeadW_take (i := 1) (v := ?_) G rfl (by kernel_rfl) (by kernel_rfl) (by kernel_rfl) (fun _ _ _ h => h) (Or.inl ⟨by rfl, ?_⟩) S.out ?_
    rotate_left
    · intro wz hS
      go_simp
      try with_reducible rfl
    refine HeadW_take (i := 2) (v := ?_) G rfl (by kernel_rfl) (by kernel_rfl) (by kernel_rfl) (fun _ _ _ h => h) (Or.inl ⟨by rfl, ?_⟩) S.out ?_
    rotate_left
    · intro wz hS
      have hk := OBK.out _ hS
      go_simp
      try with_reducible rfl
    refine HeadW_take (i := 3) (v := ?_) G rfl (by kernel_rfl) (by kernel_rfl) (by kernel_rfl) (fun _ _ _ h => h) (Or.inl ⟨by rfl, ?_⟩) S.out ?_
    rotate_left
    · intro wz hS
      go_simp
      try with_reducible rfl
    refine HeadW_take (i := 6) (v := ?_) G rfl (by kernel_rfl) (by kernel_rfl) (by kernel_rfl) (fun _ _ _ h => h) (Or.inl ⟨by rfl, ?_⟩) S.out ?_
    rotate_left
    · intro wz hS
      go_simp
      try with_reducible rfl
    refine HeadW_take (i := 7) (v := ?_) G rfl (by kernel_rfl) (by kernel_rfl) (by kernel_rfl) (fun _ _ _ h => h) (Or.inl ⟨by rfl, ?_⟩) S.out ?_
    rotate_left
    · intro wz hS
      have hk := OBK.out _ hS
      go_simp
      try with_reducible rfl
    refine HeadW_take (i := 8) (v := ?_) G rfl (by kernel_rfl) (by kernel_rfl) (by kernel_rfl) (fun _ _ _ h => h) (Or.inl ⟨by rfl, ?_⟩) S.out ?_
    rotate_left
    · intro wz hS
      go_simp
      try with_reducible rfl
    refine HeadW_take (i := 4) (v := ?_) G rfl (by kernel_rfl) (by kernel_rfl) (by kernel_rfl) (fun _ _ _ h => h) (Or.inl ⟨by rfl, ?_⟩) S.out ?_
    rotate_left
    · intro wz hS
      go_simp
      try with_reducible rfl
    refine HeadW_take (i := 9) (v := ?_) G rfl (by kernel_rfl) (by kernel_rfl) (by kernel_rfl) (fun _ _ _ h => h) (Or.inl ⟨by rfl, ?_⟩) S.out ?_
    rotate_left
    · intro wz hS
      go_simp
      try with_reducible rfl
    have hqr := HQ9.out.2.2.1
    have hd := Rus.drop (m := nn) hqr hnn2
    have htk := Rus.take (m := nn) hqr hnn2
    obtain ⟨A7, c7, w5', A6, c6, w6', r5, r6, e5, e6, hru⟩ := both_ruls (w := y0) (q := n2) (hd.keep (Kept.all S.out _) (fun _ h _ => h)) (htk.keep (Kept.all S.out _) (fun _ h _ => h)) (by have := HN2.out; omega) (by omega)
    have R5 := Lib.hid r5
    have R6 := Lib.hid r6
    have E5 := Lib.hid (S.out.trans (e5.mono S.out.size))
    have E6 := Lib.hid (S.out.trans (e6.mono S.out.size))
    have HRU := Lib.hid hru
    have HY0 := Lib.hid S.out.size
    clear r5 r6 e5 e6 hru hqr hd htk
    refine HeadW_ready (rs := [0]) (by kernel_rfl) rfl rfl ?_
    refine AllW.cons rfl (fun K hK => ?_) AllW.nil
    go_simp
    refine hK _ _ (S.out.alloc S.out.size _) ?_
    clear hK K
    refine HeadW_ready (rs := [5]) (by kernel_rfl) rfl rfl ?_
    refine AllW.cons rfl (fun K hK => ?_) AllW.nil
    refine oper_append (.tmp 117) (.tmp 121) 24 24 rfl rfl rfl R5.out ?_
    refine hK _ _ E5.out ?_
    clear hK K
    refine HeadW_ready (rs := [10]) (by kernel_rfl) rfl rfl ?_
    refine AllW.cons rfl (fun K hK => ?_) AllW.nil
    refine oper_append (.tmp 122) (.tmp 126) 24 24 rfl rfl rfl R6.out ?_
    refine hK _ _ E6.out ?_
    clear hK K
    intro _
    refine ⟨by kernel_rfl, ?_⟩
    simp only [List.drop_succ_cons, List.drop_zero]
    clear R5 R6
    generalize (if d2 = nn then B2 else Option.map (fun x => x.add (nn * 5)) B2) = drp at *
    have oq := OQ9.out.below E6.out OQ9.out.lt
    have cq := oq.cell 4
    have fq := oq.frozen 4
    have hw13 := OQ9.out.lt
    have hbw4 : W.heap.size ≤ w4.heap.size := BQ4.out
    have oq2 : Ob (w6'.setCell ⟨w4.heap.size, 4, none⟩ (.slice A6 n2 c6)) w4.heap.size 28 #[.string pid, .bool false, .int .i64 kk, .slice B1 0 d1, .slice A6 n2 c6, .slice B3 n3 d3, .slice B4 n4 d4] := oq.put 4 (.slice A6 n2 c6)
    have bw2 := (below_step BW9.out E6.out).setCell (p := ⟨w4.heap.size, 4, none⟩) hbw4 (.slice A6 n2 c6)
    have KK : Kept (fun b => b ≠ w4.heap.size) w6' (w6'.setCell ⟨w4.heap.size, 4, none⟩ (.slice A6 n2 c6)) := ⟨by simp [World.setCell], fun b hb _ => Below.heap_setCell _ _ _ _ hb⟩
    have hq2 := (HQ9.out.then_ E6.out).keep (w' := (w6'.setCell ⟨w4.heap.size, 4, none⟩ (.slice A6 n2 c6))) (R' := fun b => b < w4.heap.size) ⟨by simp [World.setCell], fun b hb _ => Below.heap_setCell _ _ _ _ (by have h1 : b < w4.heap.size := hb; show b ≠ w4.heap.size; omega)⟩ (fun _ h _ => h)
    have hr2 := (Rus.keep HRU.out (R' := fun b => b ≠ w4.heap.size) (Kept.refl _ _) (fun b hb _ => by have h1 : b < w4.heap.size ∨ y0.heap.size ≤ b := hb; have h2 := HY0.out; show b ≠ _; omega)).keep (R' := fun _ => True) KK (fun _ _ _ => trivial)
    have oc2 := (OC9.out.below E6.out OC9.out.lt).keep (w' := (w6'.setCell ⟨w4.heap.size, 4, none⟩ (.slice A6 n2 c6))) (Below.heap_setCell _ _ _ _ (by have h1 := HW12.out; show w12.heap.size ≠ w4.heap.size; omega))
    have OQX := Lib.hid oq2
    have BWX := Lib.hid bw2
    have HQX := Lib.hid (hq2.keep (R' := fun _ => True) (Kept.refl _ _) (fun _ _ _ => trivial))
    have HRX := Lib.hid hr2
    have OCX := Lib.hid oc2
    clear oq oq2 bw2 KK hq2 hr2 oc2 hw13 hbw4 E5 E6 HRU HY0 OQ9 BW9 HQ9 OC9 S OBK
    have cOQX := OQX.out.c7e
    go_wp2_with fail
    refine (ED.out _ BWX.out _ _ _ HQX.out HRX.out _ (Below.refl _ _)).mono ?_
    rintro e w14 ⟨J1, j2, j3, rfl, hb, hd⟩
    clear cOQX
    have al : Below w14.heap.size w14 (w14.alloc (.cells #[.complex .f64 (fl xp) (fl xd), .slice J1 j2 j3] 33)) := ((Below.refl _ _).alloc (Nat.le_refl _) _)
    have hb2 := below_step hb al
    have BWX := Lib.hid (below_step BWX.out hb2)
    have OQX := Lib.hid (OQX.out.below hb2 OQX.out.lt)
    have OCX := Lib.hid (OCX.out.below hb2 OCX.out.lt)
    have OX := Lib.hid (Ob.made w14 33 #[.complex .f64 (fl xp) (fl xd), .slice J1 j2 j3])
    have HLX : Hid (xob.length = j2) := Rw.len hd
    clear hd cq fq
    clear hb hb2 al
    have BWF := Lib.hid BWX.out
    have OCF := Lib.hid OCX.out
    have OXF := Lib.hid OX.out
    have hj : j2 = h2 := by have h1 := HLX.out; have h2 := HLC.out; have h3 := HOR.out.2; omega
    obtain ⟨W15, hW15⟩ : ∃ y, y = (w14.alloc (.cells #[.complex .f64 (fl xp) (fl xd), .slice J1 j2 j3] 33)) := ⟨_, rfl⟩
    rw [← hW15] at BWF OCF OXF
    have hmk := HOR.out.1
    obtain ⟨rfl, rfl⟩ := Prod.mk.inj hmk
    subst hj
    have c1 := OCF.out.c2e
    have c2 := OXF.out.c2e
    rw [hW15] at c1 c2
    clear hmk
    go_wp2_with fail
    refine (evruns_any _).mono ?_
    rintro e w16 ⟨rfl, hb⟩
    rw [← hW15] at hb
    have BWG := Lib.hid (below_step BWF.out hb)
    clear hb
    go_wp2_with fail
    go_ret
    exact ⟨rfl, BWG.out⟩
end Go.Proofs.YtmoglaknmlhpgaaGreat

