/- The law EvalSure. -/
import Derived.Test.YtmoglaknmlhpgaaGreatEvalAmong
namespace Go.Proofs.YtmoglaknmlhpgaaGreat
set_option linter.unusedVariables false
open Go.RowKit
attribute [local go_sem] eq0 feq2 eq4 fgt0 gt2 ord_eq ord_gt ord_lt ev_store

set_option maxRecDepth 100000 in
set_option maxHeartbeats 12800000 in
theorem evalSure_walk (W : World) (p : Pol) {A1 : Option Addr} {n1 k1 : Nat} {A2 : Option Addr} {n2 k2 : Nat} {A3 : Option Addr} {n3 k3 : Nat} {A4 : Option Addr} {n4 k4 : Nat} (h : PolIn W (fun _ => True) p A1 n1 k1 A2 n2 k2 A3 n3 k3 A4 n4 k4)
    (A5 : Option Addr) (n5 k5 : Nat) (h5 : ∃ l, Gvs W (fun _ => True) A5 n5 k5 l) :
    Calls Tryz.prog 4 #[.agg #[.string p.id, .bool p.set, .int .i64 p.alg, .slice A1 n1 k1, .slice A2 n2 k2, .slice A3 n3 k3, .slice A4 n4 k4], .slice A5 n5 k5] W fun e w' => e = .returned (.bool true) ∧ Below W.heap.size W w' := by
  obtain ⟨ask, hg⟩ := h5
  obtain ⟨m, hpl, hsm⟩ := evsmall h
  have SM := Lib.hid hsm
  have FE := Lib.hid (fun (b : Bool) (hb : decide (fewC ask ≤ 1200) = b) => evfew (w := W) hg hb)
  have RI := Lib.hid (fun (r : Int) (hr : rightE p = r) => evright h hr)
  have OP := Lib.hid (Ob.made W 28 #[.string p.id, .bool p.set, .int .i64 p.alg, .slice A1 n1 k1, .slice A2 n2 k2, .slice A3 n3 k3, .slice A4 n4 k4])
  have BW := Lib.hid ((Below.refl W.heap.size W).alloc (Nat.le_refl _) (.cells #[.string p.id, .bool p.set, .int .i64 p.alg, .slice A1 n1 k1, .slice A2 n2 k2, .slice A3 n3 k3, .slice A4 n4 k4] 28))
  clear hsm
  by_cases c1 : polC (m + 1) p ≤ 3000
  rotate_left
  · have hd : decide (polC (m + 1) p ≤ 3000) = false := decide_eq_false c1
    rw [hd] at SM
    clear hd c1 FE RI h hg hpl
    go_enter Tryz.func4, Tryz.ntmps4
    have cOP := OP.out.c7e
    go_wp2_with fail
    refine (SM.out _ BW.out).mono ?_
    rintro e w1 ⟨rfl, hb⟩
    clear cOP
    have BW := Lib.hid (below_step BW.out hb)
    have OP := Lib.hid (OP.out.below hb OP.out.lt)
    clear hb
    go_wp2_with fail
    refine (evruns_any _).mono ?_
    rintro e w2 ⟨rfl, hb⟩
    have BW := Lib.hid (below_step BW.out hb)
    have OP := Lib.hid (OP.out.below hb OP.out.lt)
    clear hb
    go_wp2_with fail
    go_ret
    exact ⟨rfl, BW.out⟩
  have hd : decide (polC (m + 1) p ≤ 3000) = true := decide_eq_true c1
  rw [hd] at SM
  clear hd
  by_cases c2 : fewC ask ≤ 1200
  rotate_left
  · have hf : decide (fewC ask ≤ 1200) = false := decide_eq_false c2
    have HF := Lib.hid (FE.out _ hf)
    clear hf c1 c2 FE RI h hg hpl
    go_enter Tryz.func4, Tryz.ntmps4
    have cOP := OP.out.c7e
    go_wp2_with fail
    refine (SM.out _ BW.out).mono ?_
    rintro e w1 ⟨rfl, hb⟩
    clear cOP
    have BW := Lib.hid (below_step BW.out hb)
    have OP := Lib.hid (OP.out.below hb OP.out.lt)
    clear hb
    go_wp2_with fail
    refine (HF.out _ BW.out).mono ?_
    rintro e w2 ⟨rfl, hb⟩
    have BW := Lib.hid (below_step BW.out hb)
    have OP := Lib.hid (OP.out.below hb OP.out.lt)
    clear hb
    go_wp2_with fail
    refine (evruns_any _).mono ?_
    rintro e w3 ⟨rfl, hb⟩
    have BW := Lib.hid (below_step BW.out hb)
    have OP := Lib.hid (OP.out.below hb OP.out.lt)
    clear hb
    go_wp2_with fail
    go_ret
    exact ⟨rfl, BW.out⟩
  have ht : decide (fewC ask ≤ 1200) = true := decide_eq_true c2
  have HF := Lib.hid (FE.out _ ht)
  clear ht FE
  by_cases c3 : rightE p = 0
  rotate_left
  · have HR := Lib.hid (RI.out _ rfl)
    have hr : (rightE p != 0) = true := by rw [bne_iff_ne]; exact c3
    generalize rightE p = r at *
    clear c1 c2 c3 RI h hg hpl
    go_enter Tryz.func4, Tryz.ntmps4
    have cOP := OP.out.c7e
    go_wp2_with fail
    refine (SM.out _ BW.out).mono ?_
    rintro e w1 ⟨rfl, hb⟩
    clear cOP
    have BW := Lib.hid (below_step BW.out hb)
    have OP := Lib.hid (OP.out.below hb OP.out.lt)
    clear hb
    go_wp2_with fail
    refine (HF.out _ BW.out).mono ?_
    rintro e w2 ⟨rfl, hb⟩
    have BW := Lib.hid (below_step BW.out hb)
    have OP := Lib.hid (OP.out.below hb OP.out.lt)
    clear hb
    have cOP := OP.out.c7e
    go_wp2_with fail
    refine (HR.out _ BW.out).mono ?_
    rintro e w3 ⟨rfl, hb⟩
    clear cOP
    have BW := Lib.hid (below_step BW.out hb)
    have OP := Lib.hid (OP.out.below hb OP.out.lt)
    clear hb
    go_wp2_with fail
    refine (evruns_any _).mono ?_
    rintro e w4 ⟨rfl, hb⟩
    have BW := Lib.hid (below_step BW.out hb)
    have OP := Lib.hid (OP.out.below hb OP.out.lt)
    clear hb
    go_wp2_with fail
    go_ret
    exact ⟨rfl, BW.out⟩
  have HR := Lib.hid (RI.out _ c3)
  clear RI
  have hG := few_short c2
  obtain ⟨⟨⟨vp, vd⟩, vob⟩, hv⟩ : ∃ v, evV ask p = v := ⟨_, rfl⟩
  have EP := Lib.hid (evdec h c3 hg hG hv)
  have AM := Lib.hid (fun V (hV : Below W.heap.size W V) (x : Dut) => among_all m (w := V) (A1 := A1) (n1 := n1) (k1 := k1) x (h.2.2.1.keep (Kept.all hV _) (fun _ h _ => h)) (hpl.keep (Kept.all hV _) (fun _ h _ => h)) (h.2.2.2.2.keep (Kept.all hV _) (fun _ h _ => h)))
  have hrk := dec_right ask p
  have hob := fun x => dec_ob ask p (x := x)
  have hno := dec_none (ask := ask) (p := p)
  rw [hv] at hrk hob hno
  have HRK := Lib.hid hrk
  have HOB := Lib.hid hob
  have HNO := Lib.hid hno
  clear c1 c2 c3 hG hv hrk hob hno h hg hpl
  go_enter Tryz.func4, Tryz.ntmps4
  have cOP := OP.out.c7e
  go_wp2_with fail
  refine (SM.out _ BW.out).mono ?_
  rintro e w1 ⟨rfl, hb⟩
  clear cOP
  have BW := Lib.hid (below_step BW.out hb)
  have OP := Lib.hid (OP.out.below hb OP.out.lt)
  clear hb
  go_wp2_with fail
  refine (HF.out _ BW.out).mono ?_
  rintro e w2 ⟨rfl, hb⟩
  have BW := Lib.hid (below_step BW.out hb)
  have OP := Lib.hid (OP.out.below hb OP.out.lt)
  clear hb
  have cOP := OP.out.c7e
  go_wp2_with fail
  refine (HR.out _ BW.out).mono ?_
  rintro e w3 ⟨rfl, hb⟩
  clear cOP
  have BW := Lib.hid (below_step BW.out hb)
  have OP := Lib.hid (OP.out.below hb OP.out.lt)
  clear hb
  have cOP := OP.out.c7e
  go_wp2_with fail
  refine (EP.out _ BW.out).mono ?_
  rintro e w4 ⟨E1, e2, e3, rfl, hb, hd⟩
  clear cOP
  have al : Below w4.heap.size w4 (w4.alloc (.cells #[.complex .f64 (fl vp) (fl vd), .slice E1 e2 e3] 33)) := ((Below.refl _ _).alloc (Nat.le_refl _) _)
  have hb2 := below_step hb al
  have BW := Lib.hid (below_step BW.out hb2)
  have OP := Lib.hid (OP.out.below hb2 OP.out.lt)
  have OA := Lib.hid (Ob.made w4 33 #[.complex .f64 (fl vp) (fl vd), .slice E1 e2 e3])
  have DA := Lib.hid (hd.keep (R' := fun _ => True) (Kept.all al _) (fun b _ hlt => trivial))
  clear hd
  clear hb hb2 al
  have cOA := OA.out.c2e
  have hrm := mright_any vp vd
  rw [show rightM vp vd = true from HRK.out] at hrm
  have HRM := Lib.hid hrm
  clear hrm
  go_wp2_with fail
  refine (HRM.out _).mono ?_
  rintro z w' ⟨rfl, rfl⟩
  by_cases hs : SureM (vp, vd)
  rotate_left
  · have hve : vob = [] := HNO.out hs
    have he2 : e2 = 0 := by have h1 := Rw.len DA.out; rw [hve] at h1; exact h1.symm
    subst he2
    have m1 : (vp == 4 && vd == 0) = false := by rw [Bool.eq_false_iff]; intro h; rw [Bool.and_eq_true, beq_iff_eq, beq_iff_eq] at h; exact hs (.inl (by rw [h.1, h.2]))
    have m2 : (vp == 0 && vd == 4) = false := by rw [Bool.eq_false_iff]; intro h; rw [Bool.and_eq_true, beq_iff_eq, beq_iff_eq] at h; exact hs (.inr (by rw [h.1, h.2]))
    clear hs hve
    go_wp2_with fail
    refine (evruns_any _).mono ?_
    rintro e w10 ⟨rfl, hb⟩
    have BW := Lib.hid (below_step BW.out hb)
    clear hb
    go_wp2_with fail
    go_ret
    exact ⟨rfl, BW.out⟩
  have HLN := Lib.hid (Rw.len DA.out)
  have hle := Rw.le DA.out
  have hcap := Rw.cap DA.out
  unfold maxLen at hcap
  rcases hs with hs | hs
  · obtain ⟨rfl, rfl⟩ := Prod.mk.inj hs
    clear hs HNO HRM HRK
    go_wp2
    go_loopw [55] (fun i wr => ∃ k : Nat, k ≤ e2 ∧ i = .int .i64 k ∧ Below (w4.alloc (.cells #[.complex .f64 (fl 4) (fl 0), .slice E1 e2 e3] 33)).heap.size (w4.alloc (.cells #[.complex .f64 (fl 4) (fl 0), .slice E1 e2 e3] 33)) wr) (fun i _ => e2 - (intOf i).toNat)
    case atStart => exact ⟨0, Nat.zero_le _, rfl, Below.refl _ _⟩
    case round =>
      obtain ⟨k, hk, rfl, hb⟩ := hrel
      have BR := Lib.hid hb
      have BWR := Lib.hid (below_step BW.out hb)
      have OAR := Lib.hid (OA.out.below hb OA.out.lt)
      have OPR := Lib.hid (OP.out.below hb OP.out.lt)
      have DAR := Lib.hid (DA.out.keep (Kept.all hb _) (fun _ h _ => h))
      clear hb
      by_cases hlt : k < e2
      · obtain ⟨b, o, y, rfl, _, hbl, hy, _, y0, y1, y2⟩ := DAR.out.at_ hlt
        obtain ⟨_, hon, ham⟩ := HOB.out y (List.mem_of_getElem? hy)
        have a3 : Below wr.heap.size wr (wr.alloc (.cells #[.int .i64 y.on, .int .i64 y.kind, .string y.arg] 42)) := (Below.refl _ _).alloc (Nat.le_refl _) _
        have AC := AM.out (wr.alloc (.cells #[.int .i64 y.on, .int .i64 y.kind, .string y.arg] 42)) (below_step BWR.out a3) y
        rw [ham] at AC
        have HAC := Lib.hid AC
        have ca := (OAR.out.below a3 OAR.out.lt).c2e
        have cp := (OPR.out.below a3 OPR.out.lt).c7e
        have A3' := Lib.hid a3
        have hyo : (y.on == 1) = true := by rw [beq_iff_eq]; simpa using hon
        clear hy a3 AC ham
        obtain ⟨yo, yk, ya⟩ := y
        simp only at y0 y1 y2 HAC A3' hyo
        go_wp2_with fail
        refine HAC.out.mono ?_
        rintro e w8 ⟨rfl, hb⟩
        have B8 := Lib.hid (below_step BR.out (below_step A3'.out hb))
        clear hb
        go_wp2_with fail
        go_roundw
        case rel => exact ⟨k + 1, by omega, by go_num, B8.out⟩
        case measure => simp [intOf]; omega
      · obtain rfl : e2 = k := by omega
        go_wp2_with fail
        refine (evruns_any _).mono ?_
        rintro e w9 ⟨rfl, hb⟩
        have BF := Lib.hid (below_step BWR.out hb)
        clear hb
        go_wp2_with fail
        go_ret
        exact ⟨rfl, BF.out⟩
  · obtain ⟨rfl, rfl⟩ := Prod.mk.inj hs
    clear hs HNO HRM HRK
    go_wp2
    go_loopw [55] (fun i wr => ∃ k : Nat, k ≤ e2 ∧ i = .int .i64 k ∧ Below (w4.alloc (.cells #[.complex .f64 (fl 0) (fl 4), .slice E1 e2 e3] 33)).heap.size (w4.alloc (.cells #[.complex .f64 (fl 0) (fl 4), .slice E1 e2 e3] 33)) wr) (fun i _ => e2 - (intOf i).toNat)
    case atStart => exact ⟨0, Nat.zero_le _, rfl, Below.refl _ _⟩
    case round =>
      obtain ⟨k, hk, rfl, hb⟩ := hrel
      have BR := Lib.hid hb
      have BWR := Lib.hid (below_step BW.out hb)
      have OAR := Lib.hid (OA.out.below hb OA.out.lt)
      have OPR := Lib.hid (OP.out.below hb OP.out.lt)
      have DAR := Lib.hid (DA.out.keep (Kept.all hb _) (fun _ h _ => h))
      clear hb
      by_cases hlt : k < e2
      · obtain ⟨b, o, y, rfl, _, hbl, hy, _, y0, y1, y2⟩ := DAR.out.at_ hlt
        obtain ⟨_, hon, ham⟩ := HOB.out y (List.mem_of_getElem? hy)
        have a3 : Below wr.heap.size wr (wr.alloc (.cells #[.int .i64 y.on, .int .i64 y.kind, .string y.arg] 42)) := (Below.refl _ _).alloc (Nat.le_refl _) _
        have AC := AM.out (wr.alloc (.cells #[.int .i64 y.on, .int .i64 y.kind, .string y.arg] 42)) (below_step BWR.out a3) y
        rw [ham] at AC
        have HAC := Lib.hid AC
        have ca := (OAR.out.below a3 OAR.out.lt).c2e
        have cp := (OPR.out.below a3 OPR.out.lt).c7e
        have A3' := Lib.hid a3
        have hyo : (y.on == 1) = false := by rw [beq_eq_false_iff_ne]; intro h; exact absurd (hon.1 h) (by decide)
        clear hy a3 AC ham
        obtain ⟨yo, yk, ya⟩ := y
        simp only at y0 y1 y2 HAC A3' hyo
        go_wp2_with fail
        refine HAC.out.mono ?_
        rintro e w8 ⟨rfl, hb⟩
        have B8 := Lib.hid (below_step BR.out (below_step A3'.out hb))
        clear hb
        go_wp2_with fail
        go_roundw
        case rel => exact ⟨k + 1, by omega, by go_num, B8.out⟩
        case measure => simp [intOf]; omega
      · obtain rfl : e2 = k := by omega
        go_wp2_with fail
        refine (evruns_any _).mono ?_
        rintro e w9 ⟨rfl, hb⟩
        have BF := Lib.hid (below_step BWR.out hb)
        clear hb
        go_wp2_with fail
        go_ret
        exact ⟨rfl, BF.out⟩
end Go.Proofs.YtmoglaknmlhpgaaGreat

