/- ShowApart: the walk. -/
import Derived.Test.YtincnopaclmppaaDoorShowApartL
import Derived.Test.YtincnopaclmppaaDoorUpC
import Derived.Test.YtincnopaclmppaaDoorUpA
import Derived.Test.YtincnopaclmppaaDoorKeepCopy
namespace Go.Proofs.YtincnopaclmppaaDoor
set_option linter.unusedVariables false
open Go.RowKit Go.Sort

theorem CopyTo.inn {V V' : World} {m : Nat} {p : Pol} {B1 B2 B3 B4 : Option Addr} {n1 n2 n3 n4 d1 d2 d3 d4 : Nat} (h : CopyTo V V' m p B1 n1 d1 B2 n2 d2 B3 n3 d3 B4 n4 d4) (hid : p.id.size ≤ maxLen) (ha : InI p.alg) (hn2 : n2 ≤ 3000) (hn3 : n3 ≤ 3000) : PolIn V' (fun b => V.heap.size ≤ b) p B1 n1 d1 B2 n2 d2 B3 n3 d3 B4 n4 d4 := by
  obtain ⟨C1, e1, c1, C2, e2, c2, C3, e3, c3, C4, e4, c4, e, h0, h00, h1, h2, h3, h4⟩ := h.at_ hid ha hn2 hn3
  simp only [List.cons.injEq, Value.slice.injEq, and_true, true_and] at e
  obtain ⟨⟨rfl, rfl, rfl⟩, ⟨rfl, rfl, rfl⟩, ⟨rfl, rfl, rfl⟩, rfl, rfl, rfl⟩ := e
  exact ⟨⟨hid, ha⟩, h1, h2, ⟨m, h3⟩, h4⟩
/-- What there is behind the changes: p as it was, and another one beside it. -/
def Two (W : World) (p : Pol) (A1 : Option Addr) (n1 k1 : Nat) (A2 : Option Addr) (n2 k2 : Nat) (A3 : Option Addr) (n3 k3 : Nat) (A4 : Option Addr) (n4 k4 : Nat) (wx : World) : Prop :=
  ∃ (q : Pol) (C1 : Option Addr) (r1 s1 : Nat) (C2 : Option Addr) (r2 s2 : Nat) (C3 : Option Addr) (r3 s3 : Nat) (C4 : Option Addr) (r4 s4 : Nat), Ob wx W.heap.size 28 #[.string p.id, .bool p.set, .int .i64 p.alg, .slice A1 n1 k1, .slice A2 n2 k2, .slice A3 n3 k3, .slice A4 n4 k4] ∧ Ob wx (W.heap.size + 1) 28 #[.string q.id, .bool q.set, .int .i64 q.alg, .slice C1 r1 s1, .slice C2 r2 s2, .slice C3 r3 s3, .slice C4 r4 s4] ∧ PolIn wx (fun _ => True) q C1 r1 s1 C2 r2 s2 C3 r3 s3 C4 r4 s4 ∧ Below W.heap.size W wx

set_option maxRecDepth 100000 in
set_option maxHeartbeats 16000000 in
theorem showApart_walk (W : World) (p : Pol) {A1 : Option Addr} {n1 k1 : Nat} {A2 : Option Addr} {n2 k2 : Nat} {A3 : Option Addr} {n3 k3 : Nat} {A4 : Option Addr} {n4 k4 : Nat} (h : PolIn W (fun _ => True) p A1 n1 k1 A2 n2 k2 A3 n3 k3 A4 n4 k4)
    (q : Pol) {C1 : Option Addr} {r1 s1 : Nat} {C2 : Option Addr} {r2 s2 : Nat} {C3 : Option Addr} {r3 s3 : Nat} {C4 : Option Addr} {r4 s4 : Nat} (h' : PolIn W (fun _ => True) q C1 r1 s1 C2 r2 s2 C3 r3 s3 C4 r4 s4) (how : Int) (hhow : (Lit.int .i64 how).wf = true) (at_ : Int) (hat : (Lit.int .i64 at_).wf = true) (ht : Tbl W) :
    Calls Tryd.prog 3 #[.agg #[.string p.id, .bool p.set, .int .i64 p.alg, .slice A1 n1 k1, .slice A2 n2 k2, .slice A3 n3 k3, .slice A4 n4 k4], .agg #[.string q.id, .bool q.set, .int .i64 q.alg, .slice C1 r1 s1, .slice C2 r2 s2, .slice C3 r3 s3, .slice C4 r4 s4], .int .i64 how, .int .i64 at_] W fun e w' => e = .returned (.bool true) ∧ Below W.heap.size W w' := by
  obtain ⟨dp, ⟨mp, rfl, hkm⟩, sm1⟩ := call_small h
  obtain ⟨dq, ⟨mq, rfl, hkq⟩, sm2⟩ := call_small h'
  have sm1 := Lib.hid sm1
  have sm2 := Lib.hid sm2
  have HPI := Lib.hid h
  have HQI := Lib.hid h'
  have HT := Lib.hid ht
  have HRUN := Lib.hid (fun w (t : Tbl w) => showRuns_walk w t)
  have D0 : Hid (Below W.heap.size W ((W.alloc (.cells #[.string p.id, .bool p.set, .int .i64 p.alg, .slice A1 n1 k1, .slice A2 n2 k2, .slice A3 n3 k3, .slice A4 n4 k4] 28)).alloc (.cells #[.string q.id, .bool q.set, .int .i64 q.alg, .slice C1 r1 s1, .slice C2 r2 s2, .slice C3 r3 s3, .slice C4 r4 s4] 28))) := (((Below.refl _ _).alloc (Nat.le_refl _) _).alloc (by rw [size_al]; omega) _)
  have OP0 : Hid (Ob ((W.alloc (.cells #[.string p.id, .bool p.set, .int .i64 p.alg, .slice A1 n1 k1, .slice A2 n2 k2, .slice A3 n3 k3, .slice A4 n4 k4] 28)).alloc (.cells #[.string q.id, .bool q.set, .int .i64 q.alg, .slice C1 r1 s1, .slice C2 r2 s2, .slice C3 r3 s3, .slice C4 r4 s4] 28)) W.heap.size 28 #[.string p.id, .bool p.set, .int .i64 p.alg, .slice A1 n1 k1, .slice A2 n2 k2, .slice A3 n3 k3, .slice A4 n4 k4]) := (Ob.made _ _ _).keep (Below.heap_alloc _ _ _ (by rw [size_al]; omega))
  have OQ0 : Hid (Ob ((W.alloc (.cells #[.string p.id, .bool p.set, .int .i64 p.alg, .slice A1 n1 k1, .slice A2 n2 k2, .slice A3 n3 k3, .slice A4 n4 k4] 28)).alloc (.cells #[.string q.id, .bool q.set, .int .i64 q.alg, .slice C1 r1 s1, .slice C2 r2 s2, .slice C3 r3 s3, .slice C4 r4 s4] 28)) (W.heap.size + 1) 28 #[.string q.id, .bool q.set, .int .i64 q.alg, .slice C1 r1 s1, .slice C2 r2 s2, .slice C3 r3 s3, .slice C4 r4 s4]) := Lib.hid (by have := Ob.made (W.alloc (.cells #[.string p.id, .bool p.set, .int .i64 p.alg, .slice A1 n1 k1, .slice A2 n2 k2, .slice A3 n3 k3, .slice A4 n4 k4] 28)) 28 #[.string q.id, .bool q.set, .int .i64 q.alg, .slice C1 r1 s1, .slice C2 r2 s2, .slice C3 r3 s3, .slice C4 r4 s4]; simpa using this)
  have hHKM := Lib.hid hkm
  have HS1 := sm1.out _ D0.out
  obtain ⟨hid, htg, hru, _, hob⟩ := h
  have le2 := Rw.le hru
  have cap2 := Rw.cap hru
  have le4 := Rw.le hob
  have cap4 := Rw.cap hob
  have HLB := Lib.hid hob.big
  unfold maxLen at cap2 cap4
  have HID := Lib.hid hid
  have HLN : Hid (p.rules.length = n2 ∧ p.kids.length = n3 ∧ p.ob.length = n4) := ⟨Rw.len hru, Rw.len hkm, Rw.len hob⟩
  have hids := hid.1
  unfold maxLen at hids
  clear h' ht hkm hkq hid htg hru hob
  by_cases e1 : polC (mp + 1) p ≤ 3000
  rotate_left
  · rw [decide_eq_false e1] at HS1
    have HS1 := Lib.hid HS1
    clear e1
    go_enter Tryd.func3, Tryd.ntmps3
    go_wp2_with (first
      | (go_at_call 4; (with_reducible refine HS1.out.mono ?_); rintro e w1 ⟨rfl, hb⟩
         have G1 := Lib.hid (below_step D0.out hb)
         clear hb)
      | (go_at_call 6; refine (HRUN.out _ (HT.out.then_ G1.out)).mono ?_; rintro e w9 ⟨rfl, hb⟩; have G9 := Lib.hid (below_step G1.out hb); clear hb))
    go_ret
    exact ⟨rfl, G9.out⟩
  rw [decide_eq_true e1] at HS1
  have HS1 := Lib.hid HS1
  have E1 := Lib.hid e1
  clear e1
  by_cases e2 : polC (mq + 1) q ≤ 3000
  rotate_left
  · have E2 := Lib.hid (decide_eq_false e2)
    clear e2
    go_enter Tryd.func3, Tryd.ntmps3
    go_wp2_with (first
      | (go_at_call 4; (with_reducible refine HS1.out.mono ?_); rintro e w1 ⟨rfl, hb⟩
         have G1 := Lib.hid (below_step D0.out hb)
         have OP1 := Lib.hid (Ob.below OP0.out hb OP0.out.lt)
         have OQ1 := Lib.hid (Ob.below OQ0.out hb OQ0.out.lt)
         have y0 := OQ1.out.cell 0
         have y1 := OQ1.out.cell 1
         have y2 := OQ1.out.cell 2
         have y3 := OQ1.out.cell 3
         have y4 := OQ1.out.cell 4
         have y5 := OQ1.out.cell 5
         have y6 := OQ1.out.cell 6
         have HS2 := sm2.out _ G1.out
         rw [E2.out] at HS2
         have HS2 := Lib.hid HS2
         clear hb)
      | (go_at_call 4; (with_reducible refine HS2.out.mono ?_); rintro e w2 ⟨rfl, hb⟩
         have G2 := Lib.hid (below_step G1.out hb)
         clear hb)
      | (go_at_call 6; refine (HRUN.out _ (HT.out.then_ G2.out)).mono ?_; rintro e w9 ⟨rfl, hb⟩; have G9 := Lib.hid (below_step G2.out hb); clear hb))
    go_ret
    exact ⟨rfl, G9.out⟩
  have E2 := Lib.hid (decide_eq_true e2)
  clear e2
  obtain ⟨er, her⟩ : ∃ er, rightE p = er := ⟨_, rfl⟩
  have ER := Lib.hid her
  by_cases e0 : er = 0
  rotate_left
  · have hne : (er != 0) = true := by simpa using e0
    clear e0 her
    go_enter Tryd.func3, Tryd.ntmps3
    go_wp2_with (first
      | (go_at_call 4; (with_reducible refine HS1.out.mono ?_); rintro e w1 ⟨rfl, hb⟩
         have G1 := Lib.hid (below_step D0.out hb)
         have OP1 := Lib.hid (Ob.below OP0.out hb OP0.out.lt)
         have OQ1 := Lib.hid (Ob.below OQ0.out hb OQ0.out.lt)
         have y0 := OQ1.out.cell 0
         have y1 := OQ1.out.cell 1
         have y2 := OQ1.out.cell 2
         have y3 := OQ1.out.cell 3
         have y4 := OQ1.out.cell 4
         have y5 := OQ1.out.cell 5
         have y6 := OQ1.out.cell 6
         have HS2 := sm2.out _ G1.out
         rw [E2.out] at HS2
         have HS2 := Lib.hid HS2
         clear hb)
      | (go_at_call 4; (with_reducible refine HS2.out.mono ?_); rintro e w2 ⟨rfl, hb⟩
         have G2 := Lib.hid (below_step G1.out hb)
         have OP2 := Lib.hid (Ob.below OP1.out hb OP1.out.lt)
         have OQ2 := Lib.hid (Ob.below OQ1.out hb OQ1.out.lt)
         have x0 := OP2.out.cell 0
         have x1 := OP2.out.cell 1
         have x2 := OP2.out.cell 2
         have x3 := OP2.out.cell 3
         have x4 := OP2.out.cell 4
         have x5 := OP2.out.cell 5
         have x6 := OP2.out.cell 6
         have HR1 := call_right ER.out HPI.out _ G2.out
         have HR1 := Lib.hid HR1
         clear hb)
      | (go_at_call 5; (with_reducible refine HR1.out.mono ?_); rintro e w3 ⟨rfl, hb⟩
         have G3 := Lib.hid (below_step G2.out hb)
         clear hb)
      | (go_at_call 6; refine (HRUN.out _ (HT.out.then_ G3.out)).mono ?_; rintro e w9 ⟨rfl, hb⟩; have G9 := Lib.hid (below_step G3.out hb); clear hb))
    go_ret
    exact ⟨rfl, G9.out⟩
  subst e0
  clear her
  by_cases h1 : p.id.size < 1
  · have h1' : ((p.id.size : Nat) : Int) < 1 := by omega
    go_enter Tryd.func3, Tryd.ntmps3
    go_wp2_with (first
      | (go_at_call 4; (with_reducible refine HS1.out.mono ?_); rintro e w1 ⟨rfl, hb⟩
         have G1 := Lib.hid (below_step D0.out hb)
         have OP1 := Lib.hid (Ob.below OP0.out hb OP0.out.lt)
         have OQ1 := Lib.hid (Ob.below OQ0.out hb OQ0.out.lt)
         have y0 := OQ1.out.cell 0
         have y1 := OQ1.out.cell 1
         have y2 := OQ1.out.cell 2
         have y3 := OQ1.out.cell 3
         have y4 := OQ1.out.cell 4
         have y5 := OQ1.out.cell 5
         have y6 := OQ1.out.cell 6
         have HS2 := sm2.out _ G1.out
         rw [E2.out] at HS2
         have HS2 := Lib.hid HS2
         clear hb)
      | (go_at_call 4; (with_reducible refine HS2.out.mono ?_); rintro e w2 ⟨rfl, hb⟩
         have G2 := Lib.hid (below_step G1.out hb)
         have OP2 := Lib.hid (Ob.below OP1.out hb OP1.out.lt)
         have OQ2 := Lib.hid (Ob.below OQ1.out hb OQ1.out.lt)
         have x0 := OP2.out.cell 0
         have x1 := OP2.out.cell 1
         have x2 := OP2.out.cell 2
         have x3 := OP2.out.cell 3
         have x4 := OP2.out.cell 4
         have x5 := OP2.out.cell 5
         have x6 := OP2.out.cell 6
         have HR1 := call_right ER.out HPI.out _ G2.out
         have HR1 := Lib.hid HR1
         clear hb)
      | (go_at_call 5; (with_reducible refine HR1.out.mono ?_); rintro e w3 ⟨rfl, hb⟩
         have G3 := Lib.hid (below_step G2.out hb)
         have OP3 := Lib.hid (Ob.below OP2.out hb OP2.out.lt)
         have OQ3 := Lib.hid (Ob.below OQ2.out hb OQ2.out.lt)
         have v0 := OP3.out.cell 0
         have v1 := OP3.out.cell 1
         have v2 := OP3.out.cell 2
         have v3 := OP3.out.cell 3
         have v4 := OP3.out.cell 4
         have v5 := OP3.out.cell 5
         have v6 := OP3.out.cell 6
         have v50 := OQ3.out.cell 0
         clear hb)
      | (go_at_call 6; refine (HRUN.out _ (HT.out.then_ G3.out)).mono ?_; rintro e w9 ⟨rfl, hb⟩; have G9 := Lib.hid (below_step G3.out hb); clear hb))
    go_ret
    exact ⟨rfl, G9.out⟩
  have h1' : ¬ ((p.id.size : Nat) : Int) < 1 := by omega
  go_enter Tryd.func3, Tryd.ntmps3
  go_upto_if 31 with (first
      | (go_at_call 4; (with_reducible refine HS1.out.mono ?_); rintro e w1 ⟨rfl, hb⟩
         have G1 := Lib.hid (below_step D0.out hb)
         have OP1 := Lib.hid (Ob.below OP0.out hb OP0.out.lt)
         have OQ1 := Lib.hid (Ob.below OQ0.out hb OQ0.out.lt)
         have y0 := OQ1.out.cell 0
         have y1 := OQ1.out.cell 1
         have y2 := OQ1.out.cell 2
         have y3 := OQ1.out.cell 3
         have y4 := OQ1.out.cell 4
         have y5 := OQ1.out.cell 5
         have y6 := OQ1.out.cell 6
         have HS2 := sm2.out _ G1.out
         rw [E2.out] at HS2
         have HS2 := Lib.hid HS2
         clear hb)
      | (go_at_call 4; (with_reducible refine HS2.out.mono ?_); rintro e w2 ⟨rfl, hb⟩
         have G2 := Lib.hid (below_step G1.out hb)
         have OP2 := Lib.hid (Ob.below OP1.out hb OP1.out.lt)
         have OQ2 := Lib.hid (Ob.below OQ1.out hb OQ1.out.lt)
         have x0 := OP2.out.cell 0
         have x1 := OP2.out.cell 1
         have x2 := OP2.out.cell 2
         have x3 := OP2.out.cell 3
         have x4 := OP2.out.cell 4
         have x5 := OP2.out.cell 5
         have x6 := OP2.out.cell 6
         have HR1 := call_right ER.out HPI.out _ G2.out
         have HR1 := Lib.hid HR1
         clear hb)
      | (go_at_call 5; (with_reducible refine HR1.out.mono ?_); rintro e w3 ⟨rfl, hb⟩
         have G3 := Lib.hid (below_step G2.out hb)
         have OP3 := Lib.hid (Ob.below OP2.out hb OP2.out.lt)
         have OQ3 := Lib.hid (Ob.below OQ2.out hb OQ2.out.lt)
         have v0 := OP3.out.cell 0
         have v1 := OP3.out.cell 1
         have v2 := OP3.out.cell 2
         have v3 := OP3.out.cell 3
         have v4 := OP3.out.cell 4
         have v5 := OP3.out.cell 5
         have v6 := OP3.out.cell 6
         have v50 := OQ3.out.cell 0
         clear hb))
  go_cut [] from 30 to 86 (fun wx => Two W p A1 n1 k1 A2 n2 k2 A3 n3 k3 A4 n4 k4 wx)
  case first =>
    have HCP : Hid (∀ V : World, Below W.heap.size W V → Calls Tryd.prog 7 #[.agg #[.string p.id, .bool p.set, .int .i64 p.alg, .slice A1 n1 k1, .slice A2 n2 k2, .slice A3 n3 k3, .slice A4 n4 k4]] V fun e w' => ∃ B1 d1 B2 d2 B3 d3 B4 d4, e = .returned (.agg #[.string p.id, .bool p.set, .int .i64 p.alg, .slice B1 n1 d1, .slice B2 n2 d2, .slice B3 n3 d3, .slice B4 n4 d4]) ∧ Below V.heap.size V w' ∧ CopyTo V w' mp p B1 n1 d1 B2 n2 d2 B3 n3 d3 B4 n4 d4) :=
      fun V hV => cok_all mp E1.out HID.out.1 HID.out.2 (HPI.out.2.1.keep (Kept.all hV _) (fun _ h _ => h)) (HPI.out.2.2.1.keep (Kept.all hV _) (fun _ h _ => h)) (hHKM.out.keep (Kept.all hV _) (fun _ h _ => h)) (HPI.out.2.2.2.2.keep (Kept.all hV _) (fun _ h _ => h))
    have HN3 : Hid (n2 ≤ 3000 ∧ n3 ≤ 3000) := ⟨by have := HLN.out.1; have := E1.out; unfold polC at this; omega, by have := HLN.out.2.1; have e := E1.out; have := kids_len hHKM.out; unfold polC at e; omega⟩
    have MK : Hid (∀ (wx : World) (q' : Pol) {D1 : Option Addr} {m1 c1 : Nat} {D2 : Option Addr} {m2 c2 : Nat} {D3 : Option Addr} {m3 c3 : Nat} {D4 : Option Addr} {m4 c4 : Nat}, Ob wx W.heap.size 28 #[.string p.id, .bool p.set, .int .i64 p.alg, .slice A1 n1 k1, .slice A2 n2 k2, .slice A3 n3 k3, .slice A4 n4 k4] → Ob wx (W.heap.size + 1) 28 #[.string q'.id, .bool q'.set, .int .i64 q'.alg, .slice D1 m1 c1, .slice D2 m2 c2, .slice D3 m3 c3, .slice D4 m4 c4] → PolIn wx (fun _ => True) q' D1 m1 c1 D2 m2 c2 D3 m3 c3 D4 m4 c4 → Below W.heap.size W wx → Two W p A1 n1 k1 A2 n2 k2 A3 n3 k3 A4 n4 k4 wx) := fun wx q' D1 m1 c1 D2 m2 c2 D3 m3 c3 D4 m4 c4 a b c d => ⟨q', D1, m1, c1, D2, m2, c2, D3, m3, c3, D4, m4, c4, a, b, c, d⟩
    by_cases hneg : 0 ≤ how
    rotate_left
    · have hn' : how < 0 := by omega
      go_wp2_with fail
      go_meet
      exact MK.out _ q OP3.out OQ3.out (HQI.out.keep (Kept.all G3.out _) (fun _ h _ => h)) G3.out
    go_upto_region 5 with (first
      | (go_at_call 7; (with_reducible refine (HCP.out _ G3.out).mono ?_); rintro e w4 ⟨B1, d1, B2, d2, B3, d3, B4, d4, rfl, hb, hc⟩
         have G4 := Lib.hid (below_step G3.out hb)
         have OP4 := Lib.hid (Ob.below OP3.out hb OP3.out.lt)
         have OQ4 := Lib.hid (Ob.below OQ3.out hb OQ3.out.lt)
         have LT3 := Lib.hid OQ3.out.lt
         have P1 := put1_ob (P := W.heap.size + 1) OQ4.out (.string p.id)
         have P2 := put2_ob (P := W.heap.size + 1) OQ4.out (.string p.id) (.bool p.set)
         have P3 := put3_ob (P := W.heap.size + 1) OQ4.out (.string p.id) (.bool p.set) (.int .i64 p.alg)
         have P4 := put4_ob (P := W.heap.size + 1) OQ4.out (.string p.id) (.bool p.set) (.int .i64 p.alg) (.slice B1 n1 d1)
         have P5 := put5_ob (P := W.heap.size + 1) OQ4.out (.string p.id) (.bool p.set) (.int .i64 p.alg) (.slice B1 n1 d1) (.slice B2 n2 d2)
         have P6 := put6_ob (P := W.heap.size + 1) OQ4.out (.string p.id) (.bool p.set) (.int .i64 p.alg) (.slice B1 n1 d1) (.slice B2 n2 d2) (.slice B3 n3 d3)
         have P7 := put7_ob (P := W.heap.size + 1) OQ4.out (.string p.id) (.bool p.set) (.int .i64 p.alg) (.slice B1 n1 d1) (.slice B2 n2 d2) (.slice B3 n3 d3) (.slice B4 n4 d4)
         have z0 := OQ4.out.cell 0
         have f0 := OQ4.out.frozen 0
         have z1 := P1.cell 1
         have f1 := P1.frozen 1
         have z2 := P2.cell 2
         have f2 := P2.frozen 2
         have z3 := P3.cell 3
         have f3 := P3.frozen 3
         have z4 := P4.cell 4
         have f4 := P4.frozen 4
         have z5 := P5.cell 5
         have f5 := P5.frozen 5
         have z6 := P6.cell 6
         have f6 := P6.frozen 6
         have PO := put7_only (V := w4) (P := W.heap.size + 1) (.string p.id) (.bool p.set) (.int .i64 p.alg) (.slice B1 n1 d1) (.slice B2 n2 d2) (.slice B3 n3 d3) (.slice B4 n4 d4)
         have CU := Lib.hid (hc.only PO LT3.out)
         have OPU := Lib.hid (OP4.out.keep (PO.heap OP4.out.lt (by omega)))
         have OQU := Lib.hid P7
         have GU := Lib.hid (G4.out.trans (PO.below G4.out.size (by omega)))
         have LTU : Hid (W.heap.size ≤ w3.heap.size) := G3.out.size
         simp only [put1W, put2W, put3W, put4W, put5W, put6W] at z1 z2 z3 z4 z5 z6 f1 f2 f3 f4 f5 f6
         simp only [put7W, put1W, put2W, put3W, put4W, put5W, put6W] at CU OPU OQU GU
         clear P1 P2 P3 P4 P5 P6 P7 PO hc hb))
    generalize hU : (((((((w4.setCell ⟨W.heap.size + 1, 0, none⟩ (.string p.id)).setCell ⟨W.heap.size + 1, 1, none⟩ (.bool p.set)).setCell ⟨W.heap.size + 1, 2, none⟩ (.int .i64 p.alg)).setCell ⟨W.heap.size + 1, 3, none⟩ (.slice B1 n1 d1)).setCell ⟨W.heap.size + 1, 4, none⟩ (.slice B2 n2 d2)).setCell ⟨W.heap.size + 1, 5, none⟩ (.slice B3 n3 d3)).setCell ⟨W.heap.size + 1, 6, none⟩ (.slice B4 n4 d4)) = U at *
    clear hU z0 z1 z2 z3 z4 z5 z6 f0 f1 f2 f3 f4 f5 f6
    have u0 := OQU.out.cell 0
    have u1 := OQU.out.cell 1
    have u2 := OQU.out.cell 2
    have u3 := OQU.out.cell 3
    have u4 := OQU.out.cell 4
    have u5 := OQU.out.cell 5
    have u6 := OQU.out.cell 6
    have PIU := Lib.hid (CU.out.inn HID.out.1 HID.out.2 HN3.out.1 HN3.out.2)
    have hwi := within_le (n := how) (lo := 0) (hi := 4) (by omega)
    have WI1 := Lib.hid (fun w => within_any (n := how) (lo := 0) (hi := 4) (w := w) (by omega) (by omega) (by omega))
    have hfive : withinOf how 0 4 = 0 ∨ withinOf how 0 4 = 1 ∨ withinOf how 0 4 = 2 ∨ withinOf how 0 4 = 3 ∨ withinOf how 0 4 = 4 := by omega
    rcases hfive with hv | hv | hv | hv | hv
    · rw [hv] at WI1
      clear hv hwi
      go_wp2_with (go_at_call 8; (with_reducible refine (WI1.out _).mono ?_); rintro e w5 ⟨rfl, rfl⟩)
      go_meet
      exact MK.out _ p OPU.out OQU.out (PIU.out.keep (Kept.refl _ _) (fun _ _ _ => trivial)) GU.out
    · rw [hv] at WI1
      clear hv hwi
      obtain ⟨x, hx⟩ : ∃ x : ByteArray, x = p.id.extract 0 1 ++ (⟨#[113]⟩ : ByteArray) := ⟨_, rfl⟩
      have HXS : Hid (x.size ≤ maxLen) := by show _ ≤ _; rw [hx, ByteArray.size_append, ByteArray.size_extract]; have : (⟨#[113]⟩ : ByteArray).size = 1 := rfl; unfold maxLen; omega
      have f0 := OQU.out.frozen 0
      have OQX := Lib.hid (OQU.out.put 0 (.string (p.id.extract 0 1 ++ (⟨#[113]⟩ : ByteArray))))
      have OPX := Lib.hid (OPU.out.keep (Below.heap_setCell U ⟨W.heap.size + 1, 0, none⟩ (.string (p.id.extract 0 1 ++ (⟨#[113]⟩ : ByteArray))) W.heap.size (by show W.heap.size ≠ W.heap.size + 1; omega)))
      have GX := Lib.hid (GU.out.setCell (p := ⟨W.heap.size + 1, 0, none⟩) (by show W.heap.size ≤ W.heap.size + 1; omega) (.string (p.id.extract 0 1 ++ (⟨#[113]⟩ : ByteArray))))
      have PIX := Lib.hid (PIU.out.keep (w' := U.setCell ⟨W.heap.size + 1, 0, none⟩ (.string (p.id.extract 0 1 ++ (⟨#[113]⟩ : ByteArray)))) (R' := fun _ => True) ⟨by simp [World.setCell], fun b hb _ => Below.heap_setCell _ _ _ _ (by have h1 : w3.heap.size ≤ b := hb; have := LT3.out; show b ≠ W.heap.size + 1; omega)⟩ (fun _ _ _ => trivial))
      go_wp2_with (go_at_call 8; (with_reducible refine (WI1.out _).mono ?_); rintro e w5 ⟨rfl, rfl⟩)
      go_meet
      exact MK.out _ (.mk (p.id.extract 0 1 ++ (⟨#[113]⟩ : ByteArray)) p.set p.alg p.tg p.rules p.kids p.ob) OPX.out OQX.out ⟨⟨by have := HXS.out; rwa [hx] at this, HID.out.2⟩, PIX.out.2⟩ GX.out
    · rw [hv] at WI1
      clear hv hwi
      have hw2 := within_le (n := at_) (lo := 0) (hi := 5) (by omega)
      have WI2 := Lib.hid (fun w => within_any (n := at_) (lo := 0) (hi := 5) (w := w) (by omega) (by omega) (by omega))
      generalize withinOf at_ 0 5 = v at *
      have f2 := OQU.out.frozen 2
      have OQX := Lib.hid (OQU.out.put 2 (.int .i64 (1 + v)))
      have OPX := Lib.hid (OPU.out.keep (Below.heap_setCell U ⟨W.heap.size + 1, 2, none⟩ (.int .i64 (1 + v)) W.heap.size (by show W.heap.size ≠ W.heap.size + 1; omega)))
      have GX := Lib.hid (GU.out.setCell (p := ⟨W.heap.size + 1, 2, none⟩) (by show W.heap.size ≤ W.heap.size + 1; omega) (.int .i64 (1 + v)))
      have PIX := Lib.hid (PIU.out.keep (w' := U.setCell ⟨W.heap.size + 1, 2, none⟩ (.int .i64 (1 + v))) (R' := fun _ => True) ⟨by simp [World.setCell], fun b hb _ => Below.heap_setCell _ _ _ _ (by have h1 : w3.heap.size ≤ b := hb; have := LT3.out; show b ≠ W.heap.size + 1; omega)⟩ (fun _ _ _ => trivial))
      go_wp2_with (first
        | (go_at_call 8; (with_reducible refine (WI1.out _).mono ?_); rintro e w5 ⟨rfl, rfl⟩)
        | (go_at_call 8; (with_reducible refine (WI2.out _).mono ?_); rintro e w6 ⟨rfl, rfl⟩))
      go_meet
      exact MK.out _ (.mk p.id p.set (1 + v) p.tg p.rules p.kids p.ob) OPX.out OQX.out ⟨⟨HID.out.1, by show InI (1 + v); unfold InI; omega⟩, PIX.out.2⟩ GX.out
    · rw [hv] at WI1
      clear hv hwi
      rcases Nat.eq_zero_or_pos n2 with e2 | hpos
      · have h0 : ¬ (0 : Int) < (n2 : Int) := by omega
        clear e2
        go_wp2_with (go_at_call 8; (with_reducible refine (WI1.out _).mono ?_); rintro e w5 ⟨rfl, rfl⟩)
        go_meet
        exact MK.out _ p OPU.out OQU.out (PIU.out.keep (Kept.refl _ _) (fun _ _ _ => trivial)) GU.out
      · have h0 : (0 : Int) < (n2 : Int) := by omega
        have hw2 := within_le (n := at_) (lo := 0) (hi := (n2 : Int) - 1) (by omega)
        have WI2 := Lib.hid (fun w => within_any (n := at_) (lo := 0) (hi := (n2 : Int) - 1) (w := w) (by omega) (by omega) (by have := HN3.out.1; omega))
        obtain ⟨j, hj⟩ : ∃ j : Nat, withinOf at_ 0 ((n2 : Int) - 1) = (j : Int) := ⟨(withinOf at_ 0 ((n2 : Int) - 1)).toNat, by omega⟩
        rw [hj] at WI2 hw2
        have hjn : j < n2 := by omega
        clear hj hw2
        have CV := CU.out.only ((Only.refl : Only (W.heap.size + 1) U U).drewN 1) LT3.out
        have PV : Ob (U.drewN 1) W.heap.size 28 #[.string p.id, .bool p.set, .int .i64 p.alg, .slice A1 n1 k1, .slice A2 n2 k2, .slice A3 n3 k3, .slice A4 n4 k4] := OPU.out
        have QV : Ob (U.drewN 1) (W.heap.size + 1) 28 #[.string p.id, .bool p.set, .int .i64 p.alg, .slice B1 n1 d1, .slice B2 n2 d2, .slice B3 n3 d3, .slice B4 n4 d4] := OQU.out
        have BV := below_drewN GU.out 1
        have hcapB := Rw.le PIU.out.2.2.1
        go_wp2_with (first
          | (go_at_call 8; (with_reducible refine (WI1.out _).mono ?_); rintro e w5 ⟨rfl, rfl⟩)
          | (go_at_call 8; (with_reducible refine (WI2.out _).mono ?_); rintro e w6 ⟨rfl, rfl⟩))
        refine wp_region_held_tail (fun w' => w'.heap = (U.drewN 1).heap) 10 (by kernel_rfl) (by kernel_rfl) ?_
        intro G
        change HeadW _ _ _ _ _ _ _ _ _ _ (U.drewN 1)
        obtain ⟨g, r, rfl, hg1, hg2, hcl, hfz, hon, hin⟩ := CV.deny HID.out.1 HID.out.2 HN3.out.1 HN3.out.2 hjn
        have S0 : Hid ((U.drewN 1).heap = (U.drewN 1).heap) := rfl
        generalize U.drewN 1 = v0 at *
        have KO : Hid (∀ wz : World, wz.heap = v0.heap → wz.cell? ⟨W.heap.size + 1, 4, none⟩ = some (.slice (some ⟨g, 0, none⟩) n2 d2) ∧ wz.cell? ⟨g, j * 5 + 1, none⟩ = some (.bool r.deny)) := fun wz hz => ⟨(World.cell?_of_block (by rw [hz])).trans (QV.cell 4), (World.cell?_of_block (by rw [hz])).trans hcl⟩
        refine HeadW_take (i := 0) (v := ?_) G rfl (by kernel_rfl) (by kernel_rfl) (by kernel_rfl) (fun _ _ _ h => h) (Or.inl ⟨by rfl, ?_⟩) S0.out ?_
        rotate_left
        · intro wz hS
          go_simp
          try with_reducible rfl
        refine HeadW_take (i := 1) (v := ?_) G rfl (by kernel_rfl) (by kernel_rfl) (by kernel_rfl) (fun _ _ _ h => h) (Or.inl ⟨by rfl, ?_⟩) S0.out ?_
        rotate_left
        · intro wz hS
          obtain ⟨k1, k2⟩ := KO.out _ hS
          go_simp
          try with_reducible rfl
        refine HeadW_take (i := 2) (v := ?_) G rfl (by kernel_rfl) (by kernel_rfl) (by kernel_rfl) (fun _ _ _ h => h) (Or.inl ⟨by rfl, ?_⟩) S0.out ?_
        rotate_left
        · intro wz hS
          go_simp
          try with_reducible rfl
        refine HeadW_take (i := 3) (v := ?_) G rfl (by kernel_rfl) (by kernel_rfl) (by kernel_rfl) (fun _ _ _ h => h) (Or.inl ⟨by rfl, ?_⟩) S0.out ?_
        rotate_left
        · intro wz hS
          go_simp
          try with_reducible rfl
        refine HeadW_take (i := 4) (v := ?_) G rfl (by kernel_rfl) (by kernel_rfl) (by kernel_rfl) (fun _ _ _ h => h) (Or.inl ⟨by rfl, ?_⟩) S0.out ?_
        rotate_left
        · intro wz hS
          obtain ⟨k1, k2⟩ := KO.out _ hS
          go_simp
          try with_reducible rfl
        refine HeadW_take (i := 5) (v := ?_) G rfl (by kernel_rfl) (by kernel_rfl) (by kernel_rfl) (fun _ _ _ h => h) (Or.inl ⟨by rfl, ?_⟩) S0.out ?_
        rotate_left
        · intro wz hS
          go_simp
          try with_reducible rfl
        refine HeadW_take (i := 6) (v := ?_) G rfl (by kernel_rfl) (by kernel_rfl) (by kernel_rfl) (fun _ _ _ h => h) (Or.inl ⟨by rfl, ?_⟩) S0.out ?_
        rotate_left
        · intro wz hS
          go_simp
          try with_reducible rfl
        refine HeadW_take (i := 7) (v := ?_) G rfl (by kernel_rfl) (by kernel_rfl) (by kernel_rfl) (fun _ _ _ h => h) (Or.inl ⟨by rfl, ?_⟩) S0.out ?_
        rotate_left
        · intro wz hS
          go_simp
          try with_reducible rfl
        refine HeadW_take (i := 8) (v := ?_) G rfl (by kernel_rfl) (by kernel_rfl) (by kernel_rfl) (fun _ _ _ h => h) (Or.inl ⟨by rfl, ?_⟩) S0.out ?_
        rotate_left
        · intro wz hS
          obtain ⟨k1, k2⟩ := KO.out _ hS
          go_simp
          try with_reducible rfl
        refine HeadW_take (i := 9) (v := ?_) G rfl (by kernel_rfl) (by kernel_rfl) (by kernel_rfl) (fun _ _ _ h => h) (Or.inl ⟨by rfl, ?_⟩) S0.out ?_
        rotate_left
        · intro wz hS
          go_simp
          try with_reducible rfl
        intro _
        refine ⟨by kernel_rfl, ?_⟩
        simp only [List.drop_succ_cons, List.drop_zero]
        have OPX := Lib.hid (PV.keep (hon.heap PV.lt (by have := LT3.out; omega)))
        have OQX := Lib.hid (QV.keep (hon.heap QV.lt (by have := LT3.out; omega)))
        have GX := Lib.hid (BV.trans (hon.below (B := W.heap.size) BV.size (by have := G3.out.size; omega)))
        have PIX := Lib.hid (hin.keep (Kept.refl _ _) (R' := fun _ => True) (fun _ _ _ => trivial))
        go_wp2_with fail
        go_meet
        exact MK.out _ (.mk p.id p.set p.alg p.tg (p.rules.set j { r with deny := !r.deny }) p.kids p.ob) OPX.out OQX.out PIX.out GX.out
    · rw [hv] at WI1
      clear hv hwi
      rcases Nat.eq_zero_or_pos n4 with e4 | hpos
      · have h0 : ¬ (0 : Int) < (n4 : Int) := by omega
        clear e4
        go_wp2_with (go_at_call 8; (with_reducible refine (WI1.out _).mono ?_); rintro e w5 ⟨rfl, rfl⟩)
        go_meet
        exact MK.out _ p OPU.out OQU.out (PIU.out.keep (Kept.refl _ _) (fun _ _ _ => trivial)) GU.out
      · have h0 : (0 : Int) < (n4 : Int) := by omega
        have hb4 := HLB.out
        have hle4 := Rw.le PIU.out.2.2.2.2
        have hcp4 := Rw.cap PIU.out.2.2.2.2
        unfold maxLen at hcp4
        obtain ⟨t, rfl⟩ : ∃ t, n4 = t + 1 := ⟨n4 - 1, by omega⟩
        have f6 := OQU.out.frozen 6
        have OQX := Lib.hid (OQU.out.put 6 (.slice B4 t d4))
        have OPX := Lib.hid (OPU.out.keep (Below.heap_setCell U ⟨W.heap.size + 1, 6, none⟩ (.slice B4 t d4) W.heap.size (by show W.heap.size ≠ W.heap.size + 1; omega)))
        have GX := Lib.hid (GU.out.setCell (p := ⟨W.heap.size + 1, 6, none⟩) (by show W.heap.size ≤ W.heap.size + 1; omega) (.slice B4 t d4))
        have PIX := Lib.hid (PIU.out.keep (w' := U.setCell ⟨W.heap.size + 1, 6, none⟩ (.slice B4 t d4)) (R' := fun _ => True) ⟨by simp [World.setCell], fun b hb _ => Below.heap_setCell _ _ _ _ (by have h1 : w3.heap.size ≤ b := hb; have := LT3.out; show b ≠ W.heap.size + 1; omega)⟩ (fun _ _ _ => trivial))
        go_wp2_with (go_at_call 8; (with_reducible refine (WI1.out _).mono ?_); rintro e w5 ⟨rfl, rfl⟩)
        go_meet
        exact MK.out _ (.mk p.id p.set p.alg p.tg p.rules p.kids (p.ob.take t)) OPX.out OQX.out ⟨⟨HID.out.1, HID.out.2⟩, PIX.out.2.1, PIX.out.2.2.1, PIX.out.2.2.2.1, Rw.take PIX.out.2.2.2.2 (by omega)⟩ GX.out
  case rest =>
    obtain ⟨q', D1, m1, c1, D2, m2, c2, D3, m3, c3, D4, m4, c4, op, oq, pi, hb0⟩ := hcut
    have GX := Lib.hid hb0
    have OP := Lib.hid op
    have OQ := Lib.hid oq
    have PI := Lib.hid pi
    have x0 := op.cell 0
    have x1 := op.cell 1
    have x2 := op.cell 2
    have x3 := op.cell 3
    have x4 := op.cell 4
    have x5 := op.cell 5
    have x6 := op.cell 6
    have y0 := oq.cell 0
    have y1 := oq.cell 1
    have y2 := oq.cell 2
    have y3 := oq.cell 3
    have y4 := oq.cell 4
    have y5 := oq.cell 5
    have y6 := oq.cell 6
    have TX := Lib.hid (HT.out.then_ hb0)
    clear op oq pi hb0
    obtain ⟨eq, heq⟩ : ∃ eq, rightE q' = eq := ⟨_, rfl⟩
    have EQ := Lib.hid heq
    have HR2 := call_right heq PI.out _ (Below.refl _ _)
    have HR2 := Lib.hid HR2
    by_cases e0 : eq = 0
    rotate_left
    · have hne : (eq != 0) = true := by simpa using e0
      have HSE := Lib.hid (showP_wrong (p := q') (by rw [EQ.out]; exact e0))
      clear e0 heq
      go_wp2_with (first
        | (go_at_call 5; (with_reducible refine HR2.out.mono ?_); rintro e w5 ⟨rfl, hb⟩
           have G5 := Lib.hid (GX.out.trans (hb.mono GX.out.size))
           have OP5 := Lib.hid (Ob.below OP.out hb OP.out.lt)
           have OQ5 := Lib.hid (Ob.below OQ.out hb OQ.out.lt)
           have xx0 := OP5.out.cell 0
           have xx1 := OP5.out.cell 1
           have xx2 := OP5.out.cell 2
           have xx3 := OP5.out.cell 3
           have xx4 := OP5.out.cell 4
           have xx5 := OP5.out.cell 5
           have xx6 := OP5.out.cell 6
           have yy0 := OQ5.out.cell 0
           have yy1 := OQ5.out.cell 1
           have yy2 := OQ5.out.cell 2
           have yy3 := OQ5.out.cell 3
           have yy4 := OQ5.out.cell 4
           have yy5 := OQ5.out.cell 5
           have yy6 := OQ5.out.cell 6
           have PI5 := Lib.hid (PI.out.then_ hb)
           have T5 := Lib.hid (TX.out.then_ hb)
           have SH5 := show_pol PI5.out T5.out
           rw [HSE.out] at SH5
           have SH5 := Lib.hid SH5
           clear hb)
        | (go_at_call 9; (with_reducible refine SH5.out.mono ?_); rintro e w6 ⟨rfl, hb⟩
           have G6 := Lib.hid (G5.out.trans (hb.mono G5.out.size))
           have T6 := Lib.hid (T5.out.then_ hb)
           clear hb)
        | (go_at_call 6; refine (HRUN.out _ T6.out).mono ?_; rintro e w9 ⟨rfl, hb⟩; have G9 := Lib.hid (G6.out.trans (hb.mono G6.out.size)); clear hb))
      go_ret
      exact ⟨rfl, G9.out⟩
    subst e0
    clear heq
    go_wp2_with (first
      | (go_at_call 5; (with_reducible refine HR2.out.mono ?_); rintro e w5 ⟨rfl, hb⟩
         have G5 := Lib.hid (GX.out.trans (hb.mono GX.out.size))
         have OP5 := Lib.hid (Ob.below OP.out hb OP.out.lt)
         have OQ5 := Lib.hid (Ob.below OQ.out hb OQ.out.lt)
         have xx0 := OP5.out.cell 0
         have xx1 := OP5.out.cell 1
         have xx2 := OP5.out.cell 2
         have xx3 := OP5.out.cell 3
         have xx4 := OP5.out.cell 4
         have xx5 := OP5.out.cell 5
         have xx6 := OP5.out.cell 6
         have yy0 := OQ5.out.cell 0
         have yy1 := OQ5.out.cell 1
         have yy2 := OQ5.out.cell 2
         have yy3 := OQ5.out.cell 3
         have yy4 := OQ5.out.cell 4
         have yy5 := OQ5.out.cell 5
         have yy6 := OQ5.out.cell 6
         have PI5 := Lib.hid (PI.out.then_ hb)
         have T5 := Lib.hid (TX.out.then_ hb)
         clear hb))
    have HSP : Hid (∀ d os, Calls Tryd.prog 9 #[.agg #[.string p.id, .bool p.set, .int .i64 p.alg, .slice A1 n1 k1, .slice A2 n2 k2, .slice A3 n3 k3, .slice A4 n4 k4]] (grow (redrawn w5 d) os) fun e w'' => e = .returned (.string ⟨(showP p).toArray⟩) ∧ ∃ p : Regrown, w'' = grow (redrawn w5 p.d) p.os) := fun d os => Calls.regrown_of (show_pol (HPI.out.then_ (G5.out.trans ((below_regrown w5 d os).mono G5.out.size))) (T5.out.then_ (below_regrown w5 d os)))
    have HSQ : Hid (∀ d os, Calls Tryd.prog 9 #[.agg #[.string q'.id, .bool q'.set, .int .i64 q'.alg, .slice D1 m1 c1, .slice D2 m2 c2, .slice D3 m3 c3, .slice D4 m4 c4]] (grow (redrawn w5 d) os) fun e w'' => e = .returned (.string ⟨(showP q').toArray⟩) ∧ ∃ p : Regrown, w'' = grow (redrawn w5 p.d) p.os) := fun d os => Calls.regrown_of (show_pol (PI5.out.then_ (below_regrown w5 d os)) (T5.out.then_ (below_regrown w5 d os)))
    have HRR : Hid (∀ d os, Calls Tryd.prog 6 #[] (grow (redrawn w5 d) os) fun e w'' => e = .returned (.bool true) ∧ ∃ p : Regrown, w'' = grow (redrawn w5 p.d) p.os) := fun d os => Calls.regrown_of (HRUN.out _ (T5.out.then_ (below_regrown w5 d os)))
    have HP5 := Lib.hid (HPI.out.then_ G5.out)
    obtain ⟨_, pt, pr, ⟨pm, pk⟩, po⟩ := HP5.out
    obtain ⟨_, qt, qr, ⟨qm, qk⟩, qo⟩ := PI5.out
    have gx0 := fun d os => cell_regrown xx0 d os
    have gy0 := fun d os => cell_regrown yy0 d os
    have gx1 := fun d os => cell_regrown xx1 d os
    have gy1 := fun d os => cell_regrown yy1 d os
    have gx2 := fun d os => cell_regrown xx2 d os
    have gy2 := fun d os => cell_regrown yy2 d os
    have gx3 := fun d os => cell_regrown xx3 d os
    have gy3 := fun d os => cell_regrown yy3 d os
    have gx4 := fun d os => cell_regrown xx4 d os
    have gy4 := fun d os => cell_regrown yy4 d os
    have gx5 := fun d os => cell_regrown xx5 d os
    have gy5 := fun d os => cell_regrown yy5 d os
    have gx6 := fun d os => cell_regrown xx6 d os
    have gy6 := fun d os => cell_regrown yy6 d os
    by_cases hpq : p = q'
    · subst hpq
      obtain rfl := Rw.same_len pt qt
      obtain rfl := Rw.same_len pr qr
      obtain rfl := Rw.same_len pk qk
      obtain rfl := Rw.same_len po qo
      have HPO : Hid (∀ d os, Calls Tryd.prog 10 #[.agg #[.string p.id, .bool p.set, .int .i64 p.alg, .slice A1 n1 k1, .slice A2 n2 k2, .slice A3 n3 k3, .slice A4 n4 k4], .agg #[.string p.id, .bool p.set, .int .i64 p.alg, .slice D1 n1 c1, .slice D2 n2 c2, .slice D3 n3 c3, .slice D4 n4 c4]] (grow (redrawn w5 d) os) fun e w'' => e = .returned (.bool true) ∧ ∃ p : Regrown, w'' = grow (redrawn w5 p.d) p.os) := fun d os => same_q (same_all pm) HID.out.1 ⟨pt, pr, pk, po⟩ ⟨qt, qr, qk, qo⟩ d os
      clear pt pr pk po qt qr qk qo
      generalize showP p = tp at *
      refine wp_region_quiet_below (by kernel_rfl) (by kernel_rfl) ?_
      repeat (go_big_quiet_step (first | (go_at_call 9; with_reducible exact HSP.out _ _) | (go_at_call 9; with_reducible exact HSQ.out _ _) | (go_at_call 10; exact HPO.out _ _) | (go_at_call 6; exact HRR.out _ _)))
      refine wpQuiet_nil ?_
      intro _ hw'
      obtain ⟨⟨dq, osq⟩, hw''⟩ := hw'
      subst hw''
      have BQ := Lib.hid (below_regrown w5 dq osq)
      clear gx0 gy0 gx1 gy1 gx2 gy2 gx3 gy3 gx4 gy4 gx5 gy5 gx6 gy6 HSP HSQ HPO HRR
      generalize grow (redrawn w5 dq) osq = w7 at *
      go_wp2_with fail
      go_ret
      exact ⟨rfl, G5.out.trans (BQ.out.mono G5.out.size)⟩
    · have hs : (showP p == showP q') = false := by
        rw [beq_eq_false_iff_ne]
        intro e
        refine hpq (show_same ER.out EQ.out (HPI.out.oks 4) (PI.out.oks 4) ?_)
        rw [← showP_right ER.out, ← showP_right EQ.out]
        exact e
      have HPO : Hid (∀ d os, Calls Tryd.prog 10 #[.agg #[.string p.id, .bool p.set, .int .i64 p.alg, .slice A1 n1 k1, .slice A2 n2 k2, .slice A3 n3 k3, .slice A4 n4 k4], .agg #[.string q'.id, .bool q'.set, .int .i64 q'.alg, .slice D1 m1 c1, .slice D2 m2 c2, .slice D3 m3 c3, .slice D4 m4 c4]] (grow (redrawn w5 d) os) fun e w'' => e = .returned (.bool false) ∧ ∃ p : Regrown, w'' = grow (redrawn w5 p.d) p.os) := fun d os => diff_q (diff_all pm) HID.out.1 ⟨pt, pr, pk, po⟩ ⟨qt, qr, qk, qo⟩ hpq d os
      clear pt pr pk po qt qr qk qo hpq
      generalize showP p = tp at *
      generalize showP q' = tq at *
      refine wp_region_quiet_below (by kernel_rfl) (by kernel_rfl) ?_
      repeat (go_big_quiet_step (first | (go_at_call 9; with_reducible exact HSP.out _ _) | (go_at_call 9; with_reducible exact HSQ.out _ _) | (go_at_call 10; exact HPO.out _ _) | (go_at_call 6; exact HRR.out _ _)))
      refine wpQuiet_nil ?_
      intro _ hw'
      obtain ⟨⟨dq, osq⟩, hw''⟩ := hw'
      subst hw''
      have BQ := Lib.hid (below_regrown w5 dq osq)
      clear gx0 gy0 gx1 gy1 gx2 gy2 gx3 gy3 gx4 gy4 gx5 gy5 gx6 gy6 HSP HSQ HPO HRR
      generalize grow (redrawn w5 dq) osq = w7 at *
      go_wp2_with fail
      go_ret
      exact ⟨rfl, G5.out.trans (BQ.out.mono G5.out.size)⟩
end Go.Proofs.YtincnopaclmppaaDoor
