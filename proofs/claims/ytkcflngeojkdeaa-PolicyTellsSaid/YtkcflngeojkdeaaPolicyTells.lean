/- PolicyTells: the walk. -/
import Derived.Test.YtkcflngeojkdeaaRRPol
import Derived.Test.YtkcflngeojkdeaaOpenPol
import Derived.Test.YtkcflngeojkdeaaPolOw
import Derived.Test.YtkcflngeojkdeaaKeepIs
import Derived.Test.YtkcflngeojkdeaaKeepCopy
import Derived.Test.YtkcflngeojkdeaaKeepSame
import Derived.Test.YtkcflngeojkdeaaPolRuns
import Derived.Test.YtkcflngeojkdeaaPolCalls
namespace Go.Proofs.Ytkcflngeojkdeaa
set_option linter.unusedVariables false
open Go.RowKit Go.Sort

theorem CopyTo.into {V V' : World} {m : Nat} {p : Pol} {B1 B2 B3 B4 : Option Addr} {n1 n2 n3 n4 d1 d2 d3 d4 : Nat} (h : CopyTo V V' m p B1 n1 d1 B2 n2 d2 B3 n3 d3 B4 n4 d4) (hid : p.id.size ≤ maxLen) (ha : InI p.alg) (hn2 : n2 ≤ 3000) (hn3 : n3 ≤ 3000) : PolIn V' (fun b => V.heap.size ≤ b) p B1 n1 d1 B2 n2 d2 B3 n3 d3 B4 n4 d4 := by
  obtain ⟨C1, e1, c1, C2, e2, c2, C3, e3, c3, C4, e4, c4, e, h0, h00, h1, h2, h3, h4⟩ := h.at_ hid ha hn2 hn3
  simp only [List.cons.injEq, Value.slice.injEq, and_true, true_and] at e
  obtain ⟨⟨rfl, rfl, rfl⟩, ⟨rfl, rfl, rfl⟩, ⟨rfl, rfl, rfl⟩, rfl, rfl, rfl⟩ := e
  exact ⟨⟨hid, ha⟩, h1, h2, ⟨m, h3⟩, h4⟩
theorem same_in {w : World} {R R' : Nat → Prop} {p : Pol} {A1 A2 A3 A4 B1 B2 B3 B4 : Option Addr} {n1 k1 n2 k2 n3 k3 n4 k4 d1 d2 d3 d4 : Nat} (h : PolIn w R p A1 n1 k1 A2 n2 k2 A3 n3 k3 A4 n4 k4) (h' : PolIn w R' p B1 n1 d1 B2 n2 d2 B3 n3 d3 B4 n4 d4) :
    Calls Try.prog 18 #[.agg #[.string p.id, .bool p.set, .int .i64 p.alg, .slice A1 n1 k1, .slice A2 n2 k2, .slice A3 n3 k3, .slice A4 n4 k4], .agg #[.string p.id, .bool p.set, .int .i64 p.alg, .slice B1 n1 d1, .slice B2 n2 d2, .slice B3 n3 d3, .slice B4 n4 d4]] w fun e w' => e = .returned (.bool true) ∧ Below w.heap.size w w' := by
  obtain ⟨⟨hid, _⟩, t, r, ⟨d, k⟩, o⟩ := h
  obtain ⟨_, t', r', ⟨m, k'⟩, o'⟩ := h'
  exact same_all d hid ⟨t, r, k, o⟩ ⟨t', r', k', o'⟩

set_option maxRecDepth 100000 in
set_option maxHeartbeats 25600000 in
theorem policyTells_walk (W : World) (p : Pol) {A1 : Option Addr} {n1 k1 : Nat} {A2 : Option Addr} {n2 k2 : Nat} {A3 : Option Addr} {n3 k3 : Nat} {A4 : Option Addr} {n4 k4 : Nat} (h : PolIn W (fun _ => True) p A1 n1 k1 A2 n2 k2 A3 n3 k3 A4 n4 k4)
    (a : Atr) (ha : a.ok) (A5 : Option Addr) (n5 k5 : Nat) (h5 : ∃ l, Nds W (fun _ => True) A5 n5 k5 l) (A6 : Option Addr) (n6 k6 : Nat) (h6 : ∃ l, Dus W (fun _ => True) A6 n6 k6 l) :
    Calls Try.prog 3 #[.agg #[.string p.id, .bool p.set, .int .i64 p.alg, .slice A1 n1 k1, .slice A2 n2 k2, .slice A3 n3 k3, .slice A4 n4 k4], .agg #[.int .i64 a.cat, .string a.name, .bool a.must], .slice A5 n5 k5, .slice A6 n6 k6] W fun e w' => e = .returned (.bool true) ∧ Below W.heap.size W w' := by
  obtain ⟨l5, h5⟩ := h5
  obtain ⟨l6, h6⟩ := h6
  obtain ⟨d, ⟨m, rfl, hkm⟩, hsm⟩ := call_small h
  have HS := Lib.hid hsm
  have H := Lib.hid h
  have HR := Lib.hid pruns_any
  have b5 := Rw.le h5
  have b6 := Rw.le h6
  have c5 := Rw.cap h5
  have c6 := Rw.cap h6
  unfold maxLen at c5 c6
  have x0 : (0 : Int) ≤ min (n5 : Int) 60 := by omega
  have x1 : (0 : Int) ≤ min (n6 : Int) 30 := by omega
  have y0 : min (n5 : Int) 60 ≤ (k5 : Int) := by omega
  have y1 : min (n6 : Int) 30 ≤ (k6 : Int) := by omega
  have hax : a.name.size ≤ 9223372036854775807 := by have := ha.2; unfold maxLen at this; omega
  have HA := Lib.hid ha
  have H5 := Lib.hid h5
  have H6 := Lib.hid h6
  obtain ⟨hid, ht, hr2, _, ho⟩ := h
  have HID := Lib.hid hid
  clear ha h5 h6
  have XP : Hid (Ob ((W.alloc (.cells #[.string p.id, .bool p.set, .int .i64 p.alg, .slice A1 n1 k1, .slice A2 n2 k2, .slice A3 n3 k3, .slice A4 n4 k4] 28)).alloc (.cells #[.int .i64 a.cat, .string a.name, .bool a.must] 30)) W.heap.size 28 #[.string p.id, .bool p.set, .int .i64 p.alg, .slice A1 n1 k1, .slice A2 n2 k2, .slice A3 n3 k3, .slice A4 n4 k4]) := (Ob.made W _ _).keep (Below.heap_alloc _ _ _ (by simp))
  have XT : Hid (Ob ((W.alloc (.cells #[.string p.id, .bool p.set, .int .i64 p.alg, .slice A1 n1 k1, .slice A2 n2 k2, .slice A3 n3 k3, .slice A4 n4 k4] 28)).alloc (.cells #[.int .i64 a.cat, .string a.name, .bool a.must] 30)) (W.heap.size + 1) 30 #[.int .i64 a.cat, .string a.name, .bool a.must]) := by
    have := Ob.made (W.alloc (.cells #[.string p.id, .bool p.set, .int .i64 p.alg, .slice A1 n1 k1, .slice A2 n2 k2, .slice A3 n3 k3, .slice A4 n4 k4] 28)) 30 #[.int .i64 a.cat, .string a.name, .bool a.must]
    rw [size_al] at this
    exact this
  have D0 : Hid (Below W.heap.size W ((W.alloc (.cells #[.string p.id, .bool p.set, .int .i64 p.alg, .slice A1 n1 k1, .slice A2 n2 k2, .slice A3 n3 k3, .slice A4 n4 k4] 28)).alloc (.cells #[.int .i64 a.cat, .string a.name, .bool a.must] 30))) := ((Below.refl _ _).alloc (Nat.le_refl _) _).alloc (by simp) _
  by_cases e00 : polC (m + 1) p ≤ 3000
  case neg =>
    rw [decide_eq_false e00] at HS
    clear hsm e00 ht hr2 hkm ho hid
    go_enter Try.func3, Try.ntmps3
    go_wp2_with (first
      | (go_at_call 5; (with_reducible refine (HS.out _ D0.out).mono ?_); rintro e u1 ⟨rfl, hb⟩; have G1 := Lib.hid (below_step D0.out hb); clear hb)
      | (go_at_call 6; refine (HR.out _).mono ?_; rintro e u9 ⟨rfl, hb⟩; have G9 := Lib.hid (below_step G1.out hb); clear hb))
    go_ret
    exact ⟨rfl, G9.out⟩
  rw [decide_eq_true e00] at HS
  have HCP : Hid (∀ V : World, Below W.heap.size W V → Calls Try.prog 7 #[.agg #[.string p.id, .bool p.set, .int .i64 p.alg, .slice A1 n1 k1, .slice A2 n2 k2, .slice A3 n3 k3, .slice A4 n4 k4]] V fun e w' => ∃ B1 d1 B2 d2 B3 d3 B4 d4, e = .returned (.agg #[.string p.id, .bool p.set, .int .i64 p.alg, .slice B1 n1 d1, .slice B2 n2 d2, .slice B3 n3 d3, .slice B4 n4 d4]) ∧ Below V.heap.size V w' ∧ CopyTo V w' m p B1 n1 d1 B2 n2 d2 B3 n3 d3 B4 n4 d4) :=
    fun V hV => cok_all m e00 hid.1 hid.2 (ht.keep (Kept.all hV _) (fun _ h _ => h)) (hr2.keep (Kept.all hV _) (fun _ h _ => h)) (hkm.keep (Kept.all hV _) (fun _ h _ => h)) (ho.keep (Kept.all hV _) (fun _ h _ => h))
  have HN3 : Hid (n2 ≤ 3000 ∧ n3 ≤ 3000) := ⟨by have := Rw.len hr2; unfold polC at e00; omega, by have := kids_len hkm; unfold polC at e00; omega⟩
  clear hsm ht hr2 hkm ho hid e00
  by_cases h100 : 100 < a.name.size
  · have z100 : (100 : Int) < (a.name.size : Int) := by omega
    go_enter Try.func3, Try.ntmps3
    go_wp2_with (first
      | (go_at_call 5; (with_reducible refine (HS.out _ D0.out).mono ?_); rintro e u1 ⟨rfl, hb⟩; have G1 := Lib.hid (below_step D0.out hb); have T1 := Lib.hid (XT.out.below hb XT.out.lt); have t0 := T1.out.cell 0; have t1 := T1.out.cell 1; have t2 := T1.out.cell 2; clear hb)
      | (go_at_call 6; refine (HR.out _).mono ?_; rintro e u9 ⟨rfl, hb⟩; have G9 := Lib.hid (below_step G1.out hb); clear hb))
    go_ret
    exact ⟨rfl, G9.out⟩
  have z100 : ¬ (100 : Int) < (a.name.size : Int) := by omega
  clear h100
  go_enter Try.func3, Try.ntmps3
  go_wp2_with (first
    | (go_at_call 5; (with_reducible refine (HS.out _ D0.out).mono ?_); rintro e u1 ⟨rfl, hb⟩; have G1 := Lib.hid (below_step D0.out hb); have P1 := Lib.hid (XP.out.below hb XP.out.lt); have T1 := Lib.hid (XT.out.below hb XT.out.lt); have t0 := T1.out.cell 0; have t1 := T1.out.cell 1; have t2 := T1.out.cell 2; clear hb))
  go_quiet (fail)
  clear t0 t1 t2
  have HLL : Hid (∀ e, e ≤ n5 → Nds (u1.drewN nq) (fun _ => True) A5 e k5 (l5.take e)) := fun e he => (H5.out.keep (Kept.all (below_drewN G1.out nq) _) (fun _ h _ => h)).take he
  have HOO : Hid (∀ e, e ≤ n6 → Dus (u1.drewN nq) (fun _ => True) A6 e k6 (l6.take e)) := fun e he => (H6.out.keep (Kept.all (below_drewN G1.out nq) _) (fun _ h _ => h)).take he
  have G2 : Hid (Below W.heap.size W (u1.drewN nq)) := below_drewN G1.out nq
  have P2 : Hid (Ob (u1.drewN nq) W.heap.size 28 #[.string p.id, .bool p.set, .int .i64 p.alg, .slice A1 n1 k1, .slice A2 n2 k2, .slice A3 n3 k3, .slice A4 n4 k4]) := P1.out.below (below_drewN (Below.refl _ _) nq) P1.out.lt
  have T2 : Hid (Ob (u1.drewN nq) (W.heap.size + 1) 30 #[.int .i64 a.cat, .string a.name, .bool a.must]) := T1.out.below (below_drewN (Below.refl _ _) nq) T1.out.lt
  clear x0 x1 y0 y1 H5 H6 G1 P1 T1
  generalize u1.drewN nq = u2 at *
  have q0 := P2.out.cell 0
  have q1 := P2.out.cell 1
  have q2 := P2.out.cell 2
  have q3 := P2.out.cell 3
  have q4 := P2.out.cell 4
  have q5 := P2.out.cell 5
  have q6 := P2.out.cell 6
  go_wp2_with (first
    | (go_at_call 7; (with_reducible refine (HCP.out _ G2.out).mono ?_); rintro e u3 ⟨B1, d1, B2, d2, B3, d3, B4, d4, rfl, hb, hct⟩; have B3' := Lib.hid hb; have CT := Lib.hid hct; clear hb hct))
  all_goals
    have K3 : Hid (Below u2.heap.size u2 (u3.alloc (.cells #[.string p.id, .bool p.set, .int .i64 p.alg, .slice B1 n1 d1, .slice B2 n2 d2, .slice B3 n3 d3, .slice B4 n4 d4] 28))) := B3'.out.alloc B3'.out.size _
    have hal : Below u3.heap.size u3 (u3.alloc (.cells #[.string p.id, .bool p.set, .int .i64 p.alg, .slice B1 n1 d1, .slice B2 n2 d2, .slice B3 n3 d3, .slice B4 n4 d4] 28)) := (Below.refl _ _).alloc (Nat.le_refl _) _
    have CI : Hid (PolIn (u3.alloc (.cells #[.string p.id, .bool p.set, .int .i64 p.alg, .slice B1 n1 d1, .slice B2 n2 d2, .slice B3 n3 d3, .slice B4 n4 d4] 28)) (fun b => u2.heap.size ≤ b) p B1 n1 d1 B2 n2 d2 B3 n3 d3 B4 n4 d4) := (CT.out.into HID.out.1 HID.out.2 HN3.out.1 HN3.out.2).then_ hal
    have OW := Lib.hid (Ob.made u3 28 #[.string p.id, .bool p.set, .int .i64 p.alg, .slice B1 n1 d1, .slice B2 n2 d2, .slice B3 n3 d3, .slice B4 n4 d4])
    have P3 := Lib.hid (P2.out.below K3.out P2.out.lt)
    have T3 := Lib.hid (T2.out.below K3.out T2.out.lt)
    have G3 := Lib.hid (below_step G2.out K3.out)
    have H3 := Lib.hid (H.out.then_ G3.out)
    have L3 := Lib.hid (fun e he => (HLL.out e he).keep (Kept.all K3.out _) (fun _ h _ => h))
    have O3 := Lib.hid (fun e he => (HOO.out e he).keep (Kept.all K3.out _) (fun _ h _ => h))
    clear q0 q1 q2 q3 q4 q5 q6 hal B3' CT K3 P2 T2 G2 HLL HOO HCP HN3 XP XT D0
    obtain ⟨u3s, hu3⟩ : ∃ x, x = u3.heap.size := ⟨_, rfl⟩
    rw [← hu3] at OW
    rw [← hu3]
    generalize u3.alloc (.cells #[.string p.id, .bool p.set, .int .i64 p.alg, .slice B1 n1 d1, .slice B2 n2 d2, .slice B3 n3 d3, .slice B4 n4 d4] 28) = w7 at *
    clear hu3
    have KG := Lib.hid (fun d os => below_regrown w7 d os)
    have C1 : Hid (∀ d os, Calls Try.prog 8 #[.agg #[.string p.id, .bool p.set, .int .i64 p.alg, .slice A1 n1 k1, .slice A2 n2 k2, .slice A3 n3 k3, .slice A4 n4 k4]] (grow (redrawn w7 d) os) fun e w'' => e = .returned (.int .i64 (rightE p)) ∧ ∃ p : Regrown, w'' = grow (redrawn w7 p.d) p.os) := fun d os => Calls.regrown_of (right_pol (H3.out.then_ (KG.out d os)))
    have C2 : Hid (∀ d os, Calls Try.prog 9 #[.agg #[.string p.id, .bool p.set, .int .i64 p.alg, .slice A1 n1 k1, .slice A2 n2 k2, .slice A3 n3 k3, .slice A4 n4 k4]] (grow (redrawn w7 d) os) fun e w'' => e = .returned (.int .i64 (rightE p)) ∧ ∃ p : Regrown, w'' = grow (redrawn w7 p.d) p.os) := fun d os => Calls.regrown_of (rpol_any (H3.out.then_ (KG.out d os)))
    have C3 : Hid (∀ d os, Calls Try.prog 10 #[.agg #[.int .i64 a.cat, .string a.name, .bool a.must]] (grow (redrawn w7 d) os) fun e w'' => e = .returned (.bool (attrB a)) ∧ ∃ p : Regrown, w'' = grow (redrawn w7 p.d) p.os) := fun d os => Calls.regrown_of (attr_any a HA.out _)
    have C4 : Hid (∀ d os, Calls Try.prog 11 #[.agg #[.int .i64 a.cat, .string a.name, .bool a.must]] (grow (redrawn w7 d) os) fun e w'' => e = .returned (.bool (attrB a)) ∧ ∃ p : Regrown, w'' = grow (redrawn w7 p.d) p.os) := fun d os => Calls.regrown_of (rattr_any a HA.out _)
    have C5 : Hid (∀ nn, nn ≤ n5 → ∀ d os, Calls Try.prog 12 #[.slice A5 nn k5] (grow (redrawn w7 d) os) fun e w'' => e = .returned (.int .i64 (exprE (l5.take nn))) ∧ ∃ p : Regrown, w'' = grow (redrawn w7 p.d) p.os) := fun nn he d os => Calls.regrown_of (expr_any _ ((L3.out nn he).keep (Kept.all (KG.out d os) _) (fun _ h _ => h)))
    have C6 : Hid (∀ nn, nn ≤ n5 → ∀ d os, Calls Try.prog 13 #[.slice A5 nn k5] (grow (redrawn w7 d) os) fun e w'' => e = .returned (.int .i64 (exprE (l5.take nn))) ∧ ∃ p : Regrown, w'' = grow (redrawn w7 p.d) p.os) := fun nn he d os => Calls.regrown_of (rexpr_any _ ((L3.out nn he).keep (Kept.all (KG.out d os) _) (fun _ h _ => h)))
    have C7 : Hid (∀ nn, nn ≤ n6 → ∀ d os, Calls Try.prog 14 #[.slice A6 nn k6] (grow (redrawn w7 d) os) fun e w'' => e = .returned (.int .i64 (obE (l6.take nn))) ∧ ∃ p : Regrown, w'' = grow (redrawn w7 p.d) p.os) := fun nn he d os => Calls.regrown_of (obls_any _ ((O3.out nn he).keep (Kept.all (KG.out d os) _) (fun _ h _ => h)))
    have C8 : Hid (∀ nn, nn ≤ n6 → ∀ d os, Calls Try.prog 15 #[.slice A6 nn k6] (grow (redrawn w7 d) os) fun e w'' => e = .returned (.int .i64 (obE (l6.take nn))) ∧ ∃ p : Regrown, w'' = grow (redrawn w7 p.d) p.os) := fun nn he d os => Calls.regrown_of (robl_any _ ((O3.out nn he).keep (Kept.all (KG.out d os) _) (fun _ h _ => h)))
    have C9 : Hid (∀ d os, Calls Try.prog 16 #[.slice A1 n1 k1] (grow (redrawn w7 d) os) fun e w'' => e = .returned (.int .i64 (tgE p.tg)) ∧ ∃ p : Regrown, w'' = grow (redrawn w7 p.d) p.os) := fun d os => Calls.regrown_of (target_any _ (H3.out.2.1.keep (Kept.all (KG.out d os) _) (fun _ h _ => h)))
    have C10 : Hid (∀ d os, Calls Try.prog 17 #[.slice A1 n1 k1] (grow (redrawn w7 d) os) fun e w'' => e = .returned (.int .i64 (tgE p.tg)) ∧ ∃ p : Regrown, w'' = grow (redrawn w7 p.d) p.os) := fun d os => Calls.regrown_of (rtgt_any _ (H3.out.2.1.keep (Kept.all (KG.out d os) _) (fun _ h _ => h)))
    have q0 := fun d os => cell_regrown (P3.out.cell 0) d os
    have q1 := fun d os => cell_regrown (P3.out.cell 1) d os
    have q2 := fun d os => cell_regrown (P3.out.cell 2) d os
    have q3 := fun d os => cell_regrown (P3.out.cell 3) d os
    have q4 := fun d os => cell_regrown (P3.out.cell 4) d os
    have q5 := fun d os => cell_regrown (P3.out.cell 5) d os
    have q6 := fun d os => cell_regrown (P3.out.cell 6) d os
    have t0 := fun d os => cell_regrown (T3.out.cell 0) d os
    have t1 := fun d os => cell_regrown (T3.out.cell 1) d os
    have t2 := fun d os => cell_regrown (T3.out.cell 2) d os
    generalize rightE p = r1 at *
    generalize attrB a = r2 at *
    generalize tgE p.tg = r5 at *
    refine wp_region_quiet_below (by kernel_rfl) (by kernel_rfl) ?_
    repeat (go_big_quiet_step ((first
      | (go_at_call 8; exact C1.out _ _)
      | (go_at_call 9; exact C2.out _ _)
      | (go_at_call 10; exact C3.out _ _)
      | (go_at_call 11; exact C4.out _ _)
      | (go_at_call 12; exact C5.out _ (by omega) _ _)
      | (go_at_call 13; exact C6.out _ (by omega) _ _)
      | (go_at_call 14; exact C7.out _ (by omega) _ _)
      | (go_at_call 15; exact C8.out _ (by omega) _ _)
      | (go_at_call 16; exact C9.out _ _)
      | (go_at_call 17; exact C10.out _ _))))
    refine wpQuiet_nil ?_
    intro _ hw'
    obtain ⟨⟨dq, osq⟩, hw''⟩ := hw'
    subst hw''
    clear q0 q1 q2 q3 q4 q5 q6 t0 t1 t2
    have hbel := below_regrown w7 dq osq
    have P4 := Lib.hid (P3.out.below hbel P3.out.lt)
    have OW4 := Lib.hid (OW.out.below hbel OW.out.lt)
    have G4 := Lib.hid (below_step G3.out hbel)
    have SM := Lib.hid (same_in (H3.out.then_ hbel) (CI.out.then_ hbel))
    clear hbel C1 C2 C3 C4 C5 C6 C7 C8 C9 C10 H3 CI P3 T3 OW G3 L3 O3 KG
    generalize grow (redrawn w7 dq) osq = w8 at *
    have q0 := P4.out.cell 0
    have q1 := P4.out.cell 1
    have q2 := P4.out.cell 2
    have q3 := P4.out.cell 3
    have q4 := P4.out.cell 4
    have q5 := P4.out.cell 5
    have q6 := P4.out.cell 6
    have s0 := OW4.out.cell 0
    have s1 := OW4.out.cell 1
    have s2 := OW4.out.cell 2
    have s3 := OW4.out.cell 3
    have s4 := OW4.out.cell 4
    have s5 := OW4.out.cell 5
    have s6 := OW4.out.cell 6
    go_wp2_with (first
      | (go_at_call 18; refine SM.out.mono ?_; rintro e u8 ⟨rfl, hb⟩; have G8 := Lib.hid (below_step G4.out hb); clear hb)
      | (go_at_call 6; refine (HR.out _).mono ?_; rintro e u9 ⟨rfl, hb⟩; have G9 := Lib.hid (below_step G8.out hb); clear hb))
    go_ret
    exact ⟨rfl, G9.out⟩
end Go.Proofs.Ytkcflngeojkdeaa
