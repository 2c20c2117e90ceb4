/- PolicyCounts: the walk. -/
import Derived.Test.YtacfmabflmjalaaOpenPol
import Derived.Test.YtacfmabflmjalaaKeepIs
import Derived.Test.YtacfmabflmjalaaPolRuns
import Derived.Test.YtacfmabflmjalaaPolCountsM
namespace Go.Proofs.Ytacfmabflmjalaa
set_option linter.unusedVariables false
open Go.RowKit

section
variable {w : World} {R : Nat → Prop} {p : Pol} {A1 A2 A3 A4 : Option Addr} {n1 k1 n2 k2 n3 k3 n4 k4 : Nat}
theorem call_right {r : Int} (hr : rightE p = r) (h : PolIn w R p A1 n1 k1 A2 n2 k2 A3 n3 k3 A4 n4 k4) (V : World) (hV : Below w.heap.size w V) :
    Calls Try.prog 12 #[.agg #[.string p.id, .bool p.set, .int .i64 p.alg, .slice A1 n1 k1, .slice A2 n2 k2, .slice A3 n3 k3, .slice A4 n4 k4]] V fun e w' => e = .returned (.int .i64 r) ∧ Below V.heap.size V w' := by
  have := right_pol (h.then_ hV)
  rwa [hr] at this
theorem call_rules (hr : rightE p = 0) (h : PolIn w R p A1 n1 k1 A2 n2 k2 A3 n3 k3 A4 n4 k4) (V : World) (hV : Below w.heap.size w V) :
    Calls Try.prog 24 #[.agg #[.string p.id, .bool p.set, .int .i64 p.alg, .slice A1 n1 k1, .slice A2 n2 k2, .slice A3 n3 k3, .slice A4 n4 k4]] V fun e w' => e = .returned (.int .i64 (rulesN p : Int)) ∧ Below V.heap.size V w' := by
  have := rules_pol (h.then_ hV)
  rwa [if_pos hr] at this
/-- Is it small? Whatever it is, it is so of the policy alone, and then its rows are short. -/
theorem call_small (h : PolIn w R p A1 n1 k1 A2 n2 k2 A3 n3 k3 A4 n4 k4) : ∃ d, (∃ m, d = m + 1 ∧ Pls w R m A3 n3 k3 p.kids) ∧ ∀ V, Below w.heap.size w V →
    Calls Try.prog 13 #[.agg #[.string p.id, .bool p.set, .int .i64 p.alg, .slice A1 n1 k1, .slice A2 n2 k2, .slice A3 n3 k3, .slice A4 n4 k4]] V fun e w' => e = .returned (.bool (decide (polC d p ≤ 3000))) ∧ Below V.heap.size V w' := by
  obtain ⟨h0, h1, h2, ⟨m, h3⟩, h4⟩ := h
  refine ⟨m + 1, ⟨m, rfl, h3⟩, fun V hV => ?_⟩
  have hk := Kept.all hV R
  exact small_pol h0.1 (h1.keep hk (fun _ h _ => h)) (h2.keep hk (fun _ h _ => h)) (h3.keep hk (fun _ h _ => h)) (h4.keep hk (fun _ h _ => h))
end
theorem sum_part {α : Type} {f : α → Nat} {l : List α} (k : Nat) : sumC f (l.take k) ≤ sumC f l := by
  have := sumC_app f (l.take k) (l.drop k)
  rw [List.take_append_drop] at this
  omega

set_option maxRecDepth 100000 in
set_option maxHeartbeats 6400000 in
theorem policyCounts_walk (W : World) (p : Pol) {A1 : Option Addr} {n1 k1 : Nat} {A2 : Option Addr} {n2 k2 : Nat} {A3 : Option Addr} {n3 k3 : Nat} {A4 : Option Addr} {n4 k4 : Nat} (h : PolIn W (fun _ => True) p A1 n1 k1 A2 n2 k2 A3 n3 k3 A4 n4 k4) :
    Calls Try.prog 5 #[.agg #[.string p.id, .bool p.set, .int .i64 p.alg, .slice A1 n1 k1, .slice A2 n2 k2, .slice A3 n3 k3, .slice A4 n4 k4]] W fun e w' => e = .returned (.bool true) ∧ Below W.heap.size W w' := by
  obtain ⟨d, _, hsm⟩ := call_small h
  have HS := Lib.hid hsm
  have H := Lib.hid h
  have HR := Lib.hid pruns_any
  have XA : Hid (Ob (W.alloc (.cells #[.string p.id, .bool p.set, .int .i64 p.alg, .slice A1 n1 k1, .slice A2 n2 k2, .slice A3 n3 k3, .slice A4 n4 k4] 34)) W.heap.size 34 #[.string p.id, .bool p.set, .int .i64 p.alg, .slice A1 n1 k1, .slice A2 n2 k2, .slice A3 n3 k3, .slice A4 n4 k4]) := Ob.made _ _ _
  have D0 : Hid (Below W.heap.size W (W.alloc (.cells #[.string p.id, .bool p.set, .int .i64 p.alg, .slice A1 n1 k1, .slice A2 n2 k2, .slice A3 n3 k3, .slice A4 n4 k4] 34))) := (Below.refl _ _).alloc (Nat.le_refl _) _
  obtain ⟨hid, ht, hr2, ⟨m, hk3⟩, ho⟩ := h
  have le2 := Rw.le hr2
  have cap2 := Rw.cap hr2
  have le3 := Rw.le hk3
  have cap3 := Rw.cap hk3
  have LL : Hid (p.rules.length = n2 ∧ p.kids.length = n3) := ⟨Rw.len hr2, Rw.len hk3⟩
  have HK := Lib.hid hk3
  unfold maxLen at cap2 cap3
  clear hsm ht hr2 hk3 ho hid
  generalize hsb : decide (polC d p ≤ 3000) = sb at *
  clear hsb
  cases sb
  · go_enter Try.func5, Try.ntmps5
    go_wp2_with (first
      | (go_at_call 13; (with_reducible refine (HS.out _ D0.out).mono ?_); rintro e u1 ⟨rfl, hb⟩; have G1 := Lib.hid (below_step D0.out hb); clear hb)
      | (go_at_call 3; refine (HR.out _).mono ?_; rintro e u9 ⟨rfl, hb⟩; have G9 := Lib.hid (below_step G1.out hb); clear hb))
    go_ret
    exact ⟨rfl, G9.out⟩
  by_cases e0 : rightE p = 0
  · have CR := Lib.hid (call_right e0 H.out)
    have CN := Lib.hid (call_rules e0 H.out)
    obtain ⟨q1, q2, q3, q4, q5⟩ := right_all e0
    have Q1 := Lib.hid q1
    have Q2 := Lib.hid q2
    have Q3 := Lib.hid q3
    clear e0 q1 q2
    go_enter Try.func5, Try.ntmps5
    go_wp2_with (first
      | (go_at_call 13; (with_reducible refine (HS.out _ D0.out).mono ?_); rintro e u1 ⟨rfl, hb⟩; have G1 := Lib.hid (below_step D0.out hb); have X1 := Lib.hid (XA.out.below hb XA.out.lt); have y0 := X1.out.cell 0; have y1 := X1.out.cell 1; have y2 := X1.out.cell 2; have y3 := X1.out.cell 3; have y4 := X1.out.cell 4; have y5 := X1.out.cell 5; have y6 := X1.out.cell 6; clear hb)
      | (go_at_call 12; (with_reducible refine (CR.out _ G1.out).mono ?_); rintro e u2 ⟨rfl, hb⟩; have G2 := Lib.hid (below_step G1.out hb); have X2 := Lib.hid (X1.out.below hb X1.out.lt); clear y0 y1 y2 y3 y4 y5 y6; have z4 := X2.out.cell 4; have z5 := X2.out.cell 5; clear hb))
    go_loopw [3, 21] (fun v i wr => ∃ k : Nat, k ≤ n3 ∧ i = .int .i64 k ∧ v = .int .i64 ((n2 + sumC rulesN (p.kids.take k) : Nat) : Int) ∧ Below u2.heap.size u2 wr) (fun _ i _ => n3 - (intOf i).toNat)
    case atStart => exact ⟨0, Nat.zero_le _, rfl, by rw [sumC_zero]; rfl, Below.refl _ _⟩
    case round =>
      obtain ⟨k, hk, rfl, rfl, hb⟩ := hrel
      have HB := Lib.hid hb
      clear hb z4 z5
      obtain ⟨N, hN⟩ : ∃ N, N = n2 + sumC rulesN (p.kids.take k) := ⟨_, rfl⟩
      have hN64 : N ≤ 64 := by have := sum_part (f := rulesN) (l := p.kids) k; have := Q2.out; have := LL.out.1; omega
      have HN := Lib.hid hN
      rw [← hN]
      clear hN
      by_cases hlt : k < n3
      · obtain ⟨b, o, x, d', B1, j1, q1, B2, j2, q2, B3, j3, q3', B4, j4, q4', rfl, hRb, hbl, hx, hd, ⟨xid, xalg⟩, ⟨f0, f1, f2, f3, f4, f5, f6⟩, t1, t2, t3, t4⟩ := (HK.out.keep (Kept.all (below_step G2.out HB.out) _) (fun _ h _ => h)).at_ hlt
        have HX := Lib.hid hx
        have hxm := List.mem_of_getElem? hx
        have hin : PolIn wr (fun _ => True) x B1 j1 q1 B2 j2 q2 B3 j3 q3' B4 j4 q4' := ⟨⟨xid, xalg⟩, t1, t2, ⟨d', t3⟩, t4⟩
        have KR := Lib.hid (call_right (Q1.out x hxm) hin)
        have KN := Lib.hid (call_rules (Q1.out x hxm) hin)
        have HSX := Lib.hid (sumC_le (f := rulesN) hx)
        have hsx64 : N + rulesN x ≤ 64 := by have := HSX.out; have := Q2.out; have := LL.out.1; have := HN.out; omega
        have KB : Hid (Below wr.heap.size wr (wr.alloc (.cells #[.string x.id, .bool x.set, .int .i64 x.alg, .slice B1 j1 q1, .slice B2 j2 q2, .slice B3 j3 q3', .slice B4 j4 q4'] 34))) := (Below.refl _ _).alloc (Nat.le_refl _) _
        have XK : Hid (Ob (wr.alloc (.cells #[.string x.id, .bool x.set, .int .i64 x.alg, .slice B1 j1 q1, .slice B2 j2 q2, .slice B3 j3 q3', .slice B4 j4 q4'] 34)) wr.heap.size 34 #[.string x.id, .bool x.set, .int .i64 x.alg, .slice B1 j1 q1, .slice B2 j2 q2, .slice B3 j3 q3', .slice B4 j4 q4']) := Ob.made _ _ _
        clear hx hxm hin xid xalg t1 t2 t3 t4
        generalize hrx : rulesN x = rx at *
        have HRX := Lib.hid hrx
        clear hrx
        go_wp2_with (first
          | (go_at_call 12; (with_reducible refine (KR.out _ KB.out).mono ?_); rintro e u3 ⟨rfl, hb⟩; have G3 := Lib.hid (below_step KB.out hb); have X3 := Lib.hid (XK.out.below hb XK.out.lt); have y0 := X3.out.cell 0; have y1 := X3.out.cell 1; have y2 := X3.out.cell 2; have y3 := X3.out.cell 3; have y4 := X3.out.cell 4; have y5 := X3.out.cell 5; have y6 := X3.out.cell 6; clear hb)
          | (go_at_call 24; (with_reducible refine (KN.out _ G3.out).mono ?_); rintro e u4 ⟨rfl, hb⟩; have G4 := Lib.hid (below_step G3.out hb); clear hb))
        go_roundw
        case rel => exact ⟨k + 1, by omega, by go_num, by rw [sumC_take HX.out, HRX.out, ← Nat.add_assoc, ← HN.out]; rfl, below_step HB.out G4.out⟩
        case measure => simp [intOf]; omega
      · obtain rfl : k = n3 := by omega
        have hfin : rulesN p = N := by have := HN.out; rw [sumC_all LL.out.2] at this; have := Q2.out; have := LL.out.1; omega
        rw [hfin] at CN
        have X5 := Lib.hid (X2.out.below HB.out X2.out.lt)
        have y0 := X5.out.cell 0
        have y1 := X5.out.cell 1
        have y2 := X5.out.cell 2
        have y3 := X5.out.cell 3
        have y4 := X5.out.cell 4
        have y5 := X5.out.cell 5
        have y6 := X5.out.cell 6
        have G5 := Lib.hid (below_step G2.out HB.out)
        clear hfin
        go_wp2_with (first
          | (go_at_call 24; (with_reducible refine (CN.out _ G5.out).mono ?_); rintro e u6 ⟨rfl, hb⟩; have G6 := Lib.hid (below_step G5.out hb); clear hb)
          | (go_at_call 3; refine (HR.out _).mono ?_; rintro e u9 ⟨rfl, hb⟩; have G9 := Lib.hid (below_step G6.out hb); clear hb))
        go_ret
        exact ⟨rfl, G9.out⟩
  · obtain ⟨r, hr⟩ : ∃ r, r = rightE p := ⟨_, rfl⟩
    have CR := Lib.hid (call_right hr.symm H.out)
    rw [← hr] at e0
    have hne : (r != 0) = true := by simpa using e0
    clear e0 hr
    go_enter Try.func5, Try.ntmps5
    go_wp2_with (first
      | (go_at_call 13; (with_reducible refine (HS.out _ D0.out).mono ?_); rintro e u1 ⟨rfl, hb⟩; have G1 := Lib.hid (below_step D0.out hb); have X1 := Lib.hid (XA.out.below hb XA.out.lt); have y0 := X1.out.cell 0; have y1 := X1.out.cell 1; have y2 := X1.out.cell 2; have y3 := X1.out.cell 3; have y4 := X1.out.cell 4; have y5 := X1.out.cell 5; have y6 := X1.out.cell 6; clear hb)
      | (go_at_call 12; (with_reducible refine (CR.out _ G1.out).mono ?_); rintro e u2 ⟨rfl, hb⟩; have G2 := Lib.hid (below_step G1.out hb); clear hb)
      | (go_at_call 3; refine (HR.out _).mono ?_; rintro e u9 ⟨rfl, hb⟩; have G9 := Lib.hid (below_step G2.out hb); clear hb))
    go_ret
    exact ⟨rfl, G9.out⟩
end Go.Proofs.Ytacfmabflmjalaa
