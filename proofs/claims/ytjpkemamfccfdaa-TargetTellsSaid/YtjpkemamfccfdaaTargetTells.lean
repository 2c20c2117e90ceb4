/- TargetTells: the walk. -/
import Derived.Test.YtjpkemamfccfdaaTgtC
import Derived.Test.YtjpkemamfccfdaaTgtB
namespace Go.Proofs.Ytjpkemamfccfdaa
set_option linter.unusedVariables false
open Go.RowKit Go.Sort

/-- The first AllOf of the first AnyOf. -/
def firstT (t : Tgt) : List Mat := ((t[0]?.getD [])[0]?).getD []
theorem rtmatch_is {w : World} {R : Nat → Prop} {A : Option Addr} {n c : Nat} {l : List Giv} {r : Int} (m : Mat) (hr : matchI l m = r) (hm : m.v.s.size ≤ maxLen) (h : Gvs w R A n c l) (hs : ShortG l) :
    Calls Try.prog 16 #[m.val, .slice A n c] w fun e w' => e = .returned (.int .i64 r) ∧ Below w.heap.size w w' := by
  have := rtmatch_any m hm h hs
  rwa [hr] at this
theorem rtarget_is {w : World} {R R1 : Nat → Prop} {A A1 : Option Addr} {n c n1 c1 : Nat} {l : List Giv} {ms : Tgt} {r : Int} (hr : metI l ms = r) (h1 : Tg w R1 A1 n1 c1 ms) (h : Gvs w R A n c l) (hs : ShortG l) :
    Calls Try.prog 18 #[.slice A1 n1 c1, .slice A n c] w fun e w' => e = .returned (.int .i64 r) ∧ Below w.heap.size w w' := by
  have := rtarget_any h1 h hs
  rwa [hr] at this
theorem grown7 {w : World} {g : Nat} {t : TypeId} {a b c d e f h : Value} (H : Ob w g t #[a, b, c, d, e, f, h]) :
    (∀ x os, (grow (redrawn w x) os).cell? ⟨g, 0, none⟩ = some a) ∧ (∀ x os, (grow (redrawn w x) os).cell? ⟨g, 1, none⟩ = some b) ∧ (∀ x os, (grow (redrawn w x) os).cell? ⟨g, 2, none⟩ = some c) ∧ (∀ x os, (grow (redrawn w x) os).cell? ⟨g, 3, none⟩ = some d) ∧
    (∀ x os, (grow (redrawn w x) os).cell? ⟨g, 4, none⟩ = some e) ∧ (∀ x os, (grow (redrawn w x) os).cell? ⟨g, 5, none⟩ = some f) ∧ (∀ x os, (grow (redrawn w x) os).cell? ⟨g, 6, none⟩ = some h) :=
  ⟨fun x os => cell_regrown (H.cell 0) x os, fun x os => cell_regrown (H.cell 1) x os, fun x os => cell_regrown (H.cell 2) x os, fun x os => cell_regrown (H.cell 3) x os, fun x os => cell_regrown (H.cell 4) x os, fun x os => cell_regrown (H.cell 5) x os, fun x os => cell_regrown (H.cell 6) x os⟩

set_option maxRecDepth 100000 in
set_option maxHeartbeats 6400000 in
theorem targetTells_walk (W : World) (A0 : Option Addr) (n0 c0 : Nat) (h0 : ∃ l, Tg W (fun _ => True) A0 n0 c0 l) (m : Mat) (hm : m.ok) (A2 : Option Addr) (n2 c2 : Nat) (h2 : ∃ l, Gvs W (fun _ => True) A2 n2 c2 l) :
    Calls Try.prog 4 #[.slice A0 n0 c0, m.val, .slice A2 n2 c2] W fun e w' => e = .returned (.bool true) ∧ Below W.heap.size W w' := by
  obtain ⟨t, h0⟩ := h0
  obtain ⟨ask, h2⟩ := h2
  have B0 : Hid (Below W.heap.size W (W.alloc (.cells m.cells.toArray 28))) := (Below.refl _ _).alloc (Nat.le_refl _) _
  have O0 : Hid (Ob (W.alloc (.cells m.cells.toArray 28)) W.heap.size 28 m.cells.toArray) := Ob.made _ _ _
  have hle := Rw.le h0
  have hcap := Rw.cap h0
  have HL := Lib.hid (Rw.len h0)
  unfold maxLen at hcap
  have T0 := Lib.hid (Tg.up' h0 B0.out)
  have G0 := Lib.hid (Gvs.up' h2 B0.out)
  have LIT := Lib.hid (fun V => tg_lit V m hm)
  have HML := Lib.hid hm.2.2.2.2
  have SM : Hid (∀ b, decide (tgS [[[m]]] ≤ 3000) = b → ∀ V : World, Calls Try.prog 14 #[.slice (some ⟨V.heap.size + 2, 0, none⟩) 1 1] (((V.alloc (.cells m.cells.toArray 28)).alloc (.cells #[.slice (some ⟨V.heap.size, 0, none⟩) 1 1] 36)).alloc (.cells #[.slice (some ⟨V.heap.size + 1, 0, none⟩) 1 1] 37)) fun e w' => e = .returned (.bool b) ∧ Below (((V.alloc (.cells m.cells.toArray 28)).alloc (.cells #[.slice (some ⟨V.heap.size, 0, none⟩) 1 1] 36)).alloc (.cells #[.slice (some ⟨V.heap.size + 1, 0, none⟩) 1 1] 37)).heap.size (((V.alloc (.cells m.cells.toArray 28)).alloc (.cells #[.slice (some ⟨V.heap.size, 0, none⟩) 1 1] 36)).alloc (.cells #[.slice (some ⟨V.heap.size + 1, 0, none⟩) 1 1] 37)) w') := fun b hb V => tgsmall_is hb (LIT.out V)
  have SMD : Hid (∃ b, decide (tgS [[[m]]] ≤ 3000) = b) := ⟨_, rfl⟩
  clear h0 h2 hm
  generalize tgS [[[m]]] = sm at *
  obtain ⟨⟨mc, mn, mu⟩, op, ⟨mk, mnn, ms⟩⟩ := m
  show Calls _ _ #[.slice A0 n0 c0, .agg #[.int .i64 mc, .string mn, .bool mu, .int .i64 op, .int .i64 mk, .int .i64 mnn, .string ms], .slice A2 n2 c2] W _
  have O0 : Hid (Ob (W.alloc (.cells #[.int .i64 mc, .string mn, .bool mu, .int .i64 op, .int .i64 mk, .int .i64 mnn, .string ms] 28)) W.heap.size 28 #[.int .i64 mc, .string mn, .bool mu, .int .i64 op, .int .i64 mk, .int .i64 mnn, .string ms]) := O0
  have B0 : Hid (Below W.heap.size W (W.alloc (.cells #[.int .i64 mc, .string mn, .bool mu, .int .i64 op, .int .i64 mk, .int .i64 mnn, .string ms] 28))) := B0
  have T0 : Hid (Tg (W.alloc (.cells #[.int .i64 mc, .string mn, .bool mu, .int .i64 op, .int .i64 mk, .int .i64 mnn, .string ms] 28)) (fun _ => True) A0 n0 c0 t) := T0
  have G0 : Hid (Gvs (W.alloc (.cells #[.int .i64 mc, .string mn, .bool mu, .int .i64 op, .int .i64 mk, .int .i64 mnn, .string ms] 28)) (fun _ => True) A2 n2 c2 ask) := G0
  go_enter Try.func4, Try.ntmps4
  go_upto_region 1 with fail
  generalize hw0 : W.alloc (.cells #[.int .i64 mc, .string mn, .bool mu, .int .i64 op, .int .i64 mk, .int .i64 mnn, .string ms] 28) = w0 at *
  clear hw0
  by_cases s0 : tgS t ≤ 3000
  rotate_left
  · have S0 := Lib.hid (fun V (hV : Below w0.heap.size w0 V) => tgsmall_is (decide_eq_false s0) (T0.out.up' hV))
    clear s0
    go_wp2_with (first
      | (go_at_call 14; (with_reducible refine (S0.out w0 (Below.refl _ _)).mono ?_); rintro e u1 ⟨rfl, hb⟩; have G1 := Lib.hid hb; obtain ⟨q0, q1, q2, q3, q4, q5, q6⟩ := (O0.out.below hb O0.out.lt).c7; clear hb)
      | (go_at_call 3; refine (tgruns_any _).mono ?_; rintro e u9 ⟨rfl, hb⟩; have G9 := Lib.hid (below_step G1.out hb); clear hb))
    go_ret
    exact ⟨rfl, below_step B0.out G9.out⟩
  have S0 := Lib.hid (fun V (hV : Below w0.heap.size w0 V) => tgsmall_is (decide_eq_true s0) (T0.out.up' hV))
  clear s0
  by_cases s1 : sm ≤ 3000
  rotate_left
  · have S1 := Lib.hid (SM.out false (decide_eq_false s1))
    dsimp only [Mat.cells] at S1
    clear s1
    go_wp2_with (first
      | (go_at_call 14; (with_reducible refine (S0.out w0 (Below.refl _ _)).mono ?_); rintro e u1 ⟨rfl, hb⟩; have G1 := Lib.hid hb; obtain ⟨q0, q1, q2, q3, q4, q5, q6⟩ := (O0.out.below hb O0.out.lt).c7; clear hb)
      | (go_at_call 14; (with_reducible refine (S1.out u1).mono ?_); rintro e u2 ⟨rfl, hb⟩; have G2 := Lib.hid (below_step G1.out (Below.lit (Below.lit (Below.lit hb)))); clear hb q0 q1 q2 q3 q4 q5 q6)
      | (go_at_call 3; refine (tgruns_any _).mono ?_; rintro e u9 ⟨rfl, hb⟩; have G9 := Lib.hid (below_step G2.out hb); clear hb))
    go_ret
    exact ⟨rfl, below_step B0.out G9.out⟩
  have S1 := Lib.hid (SM.out true (decide_eq_true s1))
  dsimp only [Mat.cells] at S1
  clear s1
  by_cases s2 : fewC ask ≤ 1200
  rotate_left
  · have F0 := Lib.hid (fun V (hV : Below w0.heap.size w0 V) => tgfew_is (decide_eq_false s2) (G0.out.up' hV))
    clear s2
    go_wp2_with (first
      | (go_at_call 14; (with_reducible refine (S0.out w0 (Below.refl _ _)).mono ?_); rintro e u1 ⟨rfl, hb⟩; have G1 := Lib.hid hb; obtain ⟨q0, q1, q2, q3, q4, q5, q6⟩ := (O0.out.below hb O0.out.lt).c7; clear hb)
      | (go_at_call 14; (with_reducible refine (S1.out u1).mono ?_); rintro e u2 ⟨rfl, hb⟩; have G2 := Lib.hid (below_step G1.out (Below.lit (Below.lit (Below.lit hb)))); clear hb q0 q1 q2 q3 q4 q5 q6)
      | (go_at_call 15; (with_reducible refine (F0.out _ G2.out).mono ?_); rintro e u3 ⟨rfl, hb⟩; have G3 := Lib.hid (below_step G2.out hb); clear hb)
      | (go_at_call 3; refine (tgruns_any _).mono ?_; rintro e u9 ⟨rfl, hb⟩; have G9 := Lib.hid (below_step G3.out hb); clear hb))
    go_ret
    exact ⟨rfl, below_step B0.out G9.out⟩
  have F0 := Lib.hid (fun V (hV : Below w0.heap.size w0 V) => tgfew_is (decide_eq_true s2) (G0.out.up' hV))
  have HS := Lib.hid (few_short s2)
  clear s2
  have HN := Lib.hid hle
  by_cases hn0 : n0 = 0
  · subst hn0
    have LF : Hid (firstT t = []) := by
      show firstT t = []
      rw [List.length_eq_zero_iff.1 HL.out]; rfl
    have M8 : Hid (∀ V, Below w0.heap.size w0 V → Ms V (fun _ => True) none 0 0 []) := fun V _ => Rw.nil_ _ _ _ _
    go_upto_region 7 with (first
      | (go_at_call 14; (with_reducible refine (S0.out w0 (Below.refl _ _)).mono ?_); rintro e u1 ⟨rfl, hb⟩; have G1 := Lib.hid hb; obtain ⟨q0, q1, q2, q3, q4, q5, q6⟩ := (O0.out.below hb O0.out.lt).c7; clear hb)
      | (go_at_call 14; (with_reducible refine (S1.out u1).mono ?_); rintro e u2 ⟨rfl, hb⟩; have G2 := Lib.hid (below_step G1.out (Below.lit (Below.lit (Below.lit hb)))); clear hb q0 q1 q2 q3 q4 q5 q6)
      | (go_at_call 15; (with_reducible refine (F0.out _ G2.out).mono ?_); rintro e u3 ⟨rfl, hb⟩; have G3 := Lib.hid (below_step G2.out hb); clear hb))
    have O3 := Lib.hid (O0.out.below G3.out O0.out.lt)
    have K3 : Hid (Below u3.heap.size u3 u3) := Below.refl _ _
    clear S0 S1 F0 G1 G2
    go_wp2
    go_loopw [7, 45] (fun x i wr => ∃ j : Nat, j ≤ 0 ∧ i = .int .i64 j ∧ x = .int .i64 (least (matchI ask) (([] : List Mat).take j)) ∧ Below u3.heap.size u3 wr) (fun _ i _ => 0 - (intOf i).toNat)
    case atStart => exact ⟨0, Nat.zero_le _, rfl, rfl, K3.out⟩
    case round =>
      obtain ⟨j, hj, rfl, rfl, hb⟩ := hrel
      have HB := Lib.hid hb
      have HB3 := Lib.hid (below_step G3.out hb)
      clear hb
      obtain rfl : j = 0 := by omega
      have HALL : Hid (least (matchI ask) (([] : List Mat).take 0) = allI ask (firstT t)) := by show _ = least (matchI ask) (firstT t); rw [LF.out]; rfl
      rw [HALL.out]
      clear HALL
      have OR := Lib.hid (O3.out.below HB.out O3.out.lt)
      have CA := Lib.hid (fun V (hV : Below w0.heap.size w0 V) => tgall_is (l := ask) (r := allI ask (firstT t)) (by rw [LF.out]) (M8.out V hV) (G0.out.up' hV) HS.out)
      have CM := Lib.hid (fun V (hV : Below w0.heap.size w0 V) => tgmet_any (T0.out.up' hV) (G0.out.up' hV) HS.out)
      have CR := Lib.hid (fun V (hV : Below w0.heap.size w0 V) => rtarget_any (T0.out.up' hV) (G0.out.up' hV) HS.out)
      have CX1 := Lib.hid (fun V (hV : Below w0.heap.size w0 V) => tgmatch_any (w := V) ⟨⟨mc, mn, mu⟩, op, ⟨mk, mnn, ms⟩⟩ HML.out (G0.out.up' hV) HS.out)
      have CX2 := Lib.hid (fun V (hV : Below w0.heap.size w0 V) => rtmatch_any (w := V) ⟨⟨mc, mn, mu⟩, op, ⟨mk, mnn, ms⟩⟩ HML.out (G0.out.up' hV) HS.out)
      generalize allI ask (firstT t) = ra at *
      generalize metI ask t = rm at *
      generalize matchI ask ⟨⟨mc, mn, mu⟩, op, ⟨mk, mnn, ms⟩⟩ = rx at *
      go_upto_region 12 with fail
      obtain ⟨q0, q1, q2, q3, q4, q5, q6⟩ := grown7 OR.out
      have Q1 := Lib.hid (fun d os => Calls.regrown_of (w := wr) (d := d) (os := os) (CX1.out _ (below_step HB3.out (below_regrown wr d os))))
      have Q2 := Lib.hid (fun d os => Calls.regrown_of (w := wr) (d := d) (os := os) (CX2.out _ (below_step HB3.out (below_regrown wr d os))))
      have QM := Lib.hid (fun d os => Calls.regrown_of (w := wr) (d := d) (os := os) (CM.out _ (below_step HB3.out (below_regrown wr d os))))
      have QR := Lib.hid (fun d os => Calls.regrown_of (w := wr) (d := d) (os := os) (CR.out _ (below_step HB3.out (below_regrown wr d os))))
      have QA := Lib.hid (fun d os => Calls.regrown_of (w := wr) (d := d) (os := os) (CA.out _ (below_step HB3.out (below_regrown wr d os))))
      have QU := Lib.hid (fun d os => Calls.regrown_of (w := wr) (d := d) (os := os) (tgruns_any _))
      unfold Mat.val at Q1 Q2
      refine wp_region_quiet_below (by kernel_rfl) (by kernel_rfl) ?_
      repeat (go_big_quiet_step (first | (go_at_call 12; with_reducible exact Q1.out _ _) | (go_at_call 16; with_reducible exact Q2.out _ _) | (go_at_call 17; with_reducible exact QM.out _ _) | (go_at_call 18; with_reducible exact QR.out _ _) | (go_at_call 19; with_reducible exact QA.out _ _) | (go_at_call 3; with_reducible exact QU.out _ _)))
      refine wpQuiet_nil ?_
      intro _ hw'
      obtain ⟨⟨dq, osq⟩, hw''⟩ := hw'
      subst hw''
      go_wp2_with fail
      go_ret
      exact ⟨rfl, below_step B0.out (below_step HB3.out (below_regrown wr dq osq))⟩
  have h0' : (0 : Int) < (n0 : Int) := by omega
  obtain ⟨b, o, x, A1, n1, c1, rfl, _, hbl, hx, x0, hA⟩ := T0.out.at_ (j := 0) (by omega)
  rw [Nat.add_zero] at x0
  have hX0 : t[0]?.getD [] = x := by rw [hx]; rfl
  have CX := Lib.hid (fun V (hV : Below w0.heap.size w0 V) => (World.cell?_of_block (hV.block _ hbl)).trans x0)
  have AX := Lib.hid (fun V (hV : Below w0.heap.size w0 V) => Als.up' hA hV)
  have HL1 := Lib.hid (Rw.len hA)
  have hle1 := Rw.le hA
  by_cases hn1 : n1 = 0
  · subst hn1
    have LF : Hid (firstT t = []) := by
      show (((t[0]?.getD [])[0]?).getD []) = []
      rw [hX0, List.length_eq_zero_iff.1 HL1.out]; rfl
    have M8 : Hid (∀ V, Below w0.heap.size w0 V → Ms V (fun _ => True) none 0 0 []) := fun V _ => Rw.nil_ _ _ _ _
    clear hx hX0 hA x0 hn0
    go_upto_region 7 with (first
      | (go_at_call 14; (with_reducible refine (S0.out w0 (Below.refl _ _)).mono ?_); rintro e u1 ⟨rfl, hb⟩; have G1 := Lib.hid hb; obtain ⟨q0, q1, q2, q3, q4, q5, q6⟩ := (O0.out.below hb O0.out.lt).c7; clear hb)
      | (go_at_call 14; (with_reducible refine (S1.out u1).mono ?_); rintro e u2 ⟨rfl, hb⟩; have G2 := Lib.hid (below_step G1.out (Below.lit (Below.lit (Below.lit hb)))); clear hb q0 q1 q2 q3 q4 q5 q6)
      | (go_at_call 15; (with_reducible refine (F0.out _ G2.out).mono ?_); rintro e u3 ⟨rfl, hb⟩; have G3 := Lib.hid (below_step G2.out hb); have cx := CX.out _ G3.out; clear hb))
    have O3 := Lib.hid (O0.out.below G3.out O0.out.lt)
    have K3 : Hid (Below u3.heap.size u3 u3) := Below.refl _ _
    clear S0 S1 F0 G1 G2
    go_wp2
    go_loopw [7, 45] (fun x i wr => ∃ j : Nat, j ≤ 0 ∧ i = .int .i64 j ∧ x = .int .i64 (least (matchI ask) (([] : List Mat).take j)) ∧ Below u3.heap.size u3 wr) (fun _ i _ => 0 - (intOf i).toNat)
    case atStart => exact ⟨0, Nat.zero_le _, rfl, rfl, K3.out⟩
    case round =>
      obtain ⟨j, hj, rfl, rfl, hb⟩ := hrel
      have HB := Lib.hid hb
      have HB3 := Lib.hid (below_step G3.out hb)
      clear hb
      obtain rfl : j = 0 := by omega
      have HALL : Hid (least (matchI ask) (([] : List Mat).take 0) = allI ask (firstT t)) := by show _ = least (matchI ask) (firstT t); rw [LF.out]; rfl
      rw [HALL.out]
      clear HALL
      have OR := Lib.hid (O3.out.below HB.out O3.out.lt)
      have CA := Lib.hid (fun V (hV : Below w0.heap.size w0 V) => tgall_is (l := ask) (r := allI ask (firstT t)) (by rw [LF.out]) (M8.out V hV) (G0.out.up' hV) HS.out)
      have CM := Lib.hid (fun V (hV : Below w0.heap.size w0 V) => tgmet_any (T0.out.up' hV) (G0.out.up' hV) HS.out)
      have CR := Lib.hid (fun V (hV : Below w0.heap.size w0 V) => rtarget_any (T0.out.up' hV) (G0.out.up' hV) HS.out)
      have CX1 := Lib.hid (fun V (hV : Below w0.heap.size w0 V) => tgmatch_any (w := V) ⟨⟨mc, mn, mu⟩, op, ⟨mk, mnn, ms⟩⟩ HML.out (G0.out.up' hV) HS.out)
      have CX2 := Lib.hid (fun V (hV : Below w0.heap.size w0 V) => rtmatch_any (w := V) ⟨⟨mc, mn, mu⟩, op, ⟨mk, mnn, ms⟩⟩ HML.out (G0.out.up' hV) HS.out)
      generalize allI ask (firstT t) = ra at *
      generalize metI ask t = rm at *
      generalize matchI ask ⟨⟨mc, mn, mu⟩, op, ⟨mk, mnn, ms⟩⟩ = rx at *
      go_upto_region 12 with fail
      obtain ⟨q0, q1, q2, q3, q4, q5, q6⟩ := grown7 OR.out
      have Q1 := Lib.hid (fun d os => Calls.regrown_of (w := wr) (d := d) (os := os) (CX1.out _ (below_step HB3.out (below_regrown wr d os))))
      have Q2 := Lib.hid (fun d os => Calls.regrown_of (w := wr) (d := d) (os := os) (CX2.out _ (below_step HB3.out (below_regrown wr d os))))
      have QM := Lib.hid (fun d os => Calls.regrown_of (w := wr) (d := d) (os := os) (CM.out _ (below_step HB3.out (below_regrown wr d os))))
      have QR := Lib.hid (fun d os => Calls.regrown_of (w := wr) (d := d) (os := os) (CR.out _ (below_step HB3.out (below_regrown wr d os))))
      have QA := Lib.hid (fun d os => Calls.regrown_of (w := wr) (d := d) (os := os) (CA.out _ (below_step HB3.out (below_regrown wr d os))))
      have QU := Lib.hid (fun d os => Calls.regrown_of (w := wr) (d := d) (os := os) (tgruns_any _))
      unfold Mat.val at Q1 Q2
      refine wp_region_quiet_below (by kernel_rfl) (by kernel_rfl) ?_
      repeat (go_big_quiet_step (first | (go_at_call 12; with_reducible exact Q1.out _ _) | (go_at_call 16; with_reducible exact Q2.out _ _) | (go_at_call 17; with_reducible exact QM.out _ _) | (go_at_call 18; with_reducible exact QR.out _ _) | (go_at_call 19; with_reducible exact QA.out _ _) | (go_at_call 3; with_reducible exact QU.out _ _)))
      refine wpQuiet_nil ?_
      intro _ hw'
      obtain ⟨⟨dq, osq⟩, hw''⟩ := hw'
      subst hw''
      go_wp2_with fail
      go_ret
      exact ⟨rfl, below_step B0.out (below_step HB3.out (below_regrown wr dq osq))⟩
  have h1' : (0 : Int) < (n1 : Int) := by omega
  have h1n : 0 < n1 := by omega
  have h1d : decide (0 < n1) = true := decide_eq_true h1n
  obtain ⟨b1, o1, y, A8, n8, c8, rfl, _, hbl1, hy, y0, hM⟩ := hA.at_ (j := 0) (by omega)
  rw [Nat.add_zero] at y0
  have LF : Hid (firstT t = y) := by
    show (((t[0]?.getD [])[0]?).getD []) = y
    rw [hX0, hy]; rfl
  have CY := Lib.hid (fun V (hV : Below w0.heap.size w0 V) => (World.cell?_of_block (hV.block _ hbl1)).trans y0)
  have M8 := Lib.hid (fun V (hV : Below w0.heap.size w0 V) => Ms.up' hM hV)
  have HL8 := Lib.hid (Rw.len hM)
  have hle8 := Rw.le hM
  have hcap8 := Rw.cap hM
  unfold maxLen at hcap8
  clear hx hX0 hA x0 hn0 hn1 hy hM y0
  go_upto_region 7 with (first
      | (go_at_call 14; (with_reducible refine (S0.out w0 (Below.refl _ _)).mono ?_); rintro e u1 ⟨rfl, hb⟩; have G1 := Lib.hid hb; obtain ⟨q0, q1, q2, q3, q4, q5, q6⟩ := (O0.out.below hb O0.out.lt).c7; clear hb)
      | (go_at_call 14; (with_reducible refine (S1.out u1).mono ?_); rintro e u2 ⟨rfl, hb⟩; have G2 := Lib.hid (below_step G1.out (Below.lit (Below.lit (Below.lit hb)))); clear hb q0 q1 q2 q3 q4 q5 q6)
      | (go_at_call 15; (with_reducible refine (F0.out _ G2.out).mono ?_); rintro e u3 ⟨rfl, hb⟩; have G3 := Lib.hid (below_step G2.out hb); have cx := CX.out _ G3.out; have cy := CY.out _ G3.out; clear hb))
  have O3 := Lib.hid (O0.out.below G3.out O0.out.lt)
  have K3 : Hid (Below u3.heap.size u3 u3) := Below.refl _ _
  clear S0 S1 F0 G1 G2
  go_wp2
  go_loopw [7, 45] (fun x i wr => ∃ j : Nat, j ≤ n8 ∧ i = .int .i64 j ∧ x = .int .i64 (least (matchI ask) (y.take j)) ∧ Below u3.heap.size u3 wr) (fun _ i _ => n8 - (intOf i).toNat)
  case atStart => exact ⟨0, Nat.zero_le _, rfl, rfl, K3.out⟩
  case round =>
    obtain ⟨j, hj, rfl, rfl, hb⟩ := hrel
    have HB := Lib.hid hb
    have HB3 := Lib.hid (below_step G3.out hb)
    clear hb
    by_cases hlt : j < n8
    · obtain ⟨b2, o2, m2, rfl, _, _, hm2, hok, c0', c1', c2', c3', c4', c5', c6'⟩ := (M8.out _ HB3.out).at_ hlt
      have HS2 := Lib.hid (least_step hm2 (tri_match ask m2).2)
      have HC := Lib.hid (fun W hW => rtmatch_any (w := W) m2 hok.2.2.2.2 (G0.out.up' hW) HS.out)
      obtain ⟨⟨xc, xn, xu⟩, xo, ⟨xk, xnn, xs⟩⟩ := m2
      simp only at c0' c1' c2' c3' c4' c5' c6'
      have HC2 : Hid (∀ V : World, Below w0.heap.size w0 V → Calls Try.prog 16 #[.agg #[.int .i64 xc, .string xn, .bool xu, .int .i64 xo, .int .i64 xk, .int .i64 xnn, .string xs], .slice A2 n2 c2] V fun e w' => e = .returned (.int .i64 (matchI ask ⟨⟨xc, xn, xu⟩, xo, ⟨xk, xnn, xs⟩⟩)) ∧ Below V.heap.size V w') := HC.out
      clear HC hm2 hok
      generalize matchI ask ⟨⟨xc, xn, xu⟩, xo, ⟨xk, xnn, xs⟩⟩ = y3 at *
      generalize hz : least (matchI ask) (y.take (j + 1)) = z3 at *
      generalize least (matchI ask) (y.take j) = a3 at *
      have HZ3 := Lib.hid hz
      clear hz
      go_wp2_with (go_at_call 16; refine (HC2.out _ (HB3.out.alloc HB3.out.size _)).mono ?_; rintro e w4 ⟨rfl, hb2⟩; have B2 := Lib.hid (below_step HB.out (Below.lit hb2)); clear hb2)
      go_roundw
      case rel => exact ⟨j + 1, by omega, by go_num, by rw [HZ3.out, HS2.out], B2.out⟩
      case measure => simp [intOf]; omega
    obtain rfl : j = n8 := by omega
    have HALL : Hid (least (matchI ask) (y.take j) = allI ask (firstT t)) := by show _ = least (matchI ask) (firstT t); rw [LF.out]; rw [List.take_of_length_le (by have := HL8.out; omega)]
    rw [HALL.out]
    clear HALL
    have OR := Lib.hid (O3.out.below HB.out O3.out.lt)
    have CA := Lib.hid (fun V (hV : Below w0.heap.size w0 V) => tgall_is (l := ask) (r := allI ask (firstT t)) (by rw [LF.out]) (M8.out V hV) (G0.out.up' hV) HS.out)
    have CM := Lib.hid (fun V (hV : Below w0.heap.size w0 V) => tgmet_any (T0.out.up' hV) (G0.out.up' hV) HS.out)
    have CR := Lib.hid (fun V (hV : Below w0.heap.size w0 V) => rtarget_any (T0.out.up' hV) (G0.out.up' hV) HS.out)
    have CX1 := Lib.hid (fun V (hV : Below w0.heap.size w0 V) => tgmatch_any (w := V) ⟨⟨mc, mn, mu⟩, op, ⟨mk, mnn, ms⟩⟩ HML.out (G0.out.up' hV) HS.out)
    have CX2 := Lib.hid (fun V (hV : Below w0.heap.size w0 V) => rtmatch_any (w := V) ⟨⟨mc, mn, mu⟩, op, ⟨mk, mnn, ms⟩⟩ HML.out (G0.out.up' hV) HS.out)
    generalize allI ask (firstT t) = ra at *
    generalize metI ask t = rm at *
    generalize matchI ask ⟨⟨mc, mn, mu⟩, op, ⟨mk, mnn, ms⟩⟩ = rx at *
    go_upto_region 12 with fail
    obtain ⟨q0, q1, q2, q3, q4, q5, q6⟩ := grown7 OR.out
    have Q1 := Lib.hid (fun d os => Calls.regrown_of (w := wr) (d := d) (os := os) (CX1.out _ (below_step HB3.out (below_regrown wr d os))))
    have Q2 := Lib.hid (fun d os => Calls.regrown_of (w := wr) (d := d) (os := os) (CX2.out _ (below_step HB3.out (below_regrown wr d os))))
    have QM := Lib.hid (fun d os => Calls.regrown_of (w := wr) (d := d) (os := os) (CM.out _ (below_step HB3.out (below_regrown wr d os))))
    have QR := Lib.hid (fun d os => Calls.regrown_of (w := wr) (d := d) (os := os) (CR.out _ (below_step HB3.out (below_regrown wr d os))))
    have QA := Lib.hid (fun d os => Calls.regrown_of (w := wr) (d := d) (os := os) (CA.out _ (below_step HB3.out (below_regrown wr d os))))
    have QU := Lib.hid (fun d os => Calls.regrown_of (w := wr) (d := d) (os := os) (tgruns_any _))
    unfold Mat.val at Q1 Q2
    refine wp_region_quiet_below (by kernel_rfl) (by kernel_rfl) ?_
    repeat (go_big_quiet_step (first | (go_at_call 12; with_reducible exact Q1.out _ _) | (go_at_call 16; with_reducible exact Q2.out _ _) | (go_at_call 17; with_reducible exact QM.out _ _) | (go_at_call 18; with_reducible exact QR.out _ _) | (go_at_call 19; with_reducible exact QA.out _ _) | (go_at_call 3; with_reducible exact QU.out _ _)))
    refine wpQuiet_nil ?_
    intro _ hw'
    obtain ⟨⟨dq, osq⟩, hw''⟩ := hw'
    subst hw''
    go_wp2_with fail
    go_ret
    exact ⟨rfl, below_step B0.out (below_step HB3.out (below_regrown wr dq osq))⟩
end Go.Proofs.Ytjpkemamfccfdaa
