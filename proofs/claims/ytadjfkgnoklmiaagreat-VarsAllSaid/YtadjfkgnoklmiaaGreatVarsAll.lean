/- The law VarsAll. -/
import Derived.Test.YtadjfkgnoklmiaaGreatVrsF
import Derived.Test.YtadjfkgnoklmiaaGreatVrsG
import Derived.Test.YtadjfkgnoklmiaaGreatVrsH
import Derived.Test.YtadjfkgnoklmiaaGreatVrsA
namespace Go.Proofs.YtadjfkgnoklmiaaGreat
set_option linter.unusedVariables false
open Go.RowKit Go.Sort
attribute [local go_sem] eq0 feq2 eq4 fgt0 gt2 ord_eq ord_gt ord_lt ev_store

theorem vask_q {w : World} {R R2 : Nat → Prop} {A A2 : Option Addr} {n c n2 c2 : Nat} {ask : List Giv} {a : Atm} (ha : Nds w R A n c a.c) (hok : a.m.ok) (hA : Gvs w R2 A2 n2 c2 ask) (hG : ShortG ask) {r : Int} (hr : askP ask a = r) (d : Nat) (os : Array Obj) :
    Calls Tryz.prog 9 #[.agg #[.int .i64 a.m.a.cat, .string a.m.a.name, .bool a.m.a.must, .int .i64 a.m.op, .int .i64 a.m.v.k, .int .i64 a.m.v.n, .string a.m.v.s, .slice A n c], .slice A2 n2 c2] (grow (redrawn w d) os) fun e w'' => e = .returned (.int .i64 r) ∧ ∃ p : Regrown, w'' = grow (redrawn w p.d) p.os := by
  subst hr
  exact Calls.regrown_of (vask_any (R := R) (R2 := R2) (ha.keep (Kept.all (below_regrown w d os) R) (fun _ h _ => h)) hok (hA.keep (Kept.all (below_regrown w d os) R2) (fun _ h _ => h)) hG)
def LikeTo (a b : List Giv) (l : List Atm) (k : Nat) : Prop := ∀ j x, l[j]? = some x → j < k → askP a x = askP b x
theorem LikeTo.step {a b : List Giv} {l : List Atm} {k : Nat} {x : Atm} (h : LikeTo a b l k) (hx : l[k]? = some x) (h2 : askP a x = askP b x) : LikeTo a b l (k + 1) := fun j y hy hj => by
  by_cases e : j = k
  · subst e
    obtain rfl := Option.some.inj (hx.symm.trans hy)
    exact h2
  · exact h j y hy (by omega)
theorem LikeTo.all {a b : List Giv} {l : List Atm} {n : Nat} (h : LikeTo a b l n) (hn : l.length = n) : Alike a b l := fun x hx => by
  obtain ⟨j, hj, rfl⟩ := List.getElem_of_mem hx
  exact h j _ (List.getElem?_eq_getElem hj) (by omega)
set_option maxRecDepth 100000 in
set_option maxHeartbeats 6400000 in
theorem varsAll_walk (W : World) (p : Pol) {A1 : Option Addr} {n1 k1 : Nat} {A2 : Option Addr} {n2 k2 : Nat} {A3 : Option Addr} {n3 k3 : Nat} {A4 : Option Addr} {n4 k4 : Nat} (h : PolIn W (fun _ => True) p A1 n1 k1 A2 n2 k2 A3 n3 k3 A4 n4 k4)
    (A5 : Option Addr) (n5 k5 : Nat) (h5 : ∃ l, Gvs W (fun _ => True) A5 n5 k5 l) (A6 : Option Addr) (n6 k6 : Nat) (h6 : ∃ l, Gvs W (fun _ => True) A6 n6 k6 l) :
    Calls Tryz.prog 3 #[.agg #[.string p.id, .bool p.set, .int .i64 p.alg, .slice A1 n1 k1, .slice A2 n2 k2, .slice A3 n3 k3, .slice A4 n4 k4], .slice A5 n5 k5, .slice A6 n6 k6] W fun e w' => e = .returned (.bool true) ∧ Below W.heap.size W w' := by
  obtain ⟨qa, h5⟩ := h5
  obtain ⟨qb, h6⟩ := h6
  obtain ⟨m, hpl, hsm⟩ := evsmall h
  have OP := Lib.hid (Ob.made W 28 #[.string p.id, .bool p.set, .int .i64 p.alg, .slice A1 n1 k1, .slice A2 n2 k2, .slice A3 n3 k3, .slice A4 n4 k4])
  have B0 := Lib.hid ((Below.refl W.heap.size W).alloc (Nat.le_refl _) (.cells #[.string p.id, .bool p.set, .int .i64 p.alg, .slice A1 n1 k1, .slice A2 n2 k2, .slice A3 n3 k3, .slice A4 n4 k4] 28))
  have SM := Lib.hid (fun (b : Bool) (hb : decide (polC (m + 1) p ≤ 3000) = b) V hV => (show Calls Tryz.prog 5 #[.agg #[.string p.id, .bool p.set, .int .i64 p.alg, .slice A1 n1 k1, .slice A2 n2 k2, .slice A3 n3 k3, .slice A4 n4 k4]] V fun e w' => e = .returned (.bool b) ∧ Below V.heap.size V w' from by rw [← hb]; exact hsm V hV))
  have FA := Lib.hid (fun (b : Bool) (hb : decide (fewC qa ≤ 1200) = b) => evfew (w := W) h5 hb)
  have FB := Lib.hid (fun (b : Bool) (hb : decide (fewC qb ≤ 1200) = b) => evfew (w := W) h6 hb)
  have HP := Lib.hid h
  have H5 := Lib.hid h5
  have H6 := Lib.hid h6
  have HPL := Lib.hid hpl
  clear hsm h h5 h6 hpl
  have cP := OP.out.c7v
  by_cases c1 : polC (m + 1) p ≤ 3000
  rotate_left
  · have S1 := Lib.hid (SM.out false (decide_eq_false c1))
    clear c1 SM
    go_enter Tryz.func3, Tryz.ntmps3
    go_wp2_with fail
    refine (S1.out _ B0.out).mono ?_
    rintro e w1 ⟨rfl, hb⟩
    have D1 := Lib.hid (below_step B0.out hb)
    have O1 := Lib.hid (OP.out.below hb OP.out.lt)
    clear hb
    go_wp2_with fail
    refine (vruns_any _).mono ?_
    rintro e w9 ⟨rfl, hb⟩
    have D9 := Lib.hid (below_step D1.out hb)
    clear hb
    go_wp2_with fail
    go_ret
    exact ⟨rfl, D9.out⟩
  have S1 := Lib.hid (SM.out true (decide_eq_true c1))
  have HSH := Lib.hid (short_in HP.out HPL.out c1)
  clear c1 SM HPL
  by_cases c2 : fewC qa ≤ 1200
  rotate_left
  · have FA1 := Lib.hid (FA.out false (decide_eq_false c2))
    clear c2 FA
    go_enter Tryz.func3, Tryz.ntmps3
    go_wp2_with fail
    refine (S1.out _ B0.out).mono ?_
    rintro e w1 ⟨rfl, hb⟩
    have D1 := Lib.hid (below_step B0.out hb)
    have O1 := Lib.hid (OP.out.below hb OP.out.lt)
    clear hb
    go_wp2_with fail
    refine (FA1.out _ D1.out).mono ?_
    rintro e w2 ⟨rfl, hb⟩
    have D2 := Lib.hid (below_step D1.out hb)
    have O2 := Lib.hid (O1.out.below hb O1.out.lt)
    clear hb
    go_wp2_with fail
    refine (vruns_any _).mono ?_
    rintro e w9 ⟨rfl, hb⟩
    have D9 := Lib.hid (below_step D2.out hb)
    clear hb
    go_wp2_with fail
    go_ret
    exact ⟨rfl, D9.out⟩
  have FA1 := Lib.hid (FA.out true (decide_eq_true c2))
  have GA := Lib.hid (few_short c2)
  clear c2 FA
  by_cases c3 : fewC qb ≤ 1200
  rotate_left
  · have FB1 := Lib.hid (FB.out false (decide_eq_false c3))
    clear c3 FB
    go_enter Tryz.func3, Tryz.ntmps3
    go_wp2_with fail
    refine (S1.out _ B0.out).mono ?_
    rintro e w1 ⟨rfl, hb⟩
    have D1 := Lib.hid (below_step B0.out hb)
    have O1 := Lib.hid (OP.out.below hb OP.out.lt)
    clear hb
    go_wp2_with fail
    refine (FA1.out _ D1.out).mono ?_
    rintro e w2 ⟨rfl, hb⟩
    have D2 := Lib.hid (below_step D1.out hb)
    have O2 := Lib.hid (O1.out.below hb O1.out.lt)
    clear hb
    go_wp2_with fail
    refine (FB1.out _ D2.out).mono ?_
    rintro e w3 ⟨rfl, hb⟩
    have D3 := Lib.hid (below_step D2.out hb)
    have O3 := Lib.hid (O2.out.below hb O2.out.lt)
    clear hb
    go_wp2_with fail
    refine (vruns_any _).mono ?_
    rintro e w9 ⟨rfl, hb⟩
    have D9 := Lib.hid (below_step D3.out hb)
    clear hb
    go_wp2_with fail
    go_ret
    exact ⟨rfl, D9.out⟩
  have FB1 := Lib.hid (FB.out true (decide_eq_true c3))
  have GB := Lib.hid (few_short c3)
  clear c3 FB
  have OF := Lib.hid (fun V (hV : Below W.heap.size W V) => vof_any (HP.out.then_ hV) HSH.out)
  by_cases c4 : ofE p = 0
  rotate_left
  · have hne : (ofE p != 0) = true := by rw [bne_iff_ne]; exact c4
    clear c4
    generalize ofE p = oe at *
    go_enter Tryz.func3, Tryz.ntmps3
    go_wp2_with fail
    refine (S1.out _ B0.out).mono ?_
    rintro e w1 ⟨rfl, hb⟩
    have D1 := Lib.hid (below_step B0.out hb)
    have O1 := Lib.hid (OP.out.below hb OP.out.lt)
    clear hb
    go_wp2_with fail
    refine (FA1.out _ D1.out).mono ?_
    rintro e w2 ⟨rfl, hb⟩
    have D2 := Lib.hid (below_step D1.out hb)
    have O2 := Lib.hid (O1.out.below hb O1.out.lt)
    clear hb
    go_wp2_with fail
    refine (FB1.out _ D2.out).mono ?_
    rintro e w3 ⟨rfl, hb⟩
    have D3 := Lib.hid (below_step D2.out hb)
    have O3 := Lib.hid (O2.out.below hb O2.out.lt)
    clear hb
    clear cP
    have cP := O3.out.c7v
    go_wp2_with fail
    refine (OF.out _ D3.out).mono ?_
    rintro e w4 ⟨C0, z0, z1, rfl, hb, hl⟩
    have D4 := Lib.hid (below_step D3.out hb)
    clear hb hl
    go_wp2_with fail
    refine (vruns_any _).mono ?_
    rintro e w9 ⟨rfl, hb⟩
    have D9 := Lib.hid (below_step D4.out hb)
    clear hb
    go_wp2_with fail
    go_ret
    exact ⟨rfl, D9.out⟩
  have HO := Lib.hid (of_ok c4)
  rw [c4, HO.out.2.2] at OF
  have HRT := Lib.hid HO.out.1
  clear c4 HO
  go_enter Tryz.func3, Tryz.ntmps3
  go_wp2_with fail
  refine (S1.out _ B0.out).mono ?_
  rintro e w1 ⟨rfl, hb⟩
  have D1 := Lib.hid (below_step B0.out hb)
  have O1 := Lib.hid (OP.out.below hb OP.out.lt)
  clear hb
  go_wp2_with fail
  refine (FA1.out _ D1.out).mono ?_
  rintro e w2 ⟨rfl, hb⟩
  have D2 := Lib.hid (below_step D1.out hb)
  have O2 := Lib.hid (O1.out.below hb O1.out.lt)
  clear hb
  go_wp2_with fail
  refine (FB1.out _ D2.out).mono ?_
  rintro e w3 ⟨rfl, hb⟩
  have D3 := Lib.hid (below_step D2.out hb)
  have O3 := Lib.hid (O2.out.below hb O2.out.lt)
  clear hb
  clear cP
  have cP := O3.out.c7v
  go_wp2_with fail
  refine (OF.out _ D3.out).mono ?_
  rintro e w4 ⟨C0, z0, z1, rfl, hb, hl⟩
  have D4 := Lib.hid (below_step D3.out hb)
  have O4 := Lib.hid (O3.out.below hb O3.out.lt)
  have hle := Rw.le hl
  have hcap := Rw.cap hl
  unfold maxLen at hcap
  have HL := Lib.hid hl
  clear hb hl cP O3 OP O1 O2 OF
  go_wp2_with fail
  go_loopw [39] (fun i wr => ∃ k : Nat, k ≤ z0 ∧ i = .int .i64 k ∧ LikeTo qa qb (atomsP p) k ∧ Below w4.heap.size w4 wr) (fun i _ => z0 - (intOf i).toNat)
  case atStart => exact ⟨0, Nat.zero_le _, rfl, fun _ _ _ h => absurd h (Nat.not_lt_zero _), Below.refl _ _⟩
  case round =>
    obtain ⟨k, hk, rfl, hlk, hb⟩ := hrel
    have HB := Lib.hid hb
    have HLK := Lib.hid hlk
    have DR := Lib.hid (below_step D4.out hb)
    clear hb hlk
    by_cases hlt : k < z0
    · obtain ⟨b, o, x, C1, e1, e2, rfl, hRb, hbl, hx, hok, ⟨x0, x1, x2, x3, x4, x5, x6, x7⟩, hin⟩ := (HL.out.keep (Kept.all HB.out _) (fun _ h _ => h)).at_ hlt
      have HX := Lib.hid hx
      have a1 : Below wr.heap.size wr (wr.alloc (.cells #[.int .i64 x.m.a.cat, .string x.m.a.name, .bool x.m.a.must, .int .i64 x.m.op, .int .i64 x.m.v.k, .int .i64 x.m.v.n, .string x.m.v.s, .slice C1 e1 e2] 45)) := (Below.refl _ _).alloc (Nat.le_refl _) _
      have OX := Lib.hid (Ob.made wr 45 #[.int .i64 x.m.a.cat, .string x.m.a.name, .bool x.m.a.must, .int .i64 x.m.op, .int .i64 x.m.v.k, .int .i64 x.m.v.n, .string x.m.v.s, .slice C1 e1 e2])
      have BX := Lib.hid (below_step HB.out a1)
      have DX := below_step DR.out a1
      obtain ⟨ra, hra⟩ : ∃ r, askP qa x = r := ⟨_, rfl⟩
      obtain ⟨rb, hrb⟩ : ∃ r, askP qb x = r := ⟨_, rfl⟩
      have Q1 := Lib.hid (vask_q (hin.keep (Kept.all a1 _) (fun _ h _ => h)) hok (H5.out.keep (Kept.all DX _) (fun _ h _ => h)) GA.out hra)
      have Q2 := Lib.hid (vask_q (hin.keep (Kept.all a1 _) (fun _ h _ => h)) hok (H6.out.keep (Kept.all DX _) (fun _ h _ => h)) GB.out hrb)
      have HRA := Lib.hid hra
      have HRB := Lib.hid hrb
      clear hx hok hin a1 DX hra hrb
      go_upto_region 9 with fail
      have x0 := fun d os => cell_regrown (OX.out.cell 0) d os
      have x1 := fun d os => cell_regrown (OX.out.cell 1) d os
      have x2 := fun d os => cell_regrown (OX.out.cell 2) d os
      have x3 := fun d os => cell_regrown (OX.out.cell 3) d os
      have x4 := fun d os => cell_regrown (OX.out.cell 4) d os
      have x5 := fun d os => cell_regrown (OX.out.cell 5) d os
      have x6 := fun d os => cell_regrown (OX.out.cell 6) d os
      have x7 := fun d os => cell_regrown (OX.out.cell 7) d os
      refine wp_region_quiet_below (by kernel_rfl) (by kernel_rfl) ?_
      repeat (go_big_quiet_step ((first
        | (go_at_call 9; with_reducible exact Q1.out _ _)
        | (go_at_call 9; with_reducible exact Q2.out _ _))))
      refine wpQuiet_nil ?_
      intro _ hw'
      obtain ⟨⟨dq, osq⟩, hw''⟩ := hw'
      subst hw''
      have BY := Lib.hid (below_step BX.out (below_regrown (wr.alloc (.cells #[.int .i64 x.m.a.cat, .string x.m.a.name, .bool x.m.a.must, .int .i64 x.m.op, .int .i64 x.m.v.k, .int .i64 x.m.v.n, .string x.m.v.s, .slice C1 e1 e2] 45)) dq osq))
      clear x0 x1 x2 x3 x4 x5 x6 x7 Q1 Q2 OX BX HB
      dsimp only at BY ⊢
      generalize grow (redrawn (wr.alloc (.cells #[.int .i64 x.m.a.cat, .string x.m.a.name, .bool x.m.a.must, .int .i64 x.m.op, .int .i64 x.m.v.k, .int .i64 x.m.v.n, .string x.m.v.s, .slice C1 e1 e2] 45)) dq) osq = w5 at *
      have DY := Lib.hid (below_step D4.out BY.out)
      by_cases hab : ra = rb
      · subst hab
        have he : (ra != ra) = false := by simp
        go_wp2_with fail
        go_roundw
        case rel => exact ⟨k + 1, by omega, by go_num, HLK.out.step HX.out (HRA.out.trans HRB.out.symm), BY.out⟩
        case measure => simp [intOf]; omega
      · have he : (ra != rb) = true := by rw [bne_iff_ne]; exact hab
        go_wp2_with fail
        refine (vruns_any _).mono ?_
        rintro e w9 ⟨rfl, hb⟩
        have D9 := Lib.hid (below_step DY.out hb)
        clear hb
        go_wp2_with fail
        go_ret
        exact ⟨rfl, D9.out⟩
    · obtain rfl : k = z0 := by omega
      have HEQ : Hid (evV qa p = evV qb p) := alike_dec (HLK.out.all (Rw.len HL.out))
      obtain ⟨⟨⟨vp, vd⟩, vob⟩, hv⟩ : ∃ v, evV qa p = v := ⟨_, rfl⟩
      have hv2 : evV qb p = ⟨(vp, vd), vob⟩ := by rw [← HEQ.out, hv]
      have EA := Lib.hid (evdec HP.out HRT.out H5.out GA.out hv)
      have EB := Lib.hid (evdec HP.out HRT.out H6.out GB.out hv2)
      have O5 := Lib.hid (O4.out.below HB.out O4.out.lt)
      clear hv hv2 HEQ HLK HB
      have cP := O5.out.c7v
      go_wp2_with fail
      refine (EA.out _ DR.out).mono ?_
      rintro e w5 ⟨E1, f1, f2, rfl, hb, hd⟩
      have a5 : Below w5.heap.size w5 (w5.alloc (.cells #[.complex .f64 (fl vp) (fl vd), .slice E1 f1 f2] 50)) := (Below.refl _ _).alloc (Nat.le_refl _) _
      have hb5 := below_step hb a5
      have D5 := Lib.hid (below_step DR.out hb5)
      have O6 := Lib.hid (O5.out.below hb5 O5.out.lt)
      have OA := Lib.hid (Ob.made w5 50 #[.complex .f64 (fl vp) (fl vd), .slice E1 f1 f2])
      have DA := Lib.hid (hd.keep (R' := fun _ => True) (Kept.all a5 _) (fun _ _ _ => trivial))
      clear hb hd a5 hb5 cP
      have cP := O6.out.c7v
      go_wp2_with fail
      refine (EB.out _ D5.out).mono ?_
      rintro e w6 ⟨F1, g1, g2, rfl, hb, hd⟩
      have a6 : Below w6.heap.size w6 (w6.alloc (.cells #[.complex .f64 (fl vp) (fl vd), .slice F1 g1 g2] 50)) := (Below.refl _ _).alloc (Nat.le_refl _) _
      have hb6 := below_step hb a6
      have D6 := Lib.hid (below_step D5.out hb6)
      have OA2 := Lib.hid (OA.out.below hb6 OA.out.lt)
      have OB2 := Lib.hid (Ob.made w6 50 #[.complex .f64 (fl vp) (fl vd), .slice F1 g1 g2])
      have SM := Lib.hid (evsame_any vp vd (DA.out.keep (Kept.all hb6 _) (fun _ h _ => h)) (hd.keep (R' := fun _ => True) (Kept.all a6 _) (fun _ _ _ => trivial)))
      clear hb hd a6 hb6 cP
      have cA := OA2.out.cell 0
      have cA1 := OA2.out.cell 1
      have cB := OB2.out.cell 0
      have cB1 := OB2.out.cell 1
      go_wp2_with fail
      refine SM.out.mono ?_
      rintro e w7 ⟨rfl, hb⟩
      have D7 := Lib.hid (below_step D6.out hb)
      clear hb
      go_wp2_with fail
      refine (vruns_any _).mono ?_
      rintro e w9 ⟨rfl, hb⟩
      have D9 := Lib.hid (below_step D7.out hb)
      clear hb
      go_wp2_with fail
      go_ret
      exact ⟨rfl, D9.out⟩
end Go.Proofs.YtadjfkgnoklmiaaGreat
