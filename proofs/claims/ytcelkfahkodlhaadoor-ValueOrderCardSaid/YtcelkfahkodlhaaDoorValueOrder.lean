/- ValueOrder: the walk. -/
import Derived.Test.YtcelkfahkodlhaaDoorVThree
import Derived.Test.YtcelkfahkodlhaaDoorVOrderMath
import Derived.Test.YtcelkfahkodlhaaDoorOpenVal
namespace Go.Proofs.YtcelkfahkodlhaaDoor
set_option linter.unusedVariables false
open Go.RowKit Go.Sort

set_option maxHeartbeats 3200000 in
theorem valueOrder_walk (w : World) (a : Vl) (ha : a.ok) (b : Vl) (hb : b.ok) (c : Vl) (hc : c.ok) (htab : Tab w) :
    Calls Tryd.prog 7 #[a.val, b.val, c.val] w fun e w' => e = .returned (.bool true) ∧ Below w.heap.size w w' := by
  have ht : ∀ w', Below w.heap.size w w' → Tab w' := fun w' hb => htab.then_ hb
  have HT := Lib.hid ht
  clear ht htab
  obtain ⟨ka, na, sa⟩ := a
  obtain ⟨kb, nb, sb⟩ := b
  obtain ⟨kc, nc, sc⟩ := c
  obtain ⟨ta, hta, hsa⟩ : ∃ ta, fewV ⟨ka, na, sa⟩ = ⟨ka, na, ta⟩ ∧ ta.size ≤ 80 := ⟨_, rfl, fewV_size _⟩
  obtain ⟨tb, htb, hsb⟩ : ∃ tb, fewV ⟨kb, nb, sb⟩ = ⟨kb, nb, tb⟩ ∧ tb.size ≤ 80 := ⟨_, rfl, fewV_size _⟩
  obtain ⟨tc, htc, hsc⟩ : ∃ tc, fewV ⟨kc, nc, sc⟩ = ⟨kc, nc, tc⟩ ∧ tc.size ≤ 80 := ⟨_, rfl, fewV_size _⟩
  have QA := Lib.hid (fun W d os => few_grown ka na sa ta hta ha.2.2 W d os)
  have QB := Lib.hid (fun W d os => few_grown kb nb sb tb htb hb.2.2 W d os)
  have QC := Lib.hid (fun W d os => few_grown kc nc sc tc htc hc.2.2 W d os)
  have HSA := Lib.hid hsa
  have HSB := Lib.hid hsb
  have HSC := Lib.hid hsc
  clear hta htb htc ha hb hc hsa hsb hsc
  show Calls _ _ #[.agg #[.int .i64 ka, .int .i64 na, .string sa], .agg #[.int .i64 kb, .int .i64 nb, .string sb], .agg #[.int .i64 kc, .int .i64 nc, .string sc]] w _
  go_enter Tryd.func7, Tryd.ntmps7
  go_wp2_with fail
  have B0 := Lib.hid (((Bx.made w ka na sa).alloc (.cells #[.int .i64 kb, .int .i64 nb, .string sb] 26)).alloc (.cells #[.int .i64 kc, .int .i64 nc, .string sc] 26))
  have B1 := Lib.hid ((Bx.made (w.alloc (.cells #[.int .i64 ka, .int .i64 na, .string sa] 26)) kb nb sb).alloc (.cells #[.int .i64 kc, .int .i64 nc, .string sc] 26))
  have B2 := Lib.hid (Bx.made ((w.alloc (.cells #[.int .i64 ka, .int .i64 na, .string sa] 26)).alloc (.cells #[.int .i64 kb, .int .i64 nb, .string sb] 26)) kc nc sc)
  have D := Lib.hid ((((Below.refl w.heap.size w).alloc (Nat.le_refl _) (.cells #[.int .i64 ka, .int .i64 na, .string sa] 26)).alloc (by rw [size_al]; omega) (.cells #[.int .i64 kb, .int .i64 nb, .string sb] 26)).alloc (by rw [size_al, size_al]; omega) (.cells #[.int .i64 kc, .int .i64 nc, .string sc] 26))
  generalize ((w.alloc (.cells #[.int .i64 ka, .int .i64 na, .string sa] 26)).alloc (.cells #[.int .i64 kb, .int .i64 nb, .string sb] 26)).alloc (.cells #[.int .i64 kc, .int .i64 nc, .string sc] 26) = W3 at *
  have B1' : Hid (Bx W3 (w.heap.size + 1) kb nb sb) := by have := B1.out; rw [size_al] at this; exact this
  have B2' : Hid (Bx W3 (w.heap.size + 1 + 1) kc nc sc) := by have := B2.out; rw [size_al, size_al] at this; exact this
  clear B1 B2
  obtain ⟨x0, x1, x2⟩ := B0.out.grown
  obtain ⟨y0, y1, y2⟩ := B1'.out.grown
  obtain ⟨z0, z1, z2⟩ := B2'.out.grown
  refine wp_region_below_tail 6 (by kernel_rfl) (by kernel_rfl) ?_
  simp only [List.take_succ_cons, List.take_zero, List.drop_succ_cons, List.drop_zero]
  repeat (go_big_quiet_step ((first | (go_at_call 14; with_reducible exact QA.out _ _ _) | (go_at_call 14; with_reducible exact QB.out _ _ _) | (go_at_call 14; with_reducible exact QC.out _ _ _))))
  refine wpQuiet_nil ?_
  intro _ hw'
  obtain ⟨⟨dq, osq⟩, hw''⟩ := hw'
  subst hw''
  have hbel := below_regrown W3 dq osq
  have D4 := Lib.hid (below_step D.out hbel)
  have C0 := Lib.hid (B0.out.then_ hbel)
  have C1 := Lib.hid (B1'.out.then_ hbel)
  have C2 := Lib.hid (B2'.out.then_ hbel)
  clear x0 x1 x2 y0 y1 y2 z0 z1 z2 hbel
  dsimp only at C0 C1 C2 D4 ⊢
  generalize grow (redrawn W3 dq) osq = W4 at *
  have c0 := C0.out.c3
  have c1 := C1.out.c3
  have c2 := C2.out.c3
  have f0 := C0.out.fz
  have f1 := C1.out.fz
  have f2 := C2.out.fz
  go_wp2_with fail
  have A0 := Lib.hid (((C0.out.put ka na ta).past (g' := w.heap.size + 1) (by omega) (.int .i64 kb) (.int .i64 nb) (.string tb)).past (g' := w.heap.size + 1 + 1) (by omega) (.int .i64 kc) (.int .i64 nc) (.string tc))
  have B0 := Lib.hid (((C1.out.past (g' := w.heap.size) (by omega) (.int .i64 ka) (.int .i64 na) (.string ta)).put kb nb tb).past (g' := w.heap.size + 1 + 1) (by omega) (.int .i64 kc) (.int .i64 nc) (.string tc))
  have E0 := Lib.hid (((C2.out.past (g' := w.heap.size) (by omega) (.int .i64 ka) (.int .i64 na) (.string ta)).past (g' := w.heap.size + 1) (by omega) (.int .i64 kb) (.int .i64 nb) (.string tb)).put kc nc tc)
  have D0 := Lib.hid (below_put (below_put (below_put D4.out (g := w.heap.size) (Nat.le_refl _) (.int .i64 ka) (.int .i64 na) (.string ta)) (g := w.heap.size + 1) (by omega) (.int .i64 kb) (.int .i64 nb) (.string tb)) (g := w.heap.size + 1 + 1) (by omega) (.int .i64 kc) (.int .i64 nc) (.string tc))
  clear c0 c1 c2 f0 f1 f2 C0 C1 C2
  have C0 := Lib.hid E0.out
  clear E0
  generalize (((((((((W4.setCell ⟨w.heap.size, 0, none⟩ (.int .i64 ka)).setCell ⟨w.heap.size, 1, none⟩ (.int .i64 na)).setCell ⟨w.heap.size, 2, none⟩ (.string ta)).setCell ⟨w.heap.size + 1, 0, none⟩ (.int .i64 kb)).setCell ⟨w.heap.size + 1, 1, none⟩ (.int .i64 nb)).setCell ⟨w.heap.size + 1, 2, none⟩ (.string tb)).setCell ⟨w.heap.size + 1 + 1, 0, none⟩ (.int .i64 kc)).setCell ⟨w.heap.size + 1 + 1, 1, none⟩ (.int .i64 nc)).setCell ⟨w.heap.size + 1 + 1, 2, none⟩ (.string tc)) = W5 at *
  have c0 := A0.out.c3
  have c1 := B0.out.c3
  have c2 := C0.out.c3
  rcases less_both ⟨ka, na, ta⟩ ⟨kb, nb, tb⟩ with ⟨x, hx, l1, l2⟩ | ⟨p, q, l1, l2, hone⟩
  · have L1 := Lib.hid l1
    have L2 := Lib.hid l2
    have hx' : (x != 0) = true := by rw [bne_iff_ne]; exact hx
    have HX := Lib.hid hx
    clear l1 l2 hx
    go_wp2_with fail
    refine (less_at L1.out (by have := HSA.out; unfold maxLen; omega) (by have := HSB.out; unfold maxLen; omega) _).mono ?_
    rintro e v1 ⟨rfl, hb⟩
    have D1 := Lib.hid (below_step D0.out hb)
    have A1 := Lib.hid (A0.out.then_ hb)
    have B1 := Lib.hid (B0.out.then_ hb)
    have C1 := Lib.hid (C0.out.then_ hb)
    clear hb c0 c1 c2 A0 B0 C0 D0
    have c0 := A1.out.c3
    have c1 := B1.out.c3
    have c2 := C1.out.c3
    go_wp2_with fail
    refine (less_at L2.out (by have := HSB.out; unfold maxLen; omega) (by have := HSA.out; unfold maxLen; omega) _).mono ?_
    rintro e v2 ⟨rfl, hb⟩
    have D2 := Lib.hid (below_step D1.out hb)
    have A2 := Lib.hid (A1.out.then_ hb)
    have B2 := Lib.hid (B1.out.then_ hb)
    have C2 := Lib.hid (C1.out.then_ hb)
    clear hb c0 c1 c2 A1 B1 C1 D1
    have c0 := A2.out.c3
    have c1 := B2.out.c3
    have c2 := C2.out.c3
    go_wp2_with fail
    refine (vruns_any _ (HT.out _ D2.out)).mono ?_
    rintro e w9 ⟨rfl, hb⟩
    have D9 := Lib.hid (below_step D2.out hb)
    clear hb
    go_wp2_with fail
    go_ret
    exact ⟨rfl, D9.out⟩
  · have hcase : (p = true ∧ q = false ∧ (⟨ka, na, ta⟩ : Vl) ≠ ⟨kb, nb, tb⟩) ∨ (p = false ∧ q = true ∧ (⟨ka, na, ta⟩ : Vl) ≠ ⟨kb, nb, tb⟩) ∨ (p = false ∧ q = false ∧ (⟨ka, na, ta⟩ : Vl) = ⟨kb, nb, tb⟩) := by
      unfold One at hone
      simp only [Bool.not_eq_true] at hone
      exact hone
    clear hone
    rcases hcase with ⟨rfl, rfl, heq⟩ | ⟨rfl, rfl, heq⟩ | ⟨rfl, rfl, heq⟩
    · have L1 : Hid (lessOf ⟨ka, na, ta⟩ ⟨kb, nb, tb⟩ = (true, 0)) := l1
      have L2 : Hid (lessOf ⟨kb, nb, tb⟩ ⟨ka, na, ta⟩ = (false, 0)) := l2
      have hve : ∀ W, _ = Result.ok false W := fun W => (val_eq ka na kb nb ta tb W).trans (by rw [veq_false heq])
      clear l1 l2 heq
      go_wp2_with fail
      refine (less_at L1.out (by have := HSA.out; unfold maxLen; omega) (by have := HSB.out; unfold maxLen; omega) _).mono ?_
      rintro e v1 ⟨rfl, hb⟩
      have D1 := Lib.hid (below_step D0.out hb)
      have A1 := Lib.hid (A0.out.then_ hb)
      have B1 := Lib.hid (B0.out.then_ hb)
      have C1 := Lib.hid (C0.out.then_ hb)
      clear hb c0 c1 c2 A0 B0 C0 D0
      have c0 := A1.out.c3
      have c1 := B1.out.c3
      have c2 := C1.out.c3
      go_wp2_with fail
      refine (less_at L2.out (by have := HSB.out; unfold maxLen; omega) (by have := HSA.out; unfold maxLen; omega) _).mono ?_
      rintro e v2 ⟨rfl, hb⟩
      have D2 := Lib.hid (below_step D1.out hb)
      have A2 := Lib.hid (A1.out.then_ hb)
      have B2 := Lib.hid (B1.out.then_ hb)
      have C2 := Lib.hid (C1.out.then_ hb)
      clear hb c0 c1 c2 A1 B1 C1 D1
      have c0 := A2.out.c3
      have c1 := B2.out.c3
      have c2 := C2.out.c3
      rcases h3 : lessOf ⟨kb, nb, tb⟩ ⟨kc, nc, tc⟩ with ⟨z, y⟩
      have L3 := Lib.hid h3
      by_cases hy : y = 0
      · subst hy
        obtain ⟨u, h4, himp⟩ := less_next L1.out h3
        have L4 := Lib.hid h4
        have HI := Lib.hid himp
        clear h3 h4 himp
        go_wp2_with fail
        refine (less_at L3.out (by have := HSB.out; unfold maxLen; omega) (by have := HSC.out; unfold maxLen; omega) _).mono ?_
        rintro e v3 ⟨rfl, hb⟩
        have D3 := Lib.hid (below_step D2.out hb)
        have A3 := Lib.hid (A2.out.then_ hb)
        have B3 := Lib.hid (B2.out.then_ hb)
        have C3 := Lib.hid (C2.out.then_ hb)
        clear hb c0 c1 c2 A2 B2 C2 D2
        have c0 := A3.out.c3
        have c1 := B3.out.c3
        have c2 := C3.out.c3
        go_wp2_with fail
        refine (less_at L4.out (by have := HSA.out; unfold maxLen; omega) (by have := HSC.out; unfold maxLen; omega) _).mono ?_
        rintro e v4 ⟨rfl, hb⟩
        have D4 := Lib.hid (below_step D3.out hb)
        have A4 := Lib.hid (A3.out.then_ hb)
        have B4 := Lib.hid (B3.out.then_ hb)
        have C4 := Lib.hid (C3.out.then_ hb)
        clear hb c0 c1 c2 A3 B3 C3 D3
        have c0 := A4.out.c3
        have c1 := B4.out.c3
        have c2 := C4.out.c3
        cases z
        · go_wp2_with fail
          refine (vruns_any _ (HT.out _ D4.out)).mono ?_
          rintro e w9 ⟨rfl, hb⟩
          have D9 := Lib.hid (below_step D4.out hb)
          clear hb
          go_wp2_with fail
          go_ret
          exact ⟨rfl, D9.out⟩
        · obtain rfl : u = true := by have hi := HI.out; first | exact hi trivial trivial | simpa using hi
          go_wp2_with fail
          refine (vruns_any _ (HT.out _ D4.out)).mono ?_
          rintro e w9 ⟨rfl, hb⟩
          have D9 := Lib.hid (below_step D4.out hb)
          clear hb
          go_wp2_with fail
          go_ret
          exact ⟨rfl, D9.out⟩
      · have hy' : (y != 0) = true := by rw [bne_iff_ne]; exact hy
        rcases h4 : lessOf ⟨ka, na, ta⟩ ⟨kc, nc, tc⟩ with ⟨u, v⟩
        have L4 := Lib.hid h4
        clear h3 h4 hy
        go_wp2_with fail
        refine (less_at L3.out (by have := HSB.out; unfold maxLen; omega) (by have := HSC.out; unfold maxLen; omega) _).mono ?_
        rintro e v3 ⟨rfl, hb⟩
        have D3 := Lib.hid (below_step D2.out hb)
        have A3 := Lib.hid (A2.out.then_ hb)
        have B3 := Lib.hid (B2.out.then_ hb)
        have C3 := Lib.hid (C2.out.then_ hb)
        clear hb c0 c1 c2 A2 B2 C2 D2
        have c0 := A3.out.c3
        have c1 := B3.out.c3
        have c2 := C3.out.c3
        go_wp2_with fail
        refine (less_at L4.out (by have := HSA.out; unfold maxLen; omega) (by have := HSC.out; unfold maxLen; omega) _).mono ?_
        rintro e v4 ⟨rfl, hb⟩
        have D4 := Lib.hid (below_step D3.out hb)
        have A4 := Lib.hid (A3.out.then_ hb)
        have B4 := Lib.hid (B3.out.then_ hb)
        have C4 := Lib.hid (C3.out.then_ hb)
        clear hb c0 c1 c2 A3 B3 C3 D3
        have c0 := A4.out.c3
        have c1 := B4.out.c3
        have c2 := C4.out.c3
        go_wp2_with fail
        refine (vruns_any _ (HT.out _ D4.out)).mono ?_
        rintro e w9 ⟨rfl, hb⟩
        have D9 := Lib.hid (below_step D4.out hb)
        clear hb
        go_wp2_with fail
        go_ret
        exact ⟨rfl, D9.out⟩
    · have L1 : Hid (lessOf ⟨ka, na, ta⟩ ⟨kb, nb, tb⟩ = (false, 0)) := l1
      have L2 : Hid (lessOf ⟨kb, nb, tb⟩ ⟨ka, na, ta⟩ = (true, 0)) := l2
      have hve : ∀ W, _ = Result.ok false W := fun W => (val_eq ka na kb nb ta tb W).trans (by rw [veq_false heq])
      clear l1 l2 heq
      go_wp2_with fail
      refine (less_at L1.out (by have := HSA.out; unfold maxLen; omega) (by have := HSB.out; unfold maxLen; omega) _).mono ?_
      rintro e v1 ⟨rfl, hb⟩
      have D1 := Lib.hid (below_step D0.out hb)
      have A1 := Lib.hid (A0.out.then_ hb)
      have B1 := Lib.hid (B0.out.then_ hb)
      have C1 := Lib.hid (C0.out.then_ hb)
      clear hb c0 c1 c2 A0 B0 C0 D0
      have c0 := A1.out.c3
      have c1 := B1.out.c3
      have c2 := C1.out.c3
      go_wp2_with fail
      refine (less_at L2.out (by have := HSB.out; unfold maxLen; omega) (by have := HSA.out; unfold maxLen; omega) _).mono ?_
      rintro e v2 ⟨rfl, hb⟩
      have D2 := Lib.hid (below_step D1.out hb)
      have A2 := Lib.hid (A1.out.then_ hb)
      have B2 := Lib.hid (B1.out.then_ hb)
      have C2 := Lib.hid (C1.out.then_ hb)
      clear hb c0 c1 c2 A1 B1 C1 D1
      have c0 := A2.out.c3
      have c1 := B2.out.c3
      have c2 := C2.out.c3
      rcases h3 : lessOf ⟨kb, nb, tb⟩ ⟨kc, nc, tc⟩ with ⟨z, y⟩
      have L3 := Lib.hid h3
      by_cases hy : y = 0
      · subst hy
        obtain ⟨u, h4, himp⟩ := less_next L1.out h3
        have L4 := Lib.hid h4
        have HI := Lib.hid himp
        clear h3 h4 himp
        go_wp2_with fail
        refine (less_at L3.out (by have := HSB.out; unfold maxLen; omega) (by have := HSC.out; unfold maxLen; omega) _).mono ?_
        rintro e v3 ⟨rfl, hb⟩
        have D3 := Lib.hid (below_step D2.out hb)
        have A3 := Lib.hid (A2.out.then_ hb)
        have B3 := Lib.hid (B2.out.then_ hb)
        have C3 := Lib.hid (C2.out.then_ hb)
        clear hb c0 c1 c2 A2 B2 C2 D2
        have c0 := A3.out.c3
        have c1 := B3.out.c3
        have c2 := C3.out.c3
        go_wp2_with fail
        refine (less_at L4.out (by have := HSA.out; unfold maxLen; omega) (by have := HSC.out; unfold maxLen; omega) _).mono ?_
        rintro e v4 ⟨rfl, hb⟩
        have D4 := Lib.hid (below_step D3.out hb)
        have A4 := Lib.hid (A3.out.then_ hb)
        have B4 := Lib.hid (B3.out.then_ hb)
        have C4 := Lib.hid (C3.out.then_ hb)
        clear hb c0 c1 c2 A3 B3 C3 D3
        have c0 := A4.out.c3
        have c1 := B4.out.c3
        have c2 := C4.out.c3
        go_wp2_with fail
        refine (vruns_any _ (HT.out _ D4.out)).mono ?_
        rintro e w9 ⟨rfl, hb⟩
        have D9 := Lib.hid (below_step D4.out hb)
        clear hb
        go_wp2_with fail
        go_ret
        exact ⟨rfl, D9.out⟩
      · have hy' : (y != 0) = true := by rw [bne_iff_ne]; exact hy
        rcases h4 : lessOf ⟨ka, na, ta⟩ ⟨kc, nc, tc⟩ with ⟨u, v⟩
        have L4 := Lib.hid h4
        clear h3 h4 hy
        go_wp2_with fail
        refine (less_at L3.out (by have := HSB.out; unfold maxLen; omega) (by have := HSC.out; unfold maxLen; omega) _).mono ?_
        rintro e v3 ⟨rfl, hb⟩
        have D3 := Lib.hid (below_step D2.out hb)
        have A3 := Lib.hid (A2.out.then_ hb)
        have B3 := Lib.hid (B2.out.then_ hb)
        have C3 := Lib.hid (C2.out.then_ hb)
        clear hb c0 c1 c2 A2 B2 C2 D2
        have c0 := A3.out.c3
        have c1 := B3.out.c3
        have c2 := C3.out.c3
        go_wp2_with fail
        refine (less_at L4.out (by have := HSA.out; unfold maxLen; omega) (by have := HSC.out; unfold maxLen; omega) _).mono ?_
        rintro e v4 ⟨rfl, hb⟩
        have D4 := Lib.hid (below_step D3.out hb)
        have A4 := Lib.hid (A3.out.then_ hb)
        have B4 := Lib.hid (B3.out.then_ hb)
        have C4 := Lib.hid (C3.out.then_ hb)
        clear hb c0 c1 c2 A3 B3 C3 D3
        have c0 := A4.out.c3
        have c1 := B4.out.c3
        have c2 := C4.out.c3
        go_wp2_with fail
        refine (vruns_any _ (HT.out _ D4.out)).mono ?_
        rintro e w9 ⟨rfl, hb⟩
        have D9 := Lib.hid (below_step D4.out hb)
        clear hb
        go_wp2_with fail
        go_ret
        exact ⟨rfl, D9.out⟩
    · have L1 : Hid (lessOf ⟨ka, na, ta⟩ ⟨kb, nb, tb⟩ = (false, 0)) := l1
      have L2 : Hid (lessOf ⟨kb, nb, tb⟩ ⟨ka, na, ta⟩ = (false, 0)) := l2
      have hve : ∀ W, _ = Result.ok true W := fun W => (val_eq ka na kb nb ta tb W).trans (by rw [veq_true heq])
      clear l1 l2 heq
      go_wp2_with fail
      refine (less_at L1.out (by have := HSA.out; unfold maxLen; omega) (by have := HSB.out; unfold maxLen; omega) _).mono ?_
      rintro e v1 ⟨rfl, hb⟩
      have D1 := Lib.hid (below_step D0.out hb)
      have A1 := Lib.hid (A0.out.then_ hb)
      have B1 := Lib.hid (B0.out.then_ hb)
      have C1 := Lib.hid (C0.out.then_ hb)
      clear hb c0 c1 c2 A0 B0 C0 D0
      have c0 := A1.out.c3
      have c1 := B1.out.c3
      have c2 := C1.out.c3
      go_wp2_with fail
      refine (less_at L2.out (by have := HSB.out; unfold maxLen; omega) (by have := HSA.out; unfold maxLen; omega) _).mono ?_
      rintro e v2 ⟨rfl, hb⟩
      have D2 := Lib.hid (below_step D1.out hb)
      have A2 := Lib.hid (A1.out.then_ hb)
      have B2 := Lib.hid (B1.out.then_ hb)
      have C2 := Lib.hid (C1.out.then_ hb)
      clear hb c0 c1 c2 A1 B1 C1 D1
      have c0 := A2.out.c3
      have c1 := B2.out.c3
      have c2 := C2.out.c3
      rcases h3 : lessOf ⟨kb, nb, tb⟩ ⟨kc, nc, tc⟩ with ⟨z, y⟩
      have L3 := Lib.hid h3
      by_cases hy : y = 0
      · subst hy
        obtain ⟨u, h4, himp⟩ := less_next L1.out h3
        have L4 := Lib.hid h4
        have HI := Lib.hid himp
        clear h3 h4 himp
        go_wp2_with fail
        refine (less_at L3.out (by have := HSB.out; unfold maxLen; omega) (by have := HSC.out; unfold maxLen; omega) _).mono ?_
        rintro e v3 ⟨rfl, hb⟩
        have D3 := Lib.hid (below_step D2.out hb)
        have A3 := Lib.hid (A2.out.then_ hb)
        have B3 := Lib.hid (B2.out.then_ hb)
        have C3 := Lib.hid (C2.out.then_ hb)
        clear hb c0 c1 c2 A2 B2 C2 D2
        have c0 := A3.out.c3
        have c1 := B3.out.c3
        have c2 := C3.out.c3
        go_wp2_with fail
        refine (less_at L4.out (by have := HSA.out; unfold maxLen; omega) (by have := HSC.out; unfold maxLen; omega) _).mono ?_
        rintro e v4 ⟨rfl, hb⟩
        have D4 := Lib.hid (below_step D3.out hb)
        have A4 := Lib.hid (A3.out.then_ hb)
        have B4 := Lib.hid (B3.out.then_ hb)
        have C4 := Lib.hid (C3.out.then_ hb)
        clear hb c0 c1 c2 A3 B3 C3 D3
        have c0 := A4.out.c3
        have c1 := B4.out.c3
        have c2 := C4.out.c3
        go_wp2_with fail
        refine (vruns_any _ (HT.out _ D4.out)).mono ?_
        rintro e w9 ⟨rfl, hb⟩
        have D9 := Lib.hid (below_step D4.out hb)
        clear hb
        go_wp2_with fail
        go_ret
        exact ⟨rfl, D9.out⟩
      · have hy' : (y != 0) = true := by rw [bne_iff_ne]; exact hy
        rcases h4 : lessOf ⟨ka, na, ta⟩ ⟨kc, nc, tc⟩ with ⟨u, v⟩
        have L4 := Lib.hid h4
        clear h3 h4 hy
        go_wp2_with fail
        refine (less_at L3.out (by have := HSB.out; unfold maxLen; omega) (by have := HSC.out; unfold maxLen; omega) _).mono ?_
        rintro e v3 ⟨rfl, hb⟩
        have D3 := Lib.hid (below_step D2.out hb)
        have A3 := Lib.hid (A2.out.then_ hb)
        have B3 := Lib.hid (B2.out.then_ hb)
        have C3 := Lib.hid (C2.out.then_ hb)
        clear hb c0 c1 c2 A2 B2 C2 D2
        have c0 := A3.out.c3
        have c1 := B3.out.c3
        have c2 := C3.out.c3
        go_wp2_with fail
        refine (less_at L4.out (by have := HSA.out; unfold maxLen; omega) (by have := HSC.out; unfold maxLen; omega) _).mono ?_
        rintro e v4 ⟨rfl, hb⟩
        have D4 := Lib.hid (below_step D3.out hb)
        have A4 := Lib.hid (A3.out.then_ hb)
        have B4 := Lib.hid (B3.out.then_ hb)
        have C4 := Lib.hid (C3.out.then_ hb)
        clear hb c0 c1 c2 A3 B3 C3 D3
        have c0 := A4.out.c3
        have c1 := B4.out.c3
        have c2 := C4.out.c3
        go_wp2_with fail
        refine (vruns_any _ (HT.out _ D4.out)).mono ?_
        rintro e w9 ⟨rfl, hb⟩
        have D9 := Lib.hid (below_step D4.out hb)
        clear hb
        go_wp2_with fail
        go_ret
        exact ⟨rfl, D9.out⟩
end Go.Proofs.YtcelkfahkodlhaaDoor
