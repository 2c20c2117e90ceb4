/- ValueKinds: the walk. -/
import Derived.Test.YtcelkfahkodlhaaDoorVThree
import Derived.Test.YtcelkfahkodlhaaDoorVHas
import Derived.Test.YtcelkfahkodlhaaDoorVBag
import Derived.Test.YtcelkfahkodlhaaDoorOpenVal
namespace Go.Proofs.YtcelkfahkodlhaaDoor
set_option linter.unusedVariables false
open Go.RowKit Go.Sort

theorem bag_is {w : World} {B n c : Nat} {A : Option Addr} {l : List Vl} {b : Bool} (hb : bagB l = b) (h : Vs w B A n c l) (hB : B ≤ w.heap.size) :
    Calls Tryd.prog 25 #[.slice A n c] w fun e w' => e = .returned (.bool b) ∧ Below w.heap.size w w' := by
  have := vbag_any h hB
  rwa [hb] at this
theorem has_is {w : World} {B n c : Nat} {A : Option Addr} {l : List Vl} {b : Bool} {k n0 : Int} {s : ByteArray} (hb : hasB l ⟨k, n0, s⟩ = b) (h : Vs w B A n c l) (hB : B ≤ w.heap.size) :
    Calls Tryd.prog 27 #[.slice A n c, .agg #[.int .i64 k, .int .i64 n0, .string s]] w fun e w' => e = .returned (.bool b) ∧ Below w.heap.size w w' := by
  have := vhas_any h hB k n0 s
  rwa [hb] at this
theorem right_is {k n : Int} {s : ByteArray} {b : Bool} (hb : decide (Vl.right ⟨k, n, s⟩) = b) (hs : s.size ≤ maxLen) (w : World) :
    Calls Tryd.prog 23 #[.agg #[.int .i64 k, .int .i64 n, .string s]] w fun e w' => e = .returned (.bool b) ∧ Below w.heap.size w w' := by
  have := right_any k n s hs w
  rwa [show decide (RightV k n s.data.toList) = b from hb] at this

set_option maxHeartbeats 3200000 in
set_option maxRecDepth 100000 in
theorem valueKinds_walk (w : World) (a : Vl) (ha : a.ok) (b : Vl) (hb : b.ok) (htab : Tab w) :
    Calls Tryd.prog 10 #[a.val, b.val] w fun e w' => e = .returned (.bool true) ∧ Below w.heap.size w w' := by
  have ht : ∀ w', Below w.heap.size w w' → Tab w' := fun w' hb => htab.then_ hb
  have HT := Lib.hid ht
  clear ht htab
  obtain ⟨ka, na, sa⟩ := a
  obtain ⟨kb, nb, sb⟩ := b
  obtain ⟨ta, hta, hsa⟩ : ∃ ta, fewV ⟨ka, na, sa⟩ = ⟨ka, na, ta⟩ ∧ ta.size ≤ 80 := ⟨_, rfl, fewV_size _⟩
  obtain ⟨tb, htb, hsb⟩ : ∃ tb, fewV ⟨kb, nb, sb⟩ = ⟨kb, nb, tb⟩ ∧ tb.size ≤ 80 := ⟨_, rfl, fewV_size _⟩
  have QA := Lib.hid (fun W d os => few_grown ka na sa ta hta ha.2.2 W d os)
  have QB := Lib.hid (fun W d os => few_grown kb nb sb tb htb hb.2.2 W d os)
  have HSA := Lib.hid hsa
  have HSB := Lib.hid hsb
  have OKA : Hid (Vl.ok ⟨ka, na, ta⟩) := ⟨ha.1, ha.2.1, Nat.le_trans hsa (by simp [maxLen])⟩
  have OKB : Hid (Vl.ok ⟨kb, nb, tb⟩) := ⟨hb.1, hb.2.1, Nat.le_trans hsb (by simp [maxLen])⟩
  clear hta htb ha hb hsa hsb
  show Calls _ _ #[.agg #[.int .i64 ka, .int .i64 na, .string sa], .agg #[.int .i64 kb, .int .i64 nb, .string sb]] w _
  go_enter Tryd.func10, Tryd.ntmps10
  go_wp2_with fail
  have B0 := Lib.hid ((Bx.made w ka na sa).alloc (.cells #[.int .i64 kb, .int .i64 nb, .string sb] 26))
  have B1 := Lib.hid (Bx.made (w.alloc (.cells #[.int .i64 ka, .int .i64 na, .string sa] 26)) kb nb sb)
  have D := Lib.hid (((Below.refl w.heap.size w).alloc (Nat.le_refl _) (.cells #[.int .i64 ka, .int .i64 na, .string sa] 26)).alloc (by rw [size_al]; omega) (.cells #[.int .i64 kb, .int .i64 nb, .string sb] 26))
  generalize (w.alloc (.cells #[.int .i64 ka, .int .i64 na, .string sa] 26)).alloc (.cells #[.int .i64 kb, .int .i64 nb, .string sb] 26) = W3 at *
  have B1' : Hid (Bx W3 (w.heap.size + 1) kb nb sb) := by have := B1.out; rw [size_al] at this; exact this
  clear B1
  obtain ⟨x0, x1, x2⟩ := B0.out.grown
  obtain ⟨y0, y1, y2⟩ := B1'.out.grown
  refine wp_region_below_tail 4 (by kernel_rfl) (by kernel_rfl) ?_
  simp only [List.take_succ_cons, List.take_zero, List.drop_succ_cons, List.drop_zero]
  repeat (go_big_quiet_step ((first | (go_at_call 14; with_reducible exact QA.out _ _ _) | (go_at_call 14; with_reducible exact QB.out _ _ _))))
  refine wpQuiet_nil ?_
  intro _ hw'
  obtain ⟨⟨dq, osq⟩, hw''⟩ := hw'
  subst hw''
  have hbel := below_regrown W3 dq osq
  have D4 := Lib.hid (below_step D.out hbel)
  have C0 := Lib.hid (B0.out.then_ hbel)
  have C1 := Lib.hid (B1'.out.then_ hbel)
  clear x0 x1 x2 y0 y1 y2 hbel B0 B1' D QA QB
  dsimp only at C0 C1 D4 ⊢
  generalize grow (redrawn W3 dq) osq = W4 at *
  have c0 := C0.out.c3
  have c1 := C1.out.c3
  have f0 := C0.out.fz
  have f1 := C1.out.fz
  have A0 := Lib.hid ((C0.out.put ka na ta).past (g' := w.heap.size + 1) (by omega) (.int .i64 kb) (.int .i64 nb) (.string tb))
  have E0 := Lib.hid ((C1.out.past (g' := w.heap.size) (by omega) (.int .i64 ka) (.int .i64 na) (.string ta)).put kb nb tb)
  have D0 := Lib.hid (below_put (below_put D4.out (g := w.heap.size) (Nat.le_refl _) (.int .i64 ka) (.int .i64 na) (.string ta)) (g := w.heap.size + 1) (by omega) (.int .i64 kb) (.int .i64 nb) (.string tb))
  go_wp2_with fail
  clear c0 c1 f0 f1 C0 C1 D4
  generalize ((((((W4.setCell ⟨w.heap.size, 0, none⟩ (.int .i64 ka)).setCell ⟨w.heap.size, 1, none⟩ (.int .i64 na)).setCell ⟨w.heap.size, 2, none⟩ (.string ta)).setCell ⟨w.heap.size + 1, 0, none⟩ (.int .i64 kb)).setCell ⟨w.heap.size + 1, 1, none⟩ (.int .i64 nb)).setCell ⟨w.heap.size + 1, 2, none⟩ (.string tb)) = W5 at *
  have B0 := Lib.hid E0.out
  clear E0
  have c0 := A0.out.c3
  have c1 := B0.out.c3
  cases h1 : decide (Vl.right ⟨ka, na, ta⟩) with
  | false =>
    have R1 := Lib.hid h1
    clear h1
    go_wp2_with fail
    refine (right_is R1.out OKA.out.2.2 _).mono ?_
    rintro e v1 ⟨rfl, hb⟩
    have D1 := Lib.hid (below_step D0.out hb)
    have A1 := Lib.hid (A0.out.then_ hb)
    have B1 := Lib.hid (B0.out.then_ hb)
    clear hb c0 c1 A0 B0 D0
    have c0 := A1.out.c3
    have c1 := B1.out.c3
    go_wp2_with fail
    refine (vruns_any _ (HT.out _ D1.out)).mono ?_
    rintro e w9 ⟨rfl, hb⟩
    have D9 := Lib.hid (below_step D1.out hb)
    clear hb
    go_wp2_with fail
    go_ret
    exact ⟨rfl, D9.out⟩
  | true =>
    have R1 := Lib.hid h1
    clear h1
    cases h2 : decide (Vl.right ⟨kb, nb, tb⟩) with
    | false =>
      have R2 := Lib.hid h2
      clear h2
      go_wp2_with fail
      refine (right_is R1.out OKA.out.2.2 _).mono ?_
      rintro e v1 ⟨rfl, hb⟩
      have D1 := Lib.hid (below_step D0.out hb)
      have A1 := Lib.hid (A0.out.then_ hb)
      have B1 := Lib.hid (B0.out.then_ hb)
      clear hb c0 c1 A0 B0 D0
      have c0 := A1.out.c3
      have c1 := B1.out.c3
      go_wp2_with fail
      refine (right_is R2.out OKB.out.2.2 _).mono ?_
      rintro e v2 ⟨rfl, hb⟩
      have D2 := Lib.hid (below_step D1.out hb)
      have A2 := Lib.hid (A1.out.then_ hb)
      have B2 := Lib.hid (B1.out.then_ hb)
      clear hb c0 c1 A1 B1 D1
      have c0 := A2.out.c3
      have c1 := B2.out.c3
      go_wp2_with fail
      refine (vruns_any _ (HT.out _ D2.out)).mono ?_
      rintro e w9 ⟨rfl, hb⟩
      have D9 := Lib.hid (below_step D2.out hb)
      clear hb
      go_wp2_with fail
      go_ret
      exact ⟨rfl, D9.out⟩
    | true =>
      have R2 := Lib.hid h2
      clear h2
      by_cases hk : ka = kb
      · subst hk
        go_wp2_with fail
        refine (right_is R1.out OKA.out.2.2 _).mono ?_
        rintro e v1 ⟨rfl, hb⟩
        have D1 := Lib.hid (below_step D0.out hb)
        have A1 := Lib.hid (A0.out.then_ hb)
        have B1 := Lib.hid (B0.out.then_ hb)
        clear hb c0 c1 A0 B0 D0
        have c0 := A1.out.c3
        have c1 := B1.out.c3
        go_wp2_with fail
        refine (right_is R2.out OKB.out.2.2 _).mono ?_
        rintro e v2 ⟨rfl, hb⟩
        have D2 := Lib.hid (below_step D1.out hb)
        have A2 := Lib.hid (A1.out.then_ hb)
        have B2 := Lib.hid (B1.out.then_ hb)
        clear hb c0 c1 A1 B1 D1
        have c0 := A2.out.c3
        have c1 := B2.out.c3
        go_wp2_with fail
        refine (vruns_any _ (HT.out _ D2.out)).mono ?_
        rintro e w9 ⟨rfl, hb⟩
        have D9 := Lib.hid (below_step D2.out hb)
        clear hb
        go_wp2_with fail
        go_ret
        exact ⟨rfl, D9.out⟩
      · have hne : (⟨ka, na, ta⟩ : Vl) ≠ ⟨kb, nb, tb⟩ := fun h => hk (by injection h)
        have L1 := Lib.hid (less_type (of_decide_eq_true R1.out) (of_decide_eq_true R2.out) (.inl hk))
        have L2 := Lib.hid (less_type (of_decide_eq_true R2.out) (of_decide_eq_true R1.out) (.inl (Ne.symm hk)))
        have hke : (ka == kb) = false := by rw [beq_eq_false_iff_ne]; exact hk
        have hve : ∀ W, _ = Result.ok false W := fun W => (val_eq ka na kb nb ta tb W).trans (by rw [veq_false hne])
        have BG1 : Hid (bagB [⟨ka, na, ta⟩, ⟨kb, nb, tb⟩] = false) := bag_bad (k := 1) rfl rfl (.inr (Ne.symm hk))
        have BG2 := Lib.hid (bag_same (of_decide_eq_true R1.out))
        have HS1 := Lib.hid (has_one hne)
        clear hne hk
        go_wp2_with fail
        refine (right_is R1.out OKA.out.2.2 _).mono ?_
        rintro e v1 ⟨rfl, hb⟩
        have D1 := Lib.hid (below_step D0.out hb)
        have A1 := Lib.hid (A0.out.then_ hb)
        have B1 := Lib.hid (B0.out.then_ hb)
        clear hb c0 c1 A0 B0 D0
        have c0 := A1.out.c3
        have c1 := B1.out.c3
        go_wp2_with fail
        refine (right_is R2.out OKB.out.2.2 _).mono ?_
        rintro e v2 ⟨rfl, hb⟩
        have D2 := Lib.hid (below_step D1.out hb)
        have A2 := Lib.hid (A1.out.then_ hb)
        have B2 := Lib.hid (B1.out.then_ hb)
        clear hb c0 c1 A1 B1 D1
        have c0 := A2.out.c3
        have c1 := B2.out.c3
        go_wp2_with fail
        refine (less_at L1.out (by have := HSA.out; unfold maxLen; omega) (by have := HSB.out; unfold maxLen; omega) _).mono ?_
        rintro e v3 ⟨rfl, hb⟩
        have D3 := Lib.hid (below_step D2.out hb)
        have A3 := Lib.hid (A2.out.then_ hb)
        have B3 := Lib.hid (B2.out.then_ hb)
        clear hb c0 c1 A2 B2 D2
        have c0 := A3.out.c3
        have c1 := B3.out.c3
        go_wp2_with fail
        refine (less_at L2.out (by have := HSB.out; unfold maxLen; omega) (by have := HSA.out; unfold maxLen; omega) _).mono ?_
        rintro e v4 ⟨rfl, hb⟩
        have D4 := Lib.hid (below_step D3.out hb)
        have A4 := Lib.hid (A3.out.then_ hb)
        have B4 := Lib.hid (B3.out.then_ hb)
        clear hb c0 c1 A3 B3 D3
        have c0 := A4.out.c3
        have c1 := B4.out.c3
        go_wp2_with fail
        refine (bag_is BG1.out (Vs.lit2 v4 ⟨ka, na, ta⟩ ⟨kb, nb, tb⟩ OKA.out OKB.out) (by rw [size_al]; omega)).mono ?_
        rintro e v5 ⟨rfl, hb⟩
        have D5 := Lib.hid (below_step D4.out (Below.lit hb))
        have A5 := Lib.hid (A4.out.then_ (Below.lit hb))
        have B5 := Lib.hid (B4.out.then_ (Below.lit hb))
        clear hb c0 c1 A4 B4 D4
        have c0 := A5.out.c3
        have c1 := B5.out.c3
        go_wp2_with fail
        refine (bag_is BG2.out (Vs.lit2 v5 ⟨ka, na, ta⟩ ⟨ka, na, ta⟩ OKA.out OKA.out) (by rw [size_al]; omega)).mono ?_
        rintro e v6 ⟨rfl, hb⟩
        have D6 := Lib.hid (below_step D5.out (Below.lit hb))
        have A6 := Lib.hid (A5.out.then_ (Below.lit hb))
        have B6 := Lib.hid (B5.out.then_ (Below.lit hb))
        clear hb c0 c1 A5 B5 D5
        have c0 := A6.out.c3
        have c1 := B6.out.c3
        have hlt6 : w.heap.size + 1 < v6.heap.size := B6.out.lt
        go_wp2_with fail
        refine (has_is HS1.out (Vs.lit1 v6 ⟨ka, na, ta⟩ OKA.out) (by rw [size_al]; omega)).mono ?_
        rintro e v7 ⟨rfl, hb⟩
        have D7 := Lib.hid (below_step D6.out (Below.lit hb))
        have A7 := Lib.hid (A6.out.then_ (Below.lit hb))
        have B7 := Lib.hid (B6.out.then_ (Below.lit hb))
        clear hb c0 c1 A6 B6 D6
        have c0 := A7.out.c3
        have c1 := B7.out.c3
        go_wp2_with fail
        refine (vruns_any _ (HT.out _ D7.out)).mono ?_
        rintro e w9 ⟨rfl, hb⟩
        have D9 := Lib.hid (below_step D7.out hb)
        clear hb
        go_wp2_with fail
        go_ret
        exact ⟨rfl, D9.out⟩
end Go.Proofs.YtcelkfahkodlhaaDoor
