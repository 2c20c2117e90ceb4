/- ValueBack: the walk. -/
import Derived.Test.YtcelkfahkodlhaaDoorVThree
import Derived.Test.YtcelkfahkodlhaaDoorVBackMath
import Derived.Test.YtcelkfahkodlhaaDoorVPut
import Derived.Test.YtcelkfahkodlhaaDoorVGet
import Derived.Test.YtcelkfahkodlhaaDoorOpenVal
import Derived.Test.YtcelkfahkodlhaaDoorSame
import Derived.Deep.RegionHeld3
namespace Go.Proofs.YtcelkfahkodlhaaDoor
set_option linter.unusedVariables false
open Go.RowKit Go.Sort

theorem back_right_is {k n : Int} {s : ByteArray} {b : Bool} (hb : decide (Vl.right ⟨k, n, s⟩) = b) (hs : s.size ≤ maxLen) (w : World) :
    Calls Tryd.prog 23 #[.agg #[.int .i64 k, .int .i64 n, .string s]] w fun e w' => e = .returned (.bool b) ∧ Below w.heap.size w w' := by
  have := right_any k n s hs w
  rwa [show decide (RightV k n s.data.toList) = b from hb] at this
theorem vput_nil {k m : Int} {s : ByteArray} (hk : -9223372036854775808 ≤ k ∧ k ≤ 9223372036854775807) (hm : -9223372036854775808 ≤ m ∧ m ≤ 9223372036854775807) (hs : s.size ≤ 80) (w : World) :
    Calls Tryd.prog 19 #[.slice none 0 0, .agg #[.int .i64 k, .int .i64 m, .string s]] w fun e w' => ∃ A' n' c', e = .returned (.slice A' n' c') ∧ w'.ownsRow w.heap.size 5 1 (.slice A' n' c') n' (bv (putB ⟨k, m, s⟩)) ∧ Below w.heap.size w w' :=
  vput_any (l := []) (Sl.nil_ w 0) (by omega) (by omega) hk hm (by omega)
theorem putB_len {k m : Int} {s : ByteArray} (hk : -9223372036854775808 ≤ k ∧ k ≤ 9223372036854775807) (hm : -9223372036854775808 ≤ m ∧ m ≤ 9223372036854775807) (hs : s.size ≤ 80) : (putB ⟨k, m, s⟩).length ≤ 200 := by
  have h1 := numB_len hk.1 hk.2
  have h2 := numB_len hm.1 hm.2
  have h3 := data_len s
  cases ht : inT k
  · rw [put_num ht, List.length_append]; omega
  · rw [put_text ht, List.length_append]
    have h4 := numB_len (n := (s.data.toList.length : Int)) (by omega) (by omega)
    unfold textB
    rw [List.length_append]; omega
theorem same_val {w : World} {B B' n c n' c' : Nat} {A A' : Option Addr} {l m : List UInt8} {b : Bool} (hb : decide (l = m) = b) (h : Sl w B A n c (bv l)) (h' : Sl w B' A' n' c' (bv m)) :
    Calls Tryd.prog 18 #[.slice A n c, .slice A' n' c'] w fun e w' => e = .returned (.bool b) ∧ Below w.heap.size w w' :=
  (same_any h h').mono fun _ _ hh => ⟨by rw [hh.1, hb], by obtain ⟨k, hk⟩ := hh.2; rw [hk]; exact below_drewN (Below.refl _ _) k⟩

/-- Three values in their blocks. -/
def Three (w : World) (g1 g2 g3 : Nat) (k1 n1 : Int) (s1 : ByteArray) (k2 n2 : Int) (s2 : ByteArray) (k3 n3 : Int) (s3 : ByteArray) : Prop := Bx w g1 k1 n1 s1 ∧ Bx w g2 k2 n2 s2 ∧ Bx w g3 k3 n3 s3
section
variable {w w' : World} {g1 g2 g3 : Nat} {k1 n1 : Int} {s1 : ByteArray} {k2 n2 : Int} {s2 : ByteArray} {k3 n3 : Int} {s3 : ByteArray}
theorem Three.then_ (h : Three w g1 g2 g3 k1 n1 s1 k2 n2 s2 k3 n3 s3) (hb : Below w.heap.size w w') : Three w' g1 g2 g3 k1 n1 s1 k2 n2 s2 k3 n3 s3 := ⟨h.1.then_ hb, h.2.1.then_ hb, h.2.2.then_ hb⟩
theorem Three.c (h : Three w g1 g2 g3 k1 n1 s1 k2 n2 s2 k3 n3 s3) : w.cell? ⟨g1, 0, none⟩ = some (.int .i64 k1) ∧ w.cell? ⟨g1, 1, none⟩ = some (.int .i64 n1) ∧ w.cell? ⟨g1, 2, none⟩ = some (.string s1) ∧ w.cell? ⟨g2, 0, none⟩ = some (.int .i64 k2) ∧ w.cell? ⟨g2, 1, none⟩ = some (.int .i64 n2) ∧ w.cell? ⟨g2, 2, none⟩ = some (.string s2) ∧
    w.cell? ⟨g3, 0, none⟩ = some (.int .i64 k3) ∧ w.cell? ⟨g3, 1, none⟩ = some (.int .i64 n3) ∧ w.cell? ⟨g3, 2, none⟩ = some (.string s3) := by
  obtain ⟨a1, a2, a3⟩ := h.1.c3
  obtain ⟨b1, b2, b3⟩ := h.2.1.c3
  obtain ⟨c1, c2, c3⟩ := h.2.2.c3
  exact ⟨a1, a2, a3, b1, b2, b3, c1, c2, c3⟩
end

set_option maxHeartbeats 6400000 in
set_option maxRecDepth 100000 in
theorem valueBack_walk (w : World) (a : Vl) (ha : a.ok) (b : Vl) (hb : b.ok) (htab : Tab w) :
    Calls Tryd.prog 6 #[a.val, b.val] w fun e w' => e = .returned (.bool true) ∧ Below w.heap.size w w' := by
  have ht : ∀ w', Below w.heap.size w w' → Tab w' := fun w' hb => htab.then_ hb
  have HT := Lib.hid ht
  clear ht htab
  obtain ⟨ka, na, sa⟩ := a
  obtain ⟨kb, nb, sb⟩ := b
  obtain ⟨ta, hta, hsa⟩ : ∃ ta, fewV ⟨ka, na, sa⟩ = ⟨ka, na, ta⟩ ∧ ta.size ≤ 80 := ⟨_, rfl, fewV_size _⟩
  obtain ⟨tb, htb, hsb⟩ : ∃ tb, fewV ⟨kb, nb, sb⟩ = ⟨kb, nb, tb⟩ ∧ tb.size ≤ 80 := ⟨_, rfl, fewV_size _⟩
  have QA := Lib.hid (fun W d os => few_grown ka na sa ta hta ha.2.2 W d os)
  have QB := Lib.hid (fun W d os => few_grown kb nb sb tb htb hb.2.2 W d os)
  have HSA := Lib.hid hsa
  have HSB := Lib.hid hsb
  have OKA : Hid (Vl.ok ⟨ka, na, ta⟩) := ⟨ha.1, ha.2.1, Nat.le_trans hsa (by simp [maxLen])⟩
  have OKB : Hid (Vl.ok ⟨kb, nb, tb⟩) := ⟨hb.1, hb.2.1, Nat.le_trans hsb (by simp [maxLen])⟩
  clear hta htb ha hb hsa hsb
  show Calls _ _ #[.agg #[.int .i64 ka, .int .i64 na, .string sa], .agg #[.int .i64 kb, .int .i64 nb, .string sb]] w _
  go_enter Tryd.func6, Tryd.ntmps6
  go_wp2_with fail
  have B0 := Lib.hid ((Bx.made w ka na sa).alloc (.cells #[.int .i64 kb, .int .i64 nb, .string sb] 26))
  have B1 := Lib.hid (Bx.made (w.alloc (.cells #[.int .i64 ka, .int .i64 na, .string sa] 26)) kb nb sb)
  have D := Lib.hid (((Below.refl w.heap.size w).alloc (Nat.le_refl _) (.cells #[.int .i64 ka, .int .i64 na, .string sa] 26)).alloc (by rw [size_al]; omega) (.cells #[.int .i64 kb, .int .i64 nb, .string sb] 26))
  generalize (w.alloc (.cells #[.int .i64 ka, .int .i64 na, .string sa] 26)).alloc (.cells #[.int .i64 kb, .int .i64 nb, .string sb] 26) = W3 at *
  have B1' : Hid (Bx W3 (w.heap.size + 1) kb nb sb) := by have := B1.out; rw [size_al] at this; exact this
  clear B1
  obtain ⟨x0, x1, x2⟩ := B0.out.grown
  obtain ⟨y0, y1, y2⟩ := B1'.out.grown
  refine wp_region_below_tail 4 (by kernel_rfl) (by kernel_rfl) ?_
  simp only [List.take_succ_cons, List.take_zero, List.drop_succ_cons, List.drop_zero]
  repeat (go_big_quiet_step ((first | (go_at_call 14; with_reducible exact QA.out _ _ _) | (go_at_call 14; with_reducible exact QB.out _ _ _))))
  refine wpQuiet_nil ?_
  intro _ hw'
  obtain ⟨⟨dq, osq⟩, hw''⟩ := hw'
  subst hw''
  have hbel := below_regrown W3 dq osq
  have D4 := Lib.hid (below_step D.out hbel)
  have C0 := Lib.hid (B0.out.then_ hbel)
  have C1 := Lib.hid (B1'.out.then_ hbel)
  clear x0 x1 x2 y0 y1 y2 hbel B0 B1' D QA QB
  dsimp only at C0 C1 D4 ⊢
  generalize grow (redrawn W3 dq) osq = W4 at *
  have c0 := C0.out.c3
  have c1 := C1.out.c3
  have f0 := C0.out.fz
  have f1 := C1.out.fz
  have A0 := Lib.hid ((C0.out.put ka na ta).past (g' := w.heap.size + 1) (by omega) (.int .i64 kb) (.int .i64 nb) (.string tb))
  have E0 := Lib.hid ((C1.out.past (g' := w.heap.size) (by omega) (.int .i64 ka) (.int .i64 na) (.string ta)).put kb nb tb)
  have D0 := Lib.hid (below_put (below_put D4.out (g := w.heap.size) (Nat.le_refl _) (.int .i64 ka) (.int .i64 na) (.string ta)) (g := w.heap.size + 1) (by omega) (.int .i64 kb) (.int .i64 nb) (.string tb))
  go_wp2_with fail
  clear c0 c1 f0 f1 C0 C1 D4
  generalize ((((((W4.setCell ⟨w.heap.size, 0, none⟩ (.int .i64 ka)).setCell ⟨w.heap.size, 1, none⟩ (.int .i64 na)).setCell ⟨w.heap.size, 2, none⟩ (.string ta)).setCell ⟨w.heap.size + 1, 0, none⟩ (.int .i64 kb)).setCell ⟨w.heap.size + 1, 1, none⟩ (.int .i64 nb)).setCell ⟨w.heap.size + 1, 2, none⟩ (.string tb)) = W5 at *
  have B0 := Lib.hid E0.out
  clear E0
  have c0 := A0.out.c3
  have c1 := B0.out.c3
  cases h1 : decide (Vl.right ⟨ka, na, ta⟩) with
  | false =>
    have R1 := Lib.hid h1
    have hsw := show_wrong (of_decide_eq_false h1)
    have HSW := Lib.hid hsw
    clear h1 hsw
    go_wp2_with fail
    refine (back_right_is R1.out OKA.out.2.2 _).mono ?_
    rintro e v1 ⟨rfl, hb⟩
    have D1 := Lib.hid (below_step D0.out hb)
    have A1 := Lib.hid (A0.out.then_ hb)
    have B1 := Lib.hid (B0.out.then_ hb)
    clear hb c0 c1 A0 B0 D0
    have c0 := A1.out.c3
    have c1 := B1.out.c3
    go_wp2_with fail
    obtain ⟨x0, x1, x2⟩ := A1.out.grown
    have QT := Lib.hid (fun d os => Calls.regrown_of (text_at (k := ka) (n := na) (s := ta) HSW.out OKA.out.2.1 (by have := HSA.out; omega) (HT.out _ (below_step D1.out (below_regrown v1 d os)))))
    have QG := Lib.hid (fun d os => Calls.regrown_of (back_right_is R1.out OKA.out.2.2 (grow (redrawn v1 d) os)))
    have QR := Lib.hid (fun d os => Calls.regrown_of (vruns_any _ (HT.out _ (below_step D1.out (below_regrown v1 d os)))))
    refine wp_region_quiet_below (by kernel_rfl) (by kernel_rfl) ?_
    repeat (go_big_quiet_step ((first | (go_at_call 13; exact QT.out _ _) | (go_at_call 23; exact QG.out _ _) | (go_at_call 3; exact QR.out _ _))))
    refine wpQuiet_nil ?_
    intro _ hw'
    obtain ⟨⟨dq, osq⟩, hw''⟩ := hw'
    subst hw''
    go_wp2_with fail
    go_ret
    exact ⟨rfl, below_step D1.out (below_regrown v1 dq osq)⟩
  | true =>
    have R1 := Lib.hid h1
    have hshow := show_ne (of_decide_eq_true h1)
    clear h1
    generalize hla : showB ⟨ka, na, ta⟩ = la at *
    have HLA := Lib.hid hla
    have HNE := Lib.hid hshow
    have hem : la.isEmpty = false := by cases la with | nil => exact absurd rfl hshow | cons => rfl
    have heq : (la == []) = false := by cases la with | nil => exact absurd rfl hshow | cons => rfl
    clear hla hshow
    cases h2 : decide (Vl.right ⟨kb, nb, tb⟩) with
    | false =>
      have R2 := Lib.hid h2
      clear h2
      go_wp2_with fail
      refine (back_right_is R1.out OKA.out.2.2 _).mono ?_
      rintro e v1 ⟨rfl, hb⟩
      have D1 := Lib.hid (below_step D0.out hb)
      have A1 := Lib.hid (A0.out.then_ hb)
      have B1 := Lib.hid (B0.out.then_ hb)
      clear hb c0 c1 A0 B0 D0
      have c0 := A1.out.c3
      have c1 := B1.out.c3
      go_wp2_with fail
      refine (back_right_is R2.out OKB.out.2.2 _).mono ?_
      rintro e v2 ⟨rfl, hb⟩
      have D2 := Lib.hid (below_step D1.out hb)
      have A2 := Lib.hid (A1.out.then_ hb)
      have B2 := Lib.hid (B1.out.then_ hb)
      clear hb c0 c1 A1 B1 D1
      have c0 := A2.out.c3
      have c1 := B2.out.c3
      go_wp2_with fail
      obtain ⟨x0, x1, x2⟩ := A2.out.grown
      have QT := Lib.hid (fun d os => Calls.regrown_of (text_at (k := ka) (n := na) (s := ta) HLA.out OKA.out.2.1 (by have := HSA.out; omega) (HT.out _ (below_step D2.out (below_regrown v2 d os)))))
      have QG := Lib.hid (fun d os => Calls.regrown_of (back_right_is R1.out OKA.out.2.2 (grow (redrawn v2 d) os)))
      have QR := Lib.hid (fun d os => Calls.regrown_of (vruns_any _ (HT.out _ (below_step D2.out (below_regrown v2 d os)))))
      refine wp_region_quiet_below (by kernel_rfl) (by kernel_rfl) ?_
      repeat (go_big_quiet_step ((first | (go_at_call 13; exact QT.out _ _) | (go_at_call 23; exact QG.out _ _) | (go_at_call 3; exact QR.out _ _))))
      refine wpQuiet_nil ?_
      intro _ hw'
      obtain ⟨⟨dq, osq⟩, hw''⟩ := hw'
      subst hw''
      go_wp2_with fail
      go_ret
      exact ⟨rfl, below_step D2.out (below_regrown v2 dq osq)⟩
    | true =>
      have R2 := Lib.hid h2
      clear h2 hem heq
      go_wp2_with fail
      refine (back_right_is R1.out OKA.out.2.2 _).mono ?_
      rintro e v1 ⟨rfl, hb⟩
      have D1 := Lib.hid (below_step D0.out hb)
      have A1 := Lib.hid (A0.out.then_ hb)
      have B1 := Lib.hid (B0.out.then_ hb)
      clear hb c0 c1 A0 B0 D0
      have c0 := A1.out.c3
      have c1 := B1.out.c3
      go_wp2_with fail
      refine (back_right_is R2.out OKB.out.2.2 _).mono ?_
      rintro e v2 ⟨rfl, hb⟩
      have D2 := Lib.hid (below_step D1.out hb)
      have A2 := Lib.hid (A1.out.then_ hb)
      have B2 := Lib.hid (B1.out.then_ hb)
      clear hb c0 c1 A1 B1 D1
      have c0 := A2.out.c3
      have c1 := B2.out.c3
      go_wp2_with fail
      refine (vput_nil OKA.out.1 OKA.out.2.1 HSA.out v2).mono ?_
      rintro e v3 ⟨P3, n3, c3, rfl, hown, hb⟩
      have hn3 : n3 ≤ 200 := by have := hown.1; have h := putB_len OKA.out.1 OKA.out.2.1 HSA.out; rw [bv_len] at this; omega
      have S3 := Lib.hid (Sl.of_own hown)
      have D3 := Lib.hid (below_step D2.out hb)
      have A3 := Lib.hid (A2.out.then_ hb)
      have B3 := Lib.hid (B2.out.then_ hb)
      clear hb hown c0 c1 A2 B2
      go_wp2_with fail
      refine (read_any S3.out (by omega)).mono ?_
      rintro e v4 ⟨r, rfl, hr4, hb⟩
      have R4 := Lib.hid hr4
      have HBR : Hid (v3.heap.size ≤ r) := hr4.base
      have D4 := Lib.hid (below_step D3.out hb)
      have A4 := Lib.hid (A3.out.then_ hb)
      have B4 := Lib.hid (B3.out.then_ hb)
      have HAL : Hid (w.heap.size + 1 < v3.heap.size) := B3.out.lt
      clear hb hr4 A3 B3
      go_wp2_with fail
      have hg := vget_any R4.out
      rw [getV_put (of_decide_eq_true R1.out) OKA.out.2.1, getF_put (of_decide_eq_true R1.out) OKA.out.2.1] at hg
      dsimp only at hg
      refine hg.mono ?_
      clear hg
      rintro e v5 ⟨rfl, hr5, ho5⟩
      have hle := ho5.le
      have A5 := Lib.hid ((A4.out.only ho5 (by have h1 := HAL.out; have h2 := HBR.out; omega)).alloc (.cells #[.int .i64 ka, .int .i64 na, .string ta] 26))
      have B5 := Lib.hid ((B4.out.only ho5 (by have h1 := HAL.out; have h2 := HBR.out; omega)).alloc (.cells #[.int .i64 ka, .int .i64 na, .string ta] 26))
      have X5 := Lib.hid (Bx.made v5 ka na ta)
      have R5 := Lib.hid (hr5.alloc (.cells #[.int .i64 ka, .int .i64 na, .string ta] 26))
      have D5' := Lib.hid (only_step D4.out ho5 (by have h1 := HAL.out; have h2 := HBR.out; omega))
      have D5 := Lib.hid (D5'.out.alloc D5'.out.size (.cells #[.int .i64 ka, .int .i64 na, .string ta] 26))
      clear hr5 ho5 hle A4 B4 D4
      go_wp2_with fail
      generalize v5.alloc (.cells #[.int .i64 ka, .int .i64 na, .string ta] 26) = v6 at *
      generalize v5.heap.size = gx at *
      have T6 : Hid (Three v6 w.heap.size (w.heap.size + 1) gx ka na ta kb nb tb ka na ta) := ⟨A5.out, B5.out, X5.out⟩
      have CE : Hid (∀ W : World, (∃ j, W = v6.drewN j) → Calls Tryd.prog 36 #[.pointer (some ⟨r, 0, none⟩)] W fun e w' => e = .returned (.int .i64 0) ∧ Below v6.heap.size v6 w') := fun W hW => by
        obtain ⟨j, rfl⟩ := hW
        refine (end_any (R5.out.drewN j)).mono fun e w' hh => ⟨by rw [hh.1, endOf_all], ?_⟩
        obtain ⟨k, hk⟩ := hh.2
        rw [hk]
        exact below_drewN (below_drewN (Below.refl _ _) j) k
      have hveA : ∀ W, _ = Result.ok true W := fun W => (val_eq ka na ka na ta ta W).trans (by rw [veq_true rfl])
      have PA := Lib.hid (fun W => vput_nil (s := ta) OKA.out.1 OKA.out.2.1 HSA.out W)
      have PB := Lib.hid (fun W => vput_nil (s := tb) OKB.out.1 OKB.out.2.1 HSB.out W)
      generalize hlb : showB ⟨kb, nb, tb⟩ = lb at *
      have HLB := Lib.hid hlb
      have TA := Lib.hid (fun W (h : Tab W) => text_at (k := ka) (n := na) (s := ta) HLA.out OKA.out.2.1 (by have := HSA.out; omega) h)
      have TB := Lib.hid (fun W (h : Tab W) => text_at (k := kb) (n := nb) (s := tb) HLB.out OKB.out.2.1 (by have := HSB.out; omega) h)
      have RU := Lib.hid (fun W (h : Tab W) => vruns_any W h)
      clear hlb
      cases hab : veq ⟨ka, na, ta⟩ ⟨kb, nb, tb⟩ with
      | false =>
        have hne : (⟨ka, na, ta⟩ : Vl) ≠ ⟨kb, nb, tb⟩ := fun h => by rw [veq_true h] at hab; cases hab
        have hveB : ∀ W, _ = Result.ok false W := fun W => (val_eq ka na kb nb ta tb W).trans (by rw [hab])
        have SV := Lib.hid (decide_eq_false (fun h => hne (putB_inj (of_decide_eq_true R1.out) (of_decide_eq_true R2.out) OKA.out.2.1 OKB.out.2.1 h)))
        have htx : (la == lb) = false := by rw [beq_eq_false_iff_ne]; intro h; exact hne (show_inj (of_decide_eq_true R1.out) (of_decide_eq_true R2.out) (by rw [HLA.out, HLB.out, h]))
        clear hne hab
        go_region_held (fun w' => w'.cell? ⟨w.heap.size, 0, none⟩ = some (.int .i64 ka) ∧ w'.cell? ⟨w.heap.size, 1, none⟩ = some (.int .i64 na) ∧ w'.cell? ⟨w.heap.size, 2, none⟩ = some (.string ta) ∧ w'.cell? ⟨w.heap.size + 1, 0, none⟩ = some (.int .i64 kb) ∧ w'.cell? ⟨w.heap.size + 1, 1, none⟩ = some (.int .i64 nb) ∧ w'.cell? ⟨w.heap.size + 1, 2, none⟩ = some (.string tb) ∧ w'.cell? ⟨gx, 0, none⟩ = some (.int .i64 ka) ∧ w'.cell? ⟨gx, 1, none⟩ = some (.int .i64 na) ∧ w'.cell? ⟨gx, 2, none⟩ = some (.string ta)) (first | exact Three.c (((((((T6.out.then_ hbe).then_ hba).then_ hbb).then_ hbs).then_ hbta).then_ hbtb).then_ hbr) | exact Three.c ((((((T6.out.then_ hbe).then_ hba).then_ hbb).then_ hbs).then_ hbta).then_ hbtb) | exact Three.c (((((T6.out.then_ hbe).then_ hba).then_ hbb).then_ hbs).then_ hbta) | exact Three.c ((((T6.out.then_ hbe).then_ hba).then_ hbb).then_ hbs) | exact Three.c (((T6.out.then_ hbe).then_ hba).then_ hbb) | exact Three.c ((T6.out.then_ hbe).then_ hba) | exact Three.c (T6.out.then_ hbe) | exact Three.c T6.out)
          ((first | (go_at_call 36; refine (CE.out _ ?_).mono ?_; (exact ⟨1, rfl⟩); rintro e we ⟨rfl, hbe⟩) | (go_at_call 19; with_reducible refine (PA.out _).mono ?_; rintro e wa ⟨Aa, na', ca, rfl, howna, hba⟩) | (go_at_call 19; with_reducible refine (PB.out _).mono ?_; rintro e wb ⟨Ab, nb', cb, rfl, hownb, hbb⟩) | (go_at_call 18; refine (same_val SV.out ((Sl.of_own howna).then_ hbb) (Sl.of_own hownb)).mono ?_; rintro e ws ⟨rfl, hbs⟩) | (go_at_call 13; with_reducible refine (TA.out _ (HT.out _ (below_step (below_step (below_step (below_step D5.out hbe) hba) hbb) hbs))).mono ?_; rintro e wta ⟨rfl, hbta⟩) | (go_at_call 13; with_reducible refine (TB.out _ (HT.out _ (below_step (below_step (below_step (below_step (below_step D5.out hbe) hba) hbb) hbs) hbta))).mono ?_; rintro e wtb ⟨rfl, hbtb⟩) | (go_at_call 3; refine (RU.out _ (HT.out _ (below_step (below_step (below_step (below_step (below_step (below_step D5.out hbe) hba) hbb) hbs) hbta) hbtb))).mono ?_; rintro e wr ⟨rfl, hbr⟩)))
        all_goals
          go_wp2_with fail
          go_ret
          exact ⟨rfl, (below_step (below_step (below_step (below_step (below_step (below_step (below_step D5.out hbe) hba) hbb) hbs) hbta) hbtb) hbr)⟩
      | true =>
        have hne := veq_iff.1 hab
        have hveB : ∀ W, _ = Result.ok true W := fun W => (val_eq ka na kb nb ta tb W).trans (by rw [hab])
        have SV := Lib.hid (decide_eq_true (congrArg putB hne))
        have htx : (la == lb) = true := by rw [beq_iff_eq, ← HLA.out, ← HLB.out, hne]
        clear hne hab
        go_region_held (fun w' => w'.cell? ⟨w.heap.size, 0, none⟩ = some (.int .i64 ka) ∧ w'.cell? ⟨w.heap.size, 1, none⟩ = some (.int .i64 na) ∧ w'.cell? ⟨w.heap.size, 2, none⟩ = some (.string ta) ∧ w'.cell? ⟨w.heap.size + 1, 0, none⟩ = some (.int .i64 kb) ∧ w'.cell? ⟨w.heap.size + 1, 1, none⟩ = some (.int .i64 nb) ∧ w'.cell? ⟨w.heap.size + 1, 2, none⟩ = some (.string tb) ∧ w'.cell? ⟨gx, 0, none⟩ = some (.int .i64 ka) ∧ w'.cell? ⟨gx, 1, none⟩ = some (.int .i64 na) ∧ w'.cell? ⟨gx, 2, none⟩ = some (.string ta)) (first | exact Three.c (((((((T6.out.then_ hbe).then_ hba).then_ hbb).then_ hbs).then_ hbta).then_ hbtb).then_ hbr) | exact Three.c ((((((T6.out.then_ hbe).then_ hba).then_ hbb).then_ hbs).then_ hbta).then_ hbtb) | exact Three.c (((((T6.out.then_ hbe).then_ hba).then_ hbb).then_ hbs).then_ hbta) | exact Three.c ((((T6.out.then_ hbe).then_ hba).then_ hbb).then_ hbs) | exact Three.c (((T6.out.then_ hbe).then_ hba).then_ hbb) | exact Three.c ((T6.out.then_ hbe).then_ hba) | exact Three.c (T6.out.then_ hbe) | exact Three.c T6.out)
          ((first | (go_at_call 36; refine (CE.out _ ?_).mono ?_; (exact ⟨1, rfl⟩); rintro e we ⟨rfl, hbe⟩) | (go_at_call 19; with_reducible refine (PA.out _).mono ?_; rintro e wa ⟨Aa, na', ca, rfl, howna, hba⟩) | (go_at_call 19; with_reducible refine (PB.out _).mono ?_; rintro e wb ⟨Ab, nb', cb, rfl, hownb, hbb⟩) | (go_at_call 18; refine (same_val SV.out ((Sl.of_own howna).then_ hbb) (Sl.of_own hownb)).mono ?_; rintro e ws ⟨rfl, hbs⟩) | (go_at_call 13; with_reducible refine (TA.out _ (HT.out _ (below_step (below_step (below_step (below_step D5.out hbe) hba) hbb) hbs))).mono ?_; rintro e wta ⟨rfl, hbta⟩) | (go_at_call 13; with_reducible refine (TB.out _ (HT.out _ (below_step (below_step (below_step (below_step (below_step D5.out hbe) hba) hbb) hbs) hbta))).mono ?_; rintro e wtb ⟨rfl, hbtb⟩) | (go_at_call 3; refine (RU.out _ (HT.out _ (below_step (below_step (below_step (below_step (below_step (below_step D5.out hbe) hba) hbb) hbs) hbta) hbtb))).mono ?_; rintro e wr ⟨rfl, hbr⟩)))
        all_goals
          go_wp2_with fail
          go_ret
          exact ⟨rfl, (below_step (below_step (below_step (below_step (below_step (below_step (below_step D5.out hbe) hba) hbb) hbs) hbta) hbtb) hbr)⟩
end Go.Proofs.YtcelkfahkodlhaaDoor
