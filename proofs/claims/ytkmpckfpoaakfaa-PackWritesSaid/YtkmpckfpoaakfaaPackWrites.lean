/- PackWrites: the walk. -/
import Derived.Test.YtkmpckfpoaakfaaRoomy
import Derived.Test.YtkmpckfpoaakfaaOpen
namespace Go.Proofs.Ytkmpckfpoaakfaa
set_option linter.unusedVariables false
open Go.RowKit

theorem Ob.sl {w : World} {g : Nat} {t : TypeId} {n : Nat} {xs : List Value} (h : Ob w g t xs.toArray) (hn : xs.length = n) (h63 : n ≤ maxLen) : Sl w (g + 1) (some ⟨g, 0, none⟩) n n xs := by
  refine ⟨hn, Nat.le_refl _, h63, .inr ⟨g, 0, rfl, by omega, fun j u hu => ?_⟩⟩
  have := h.cell j
  rw [Nat.zero_add, this]
  simpa using hu

theorem size_cut (s : ByteArray) : (s.extract 0 200).size ≤ 200 := by
  rw [ByteArray.size_extract]; omega

set_option maxHeartbeats 12800000 in
theorem packWrites_walk (w : World) (A : Option Addr) (n c : Nat) (hl : ∃ l, Sl w w.heap.size A n c (bv l)) (k : Int) (hk : (Lit.int .i64 k).wf = true) (s : ByteArray) (hs : s.size ≤ maxLen) :
    Calls Try.prog 4 #[.slice A n c, .int .i64 k, .string s] w fun e w' => e = .returned (.bool true) ∧ Below w.heap.size w w' := by
  obtain ⟨k1, k2⟩ := wf_bounds hk
  obtain ⟨l, hl⟩ := hl
  have hnc := hl.le
  have hcap := hl.cap
  unfold maxLen at hcap hs
  have H := Lib.hid hl
  clear hl
  obtain ⟨i, hi, hz0, hz1, hz2⟩ := info_parts u8info
  by_cases h40 : n ≤ 40
  · have HL : Hid (Sl w w.heap.size A n c (bv l)) := H.out
    by_cases h200 : s.size ≤ 200
    · have HSZ : Hid (s.size ≤ 35184372088832) := (by show _ ≤ _; omega)
      go_enter Try.func4, Try.ntmps4
      go_wp2_with fail
      go_quiet (fail)
      go_wp2_with fail
      refine (roomy_any (x := 7) rfl (HL.out.drewN _) (Nat.le_refl _) (by omega)).mono ?_
      rintro e w1 ⟨rfl, ho1, hb1⟩
      have O1 := Lib.hid ho1
      have B1 := Lib.hid ((below_drewN (Below.refl w.heap.size w) nq).trans hb1)
      have L1 := Lib.hid (HL.out.below B1.out)
      have HLEN : Hid (l.length = n) := by show _ = _; rw [← bv_len]; exact HL.out.len
      have F1 : Hid (Sl w1 (w.heap.size + 1) (some ⟨w.heap.size, 0, none⟩) (n + 80) (n + 80) (bv (l ++ List.replicate 80 7))) := by
        have := HLEN.out
        exact Ob.sl O1.out (by rw [bv_len, List.length_append, List.length_replicate]; omega) (by unfold maxLen; omega)
      have G1 : Hid (Sl w1 (w.heap.size + 1) (some ⟨w.heap.size, 0, none⟩) n (n + 80) (bv l)) := by
        have := F1.out.take (k := n) (by omega)
        rwa [← bv_take, List.take_left' HLEN.out] at this
      have HG : Hid (w.heap.size + 1 ≤ w1.heap.size) := O1.out.lt
      clear ho1 hb1
      go_wp2_with fail
      refine (num_any (k := k) G1.out HG.out (by omega) k1 k2).mono ?_
      rintro e w2 ⟨A2, n2, c2, rfl, hown2, hb2⟩
      have S2 := Lib.hid (Sl.of_own hown2)
      have B2 := Lib.hid (below_step B1.out hb2)
      have L2 := Lib.hid ((L1.out.below (hb2.mono B1.out.size)).lit_keep B2.out.size (.cells #[] 5))
      have K2 := Lib.hid (hb2.mono HG.out)
      obtain ⟨A3, c3, w3, hap, hown3, hb3⟩ := append_row (P := Try.prog) (ty := 24) Try.underlying24 hi hz0 hz1 hz2 (own_empty w2 w2.heap.size 5 (Nat.le_refl _)) L2.out one_bv (by omega) (by simp)
      simp only [Nat.zero_add, List.nil_append] at hap hown3
      have HAP := Lib.hid hap
      have O3 := Lib.hid hown3
      have B3 := Lib.hid (((Below.refl _ w2).alloc (Nat.le_refl _) (.cells #[] 5)).trans hb3)
      clear hown2 hb2 hap hown3 hb3
      go_wp2_with (at_builtin; refine wpList_append_run rfl _ _ _ _ rfl rfl rfl HAP.out ?_)
      refine (refnum_any (k := k) O3.out B3.out.size (by omega) k1 k2).mono ?_
      rintro e w4 ⟨A4, n4, c4, rfl, hown4, hb4⟩
      have S4 := Lib.hid (Sl.of_own hown4)
      have B4 := Lib.hid (B3.out.trans hb4)
      clear hown4 hb4
      go_wp2_with fail
      refine (same_true (S2.out.below B4.out) S4.out rfl).mono ?_
      rintro e w5 ⟨rfl, hb5⟩
      have B5 := Lib.hid (below_step B2.out (below_step B4.out hb5))
      have K5 := Lib.hid (K2.out.trans ((below_step B4.out hb5).mono (Nat.le_trans HG.out K2.out.size)))
      clear hb5
      go_wp2_with fail
      refine (text_any (G1.out.below K5.out) (Nat.le_trans HG.out K5.out.size) (by omega) HSZ.out).mono ?_
      rintro e w6 ⟨A6, n6, c6, rfl, hown6, hb6⟩
      have S6 := Lib.hid (Sl.of_own hown6)
      have B6 := Lib.hid (below_step B5.out hb6)
      have L6 := Lib.hid ((HL.out.below B6.out).lit_keep B6.out.size (.cells #[] 5))
      have K6 := Lib.hid (K5.out.trans (hb6.mono (Nat.le_trans HG.out K5.out.size)))
      obtain ⟨A7, c7, w7, hap, hown7, hb7⟩ := append_row (P := Try.prog) (ty := 24) Try.underlying24 hi hz0 hz1 hz2 (own_empty w6 w6.heap.size 5 (Nat.le_refl _)) L6.out one_bv (by omega) (by simp)
      simp only [Nat.zero_add, List.nil_append] at hap hown7
      have HAP7 := Lib.hid hap
      have O7 := Lib.hid hown7
      have B7 := Lib.hid (((Below.refl _ w6).alloc (Nat.le_refl _) (.cells #[] 5)).trans hb7)
      clear hown6 hb6 hap hown7 hb7
      go_wp2_with (at_builtin; refine wpList_append_want rfl _ _ _ _ rfl rfl rfl HAP7.out ?_)
      refine (reftext_any O7.out B7.out.size (by omega) HSZ.out).mono ?_
      rintro e w8 ⟨A8, n8, c8, rfl, hown8, hb8⟩
      have S8 := Lib.hid (Sl.of_own hown8)
      have B8 := Lib.hid (B7.out.trans hb8)
      clear hown8 hb8
      go_wp2_with fail
      refine (same_true (S6.out.below B8.out) S8.out rfl).mono ?_
      rintro e w9 ⟨rfl, hb9⟩
      have B9 := Lib.hid (below_step B6.out (below_step B8.out hb9))
      have K9 := Lib.hid (K6.out.trans ((below_step B8.out hb9).mono (Nat.le_trans HG.out K6.out.size)))
      clear hb9
      go_wp2_with fail
      refine (intact_any (x := 7) rfl (F1.out.below K9.out) (HL.out.below B9.out) (by omega)).mono ?_
      rintro e w10 ⟨rfl, hb10⟩
      have B10 := Lib.hid (below_step B9.out hb10)
      clear hb10
      go_wp2_with fail
      refine (runs_any _).mono ?_
      rintro e w11 ⟨rfl, hb11⟩
      have B11 := Lib.hid (below_step B10.out hb11)
      clear hb11
      go_wp2_with fail
      go_ret
      exact ⟨rfl, B11.out⟩
    · have HSZ : Hid ((s.extract 0 200).size ≤ 35184372088832) := (Nat.le_trans (size_cut s) (by omega))
      go_enter Try.func4, Try.ntmps4
      go_wp2_with fail
      go_quiet (fail)
      go_wp2_with fail
      refine (roomy_any (x := 7) rfl (HL.out.drewN _) (Nat.le_refl _) (by omega)).mono ?_
      rintro e w1 ⟨rfl, ho1, hb1⟩
      have O1 := Lib.hid ho1
      have B1 := Lib.hid ((below_drewN (Below.refl w.heap.size w) nq).trans hb1)
      have L1 := Lib.hid (HL.out.below B1.out)
      have HLEN : Hid (l.length = n) := by show _ = _; rw [← bv_len]; exact HL.out.len
      have F1 : Hid (Sl w1 (w.heap.size + 1) (some ⟨w.heap.size, 0, none⟩) (n + 80) (n + 80) (bv (l ++ List.replicate 80 7))) := by
        have := HLEN.out
        exact Ob.sl O1.out (by rw [bv_len, List.length_append, List.length_replicate]; omega) (by unfold maxLen; omega)
      have G1 : Hid (Sl w1 (w.heap.size + 1) (some ⟨w.heap.size, 0, none⟩) n (n + 80) (bv l)) := by
        have := F1.out.take (k := n) (by omega)
        rwa [← bv_take, List.take_left' HLEN.out] at this
      have HG : Hid (w.heap.size + 1 ≤ w1.heap.size) := O1.out.lt
      clear ho1 hb1
      go_wp2_with fail
      refine (num_any (k := k) G1.out HG.out (by omega) k1 k2).mono ?_
      rintro e w2 ⟨A2, n2, c2, rfl, hown2, hb2⟩
      have S2 := Lib.hid (Sl.of_own hown2)
      have B2 := Lib.hid (below_step B1.out hb2)
      have L2 := Lib.hid ((L1.out.below (hb2.mono B1.out.size)).lit_keep B2.out.size (.cells #[] 5))
      have K2 := Lib.hid (hb2.mono HG.out)
      obtain ⟨A3, c3, w3, hap, hown3, hb3⟩ := append_row (P := Try.prog) (ty := 24) Try.underlying24 hi hz0 hz1 hz2 (own_empty w2 w2.heap.size 5 (Nat.le_refl _)) L2.out one_bv (by omega) (by simp)
      simp only [Nat.zero_add, List.nil_append] at hap hown3
      have HAP := Lib.hid hap
      have O3 := Lib.hid hown3
      have B3 := Lib.hid (((Below.refl _ w2).alloc (Nat.le_refl _) (.cells #[] 5)).trans hb3)
      clear hown2 hb2 hap hown3 hb3
      go_wp2_with (at_builtin; refine wpList_append_run rfl _ _ _ _ rfl rfl rfl HAP.out ?_)
      refine (refnum_any (k := k) O3.out B3.out.size (by omega) k1 k2).mono ?_
      rintro e w4 ⟨A4, n4, c4, rfl, hown4, hb4⟩
      have S4 := Lib.hid (Sl.of_own hown4)
      have B4 := Lib.hid (B3.out.trans hb4)
      clear hown4 hb4
      go_wp2_with fail
      refine (same_true (S2.out.below B4.out) S4.out rfl).mono ?_
      rintro e w5 ⟨rfl, hb5⟩
      have B5 := Lib.hid (below_step B2.out (below_step B4.out hb5))
      have K5 := Lib.hid (K2.out.trans ((below_step B4.out hb5).mono (Nat.le_trans HG.out K2.out.size)))
      clear hb5
      go_wp2_with fail
      refine (text_any (G1.out.below K5.out) (Nat.le_trans HG.out K5.out.size) (by omega) HSZ.out).mono ?_
      rintro e w6 ⟨A6, n6, c6, rfl, hown6, hb6⟩
      have S6 := Lib.hid (Sl.of_own hown6)
      have B6 := Lib.hid (below_step B5.out hb6)
      have L6 := Lib.hid ((HL.out.below B6.out).lit_keep B6.out.size (.cells #[] 5))
      have K6 := Lib.hid (K5.out.trans (hb6.mono (Nat.le_trans HG.out K5.out.size)))
      obtain ⟨A7, c7, w7, hap, hown7, hb7⟩ := append_row (P := Try.prog) (ty := 24) Try.underlying24 hi hz0 hz1 hz2 (own_empty w6 w6.heap.size 5 (Nat.le_refl _)) L6.out one_bv (by omega) (by simp)
      simp only [Nat.zero_add, List.nil_append] at hap hown7
      have HAP7 := Lib.hid hap
      have O7 := Lib.hid hown7
      have B7 := Lib.hid (((Below.refl _ w6).alloc (Nat.le_refl _) (.cells #[] 5)).trans hb7)
      clear hown6 hb6 hap hown7 hb7
      go_wp2_with (at_builtin; refine wpList_append_want rfl _ _ _ _ rfl rfl rfl HAP7.out ?_)
      refine (reftext_any O7.out B7.out.size (by omega) HSZ.out).mono ?_
      rintro e w8 ⟨A8, n8, c8, rfl, hown8, hb8⟩
      have S8 := Lib.hid (Sl.of_own hown8)
      have B8 := Lib.hid (B7.out.trans hb8)
      clear hown8 hb8
      go_wp2_with fail
      refine (same_true (S6.out.below B8.out) S8.out rfl).mono ?_
      rintro e w9 ⟨rfl, hb9⟩
      have B9 := Lib.hid (below_step B6.out (below_step B8.out hb9))
      have K9 := Lib.hid (K6.out.trans ((below_step B8.out hb9).mono (Nat.le_trans HG.out K6.out.size)))
      clear hb9
      go_wp2_with fail
      refine (intact_any (x := 7) rfl (F1.out.below K9.out) (HL.out.below B9.out) (by omega)).mono ?_
      rintro e w10 ⟨rfl, hb10⟩
      have B10 := Lib.hid (below_step B9.out hb10)
      clear hb10
      go_wp2_with fail
      refine (runs_any _).mono ?_
      rintro e w11 ⟨rfl, hb11⟩
      have B11 := Lib.hid (below_step B10.out hb11)
      clear hb11
      go_wp2_with fail
      go_ret
      exact ⟨rfl, B11.out⟩
  · have HL : Hid (Sl w w.heap.size A 40 c (bv (l.take 40))) := (by show Sl _ _ _ _ _ _; rw [bv_take]; exact H.out.take (by omega))
    by_cases h200 : s.size ≤ 200
    · have HSZ : Hid (s.size ≤ 35184372088832) := (by show _ ≤ _; omega)
      go_enter Try.func4, Try.ntmps4
      go_wp2_with fail
      go_quiet (fail)
      go_wp2_with fail
      refine (roomy_any (x := 7) rfl (HL.out.drewN _) (Nat.le_refl _) (by omega)).mono ?_
      rintro e w1 ⟨rfl, ho1, hb1⟩
      have O1 := Lib.hid ho1
      have B1 := Lib.hid ((below_drewN (Below.refl w.heap.size w) nq).trans hb1)
      have L1 := Lib.hid (HL.out.below B1.out)
      have HLEN : Hid ((l.take 40).length = 40) := by show _ = _; rw [← bv_len]; exact HL.out.len
      have F1 : Hid (Sl w1 (w.heap.size + 1) (some ⟨w.heap.size, 0, none⟩) (40 + 80) (40 + 80) (bv ((l.take 40) ++ List.replicate 80 7))) := by
        have := HLEN.out
        exact Ob.sl O1.out (by rw [bv_len, List.length_append, List.length_replicate]; omega) (by unfold maxLen; omega)
      have G1 : Hid (Sl w1 (w.heap.size + 1) (some ⟨w.heap.size, 0, none⟩) 40 (40 + 80) (bv (l.take 40))) := by
        have := F1.out.take (k := 40) (by omega)
        rwa [← bv_take, List.take_left' HLEN.out] at this
      have HG : Hid (w.heap.size + 1 ≤ w1.heap.size) := O1.out.lt
      clear ho1 hb1
      go_wp2_with fail
      refine (num_any (k := k) G1.out HG.out (by omega) k1 k2).mono ?_
      rintro e w2 ⟨A2, n2, c2, rfl, hown2, hb2⟩
      have S2 := Lib.hid (Sl.of_own hown2)
      have B2 := Lib.hid (below_step B1.out hb2)
      have L2 := Lib.hid ((L1.out.below (hb2.mono B1.out.size)).lit_keep B2.out.size (.cells #[] 5))
      have K2 := Lib.hid (hb2.mono HG.out)
      obtain ⟨A3, c3, w3, hap, hown3, hb3⟩ := append_row (P := Try.prog) (ty := 24) Try.underlying24 hi hz0 hz1 hz2 (own_empty w2 w2.heap.size 5 (Nat.le_refl _)) L2.out one_bv (by omega) (by simp)
      simp only [Nat.zero_add, List.nil_append] at hap hown3
      have HAP := Lib.hid hap
      have O3 := Lib.hid hown3
      have B3 := Lib.hid (((Below.refl _ w2).alloc (Nat.le_refl _) (.cells #[] 5)).trans hb3)
      clear hown2 hb2 hap hown3 hb3
      go_wp2_with (at_builtin; refine wpList_append_run rfl _ _ _ _ rfl rfl rfl HAP.out ?_)
      refine (refnum_any (k := k) O3.out B3.out.size (by omega) k1 k2).mono ?_
      rintro e w4 ⟨A4, n4, c4, rfl, hown4, hb4⟩
      have S4 := Lib.hid (Sl.of_own hown4)
      have B4 := Lib.hid (B3.out.trans hb4)
      clear hown4 hb4
      go_wp2_with fail
      refine (same_true (S2.out.below B4.out) S4.out rfl).mono ?_
      rintro e w5 ⟨rfl, hb5⟩
      have B5 := Lib.hid (below_step B2.out (below_step B4.out hb5))
      have K5 := Lib.hid (K2.out.trans ((below_step B4.out hb5).mono (Nat.le_trans HG.out K2.out.size)))
      clear hb5
      go_wp2_with fail
      refine (text_any (G1.out.below K5.out) (Nat.le_trans HG.out K5.out.size) (by omega) HSZ.out).mono ?_
      rintro e w6 ⟨A6, n6, c6, rfl, hown6, hb6⟩
      have S6 := Lib.hid (Sl.of_own hown6)
      have B6 := Lib.hid (below_step B5.out hb6)
      have L6 := Lib.hid ((HL.out.below B6.out).lit_keep B6.out.size (.cells #[] 5))
      have K6 := Lib.hid (K5.out.trans (hb6.mono (Nat.le_trans HG.out K5.out.size)))
      obtain ⟨A7, c7, w7, hap, hown7, hb7⟩ := append_row (P := Try.prog) (ty := 24) Try.underlying24 hi hz0 hz1 hz2 (own_empty w6 w6.heap.size 5 (Nat.le_refl _)) L6.out one_bv (by omega) (by simp)
      simp only [Nat.zero_add, List.nil_append] at hap hown7
      have HAP7 := Lib.hid hap
      have O7 := Lib.hid hown7
      have B7 := Lib.hid (((Below.refl _ w6).alloc (Nat.le_refl _) (.cells #[] 5)).trans hb7)
      clear hown6 hb6 hap hown7 hb7
      go_wp2_with (at_builtin; refine wpList_append_want rfl _ _ _ _ rfl rfl rfl HAP7.out ?_)
      refine (reftext_any O7.out B7.out.size (by omega) HSZ.out).mono ?_
      rintro e w8 ⟨A8, n8, c8, rfl, hown8, hb8⟩
      have S8 := Lib.hid (Sl.of_own hown8)
      have B8 := Lib.hid (B7.out.trans hb8)
      clear hown8 hb8
      go_wp2_with fail
      refine (same_true (S6.out.below B8.out) S8.out rfl).mono ?_
      rintro e w9 ⟨rfl, hb9⟩
      have B9 := Lib.hid (below_step B6.out (below_step B8.out hb9))
      have K9 := Lib.hid (K6.out.trans ((below_step B8.out hb9).mono (Nat.le_trans HG.out K6.out.size)))
      clear hb9
      go_wp2_with fail
      refine (intact_any (x := 7) rfl (F1.out.below K9.out) (HL.out.below B9.out) (by omega)).mono ?_
      rintro e w10 ⟨rfl, hb10⟩
      have B10 := Lib.hid (below_step B9.out hb10)
      clear hb10
      go_wp2_with fail
      refine (runs_any _).mono ?_
      rintro e w11 ⟨rfl, hb11⟩
      have B11 := Lib.hid (below_step B10.out hb11)
      clear hb11
      go_wp2_with fail
      go_ret
      exact ⟨rfl, B11.out⟩
    · have HSZ : Hid ((s.extract 0 200).size ≤ 35184372088832) := (Nat.le_trans (size_cut s) (by omega))
      go_enter Try.func4, Try.ntmps4
      go_wp2_with fail
      go_quiet (fail)
      go_wp2_with fail
      refine (roomy_any (x := 7) rfl (HL.out.drewN _) (Nat.le_refl _) (by omega)).mono ?_
      rintro e w1 ⟨rfl, ho1, hb1⟩
      have O1 := Lib.hid ho1
      have B1 := Lib.hid ((below_drewN (Below.refl w.heap.size w) nq).trans hb1)
      have L1 := Lib.hid (HL.out.below B1.out)
      have HLEN : Hid ((l.take 40).length = 40) := by show _ = _; rw [← bv_len]; exact HL.out.len
      have F1 : Hid (Sl w1 (w.heap.size + 1) (some ⟨w.heap.size, 0, none⟩) (40 + 80) (40 + 80) (bv ((l.take 40) ++ List.replicate 80 7))) := by
        have := HLEN.out
        exact Ob.sl O1.out (by rw [bv_len, List.length_append, List.length_replicate]; omega) (by unfold maxLen; omega)
      have G1 : Hid (Sl w1 (w.heap.size + 1) (some ⟨w.heap.size, 0, none⟩) 40 (40 + 80) (bv (l.take 40))) := by
        have := F1.out.take (k := 40) (by omega)
        rwa [← bv_take, List.take_left' HLEN.out] at this
      have HG : Hid (w.heap.size + 1 ≤ w1.heap.size) := O1.out.lt
      clear ho1 hb1
      go_wp2_with fail
      refine (num_any (k := k) G1.out HG.out (by omega) k1 k2).mono ?_
      rintro e w2 ⟨A2, n2, c2, rfl, hown2, hb2⟩
      have S2 := Lib.hid (Sl.of_own hown2)
      have B2 := Lib.hid (below_step B1.out hb2)
      have L2 := Lib.hid ((L1.out.below (hb2.mono B1.out.size)).lit_keep B2.out.size (.cells #[] 5))
      have K2 := Lib.hid (hb2.mono HG.out)
      obtain ⟨A3, c3, w3, hap, hown3, hb3⟩ := append_row (P := Try.prog) (ty := 24) Try.underlying24 hi hz0 hz1 hz2 (own_empty w2 w2.heap.size 5 (Nat.le_refl _)) L2.out one_bv (by omega) (by simp)
      simp only [Nat.zero_add, List.nil_append] at hap hown3
      have HAP := Lib.hid hap
      have O3 := Lib.hid hown3
      have B3 := Lib.hid (((Below.refl _ w2).alloc (Nat.le_refl _) (.cells #[] 5)).trans hb3)
      clear hown2 hb2 hap hown3 hb3
      go_wp2_with (at_builtin; refine wpList_append_run rfl _ _ _ _ rfl rfl rfl HAP.out ?_)
      refine (refnum_any (k := k) O3.out B3.out.size (by omega) k1 k2).mono ?_
      rintro e w4 ⟨A4, n4, c4, rfl, hown4, hb4⟩
      have S4 := Lib.hid (Sl.of_own hown4)
      have B4 := Lib.hid (B3.out.trans hb4)
      clear hown4 hb4
      go_wp2_with fail
      refine (same_true (S2.out.below B4.out) S4.out rfl).mono ?_
      rintro e w5 ⟨rfl, hb5⟩
      have B5 := Lib.hid (below_step B2.out (below_step B4.out hb5))
      have K5 := Lib.hid (K2.out.trans ((below_step B4.out hb5).mono (Nat.le_trans HG.out K2.out.size)))
      clear hb5
      go_wp2_with fail
      refine (text_any (G1.out.below K5.out) (Nat.le_trans HG.out K5.out.size) (by omega) HSZ.out).mono ?_
      rintro e w6 ⟨A6, n6, c6, rfl, hown6, hb6⟩
      have S6 := Lib.hid (Sl.of_own hown6)
      have B6 := Lib.hid (below_step B5.out hb6)
      have L6 := Lib.hid ((HL.out.below B6.out).lit_keep B6.out.size (.cells #[] 5))
      have K6 := Lib.hid (K5.out.trans (hb6.mono (Nat.le_trans HG.out K5.out.size)))
      obtain ⟨A7, c7, w7, hap, hown7, hb7⟩ := append_row (P := Try.prog) (ty := 24) Try.underlying24 hi hz0 hz1 hz2 (own_empty w6 w6.heap.size 5 (Nat.le_refl _)) L6.out one_bv (by omega) (by simp)
      simp only [Nat.zero_add, List.nil_append] at hap hown7
      have HAP7 := Lib.hid hap
      have O7 := Lib.hid hown7
      have B7 := Lib.hid (((Below.refl _ w6).alloc (Nat.le_refl _) (.cells #[] 5)).trans hb7)
      clear hown6 hb6 hap hown7 hb7
      go_wp2_with (at_builtin; refine wpList_append_want rfl _ _ _ _ rfl rfl rfl HAP7.out ?_)
      refine (reftext_any O7.out B7.out.size (by omega) HSZ.out).mono ?_
      rintro e w8 ⟨A8, n8, c8, rfl, hown8, hb8⟩
      have S8 := Lib.hid (Sl.of_own hown8)
      have B8 := Lib.hid (B7.out.trans hb8)
      clear hown8 hb8
      go_wp2_with fail
      refine (same_true (S6.out.below B8.out) S8.out rfl).mono ?_
      rintro e w9 ⟨rfl, hb9⟩
      have B9 := Lib.hid (below_step B6.out (below_step B8.out hb9))
      have K9 := Lib.hid (K6.out.trans ((below_step B8.out hb9).mono (Nat.le_trans HG.out K6.out.size)))
      clear hb9
      go_wp2_with fail
      refine (intact_any (x := 7) rfl (F1.out.below K9.out) (HL.out.below B9.out) (by omega)).mono ?_
      rintro e w10 ⟨rfl, hb10⟩
      have B10 := Lib.hid (below_step B9.out hb10)
      clear hb10
      go_wp2_with fail
      refine (runs_any _).mono ?_
      rintro e w11 ⟨rfl, hb11⟩
      have B11 := Lib.hid (below_step B10.out hb11)
      clear hb11
      go_wp2_with fail
      go_ret
      exact ⟨rfl, B11.out⟩
end Go.Proofs.Ytkmpckfpoaakfaa
