/- PackBack: the walk. -/
import Derived.Test.YtkmpckfpoaakfaaPut
import Derived.Test.YtkmpckfpoaakfaaWithin
namespace Go.Proofs.Ytkmpckfpoaakfaa
set_option linter.unusedVariables false
open Go.RowKit
attribute [local go_sem] Int.le_refl beq_self_eq_true bne_self_eq_false Bool.not_true

theorem Only.cell {s : Nat} {w w' : World} (h : Only s w w') {p : Addr} (hb : p.block < w.heap.size) (hne : p.block ≠ s) : w'.cell? p = w.cell? p := World.cell?_of_block (h.heap hb hne)

def BkRel (w : World) (bs1 r bs2 qr N kk : Nat) (its : List (Bool × Int × ByteArray)) (i : Value) (wr : World) : Prop :=
  ∃ (k p : Nat) (q : Int), i = .int .i64 (k : Int) ∧ k ≤ N ∧ Rdr wr 55 bs1 r (itemsB its) (itemsB (its.take k)).length 0 ∧ Rdr wr 55 bs2 qr ((itemsB its).take kk) p q ∧ CutAt kk (itemsB (its.take k)).length p q ∧ Below w.heap.size w wr

set_option maxHeartbeats 12800000 in
set_option maxRecDepth 100000 in
theorem packBack_walk (w : World) (A : Option Addr) (n c : Nat) (hl : ∃ its, Its w A n c its) (cut : Int) (hc : (Lit.int .i64 cut).wf = true) :
    Calls Try.prog 6 #[.slice A n c, .int .i64 cut] w fun e w' => e = .returned (.bool true) ∧ Below w.heap.size w w' := by
  obtain ⟨its0, hl⟩ := hl
  have hnc := hl.2.1
  have hcap := hl.2.2.1
  unfold maxLen at hcap
  have H := Lib.hid hl
  clear hl hc
  by_cases h20 : n ≤ 20
  · have IT : Hid (Its w A n c its0) := H.out
    go_enter Try.func6, Try.ntmps6
    go_wp2_with fail
    refine (put_any IT.out (by omega)).mono ?_
    rintro e w1 ⟨A1, m1, c1, rfl, hs, hb, hm1⟩
    have hmc := hs.le
    have hcap1 := hs.cap
    unfold maxLen at hcap1
    have S1 := Lib.hid hs
    have B1 := Lib.hid hb
    clear hs hb
    go_wp2_with fail
    refine (read_any S1.out (by omega)).mono ?_
    rintro e w2 ⟨r, rfl, hr, hb⟩
    have R2 := Lib.hid hr
    have B2 := Lib.hid (below_step B1.out hb)
    have S2 := Lib.hid (S1.out.then_ hb)
    have HRB : Hid (r < w2.heap.size) := hr.lt
    have HWR : Hid (w.heap.size ≤ r) := Nat.le_trans B1.out.size hr.base
    clear hr hb
    by_cases hm0 : m1 = 0
    · subst hm0
      go_wp2_with fail
      refine (read_any (l := (itemsB its0).take 0) (n := 0) (by rw [bv_take]; exact S2.out.take (by omega)) (by omega)).mono ?_
      rintro e w3 ⟨qr, rfl, hq, hb⟩
      have Q3 := Lib.hid hq
      have R3 := Lib.hid (R2.out.then_ hb)
      have B3 := Lib.hid (below_step B2.out hb)
      have HRQ : Hid (r < qr) := Nat.lt_of_lt_of_le HRB.out hq.base
      have HWQ : Hid (w.heap.size ≤ qr) := Nat.le_trans B2.out.size hq.base
      clear hq hb
      go_wp2_with fail
      go_loopw [39] (fun i wr => BkRel w w1.heap.size r w2.heap.size qr n 0 its0 i wr) (fun i _ => n - (intOf i).toNat)
      case atStart => exact ⟨0, 0, 0, rfl, by omega, R3.out, Q3.out, .inr ⟨rfl, rfl, Nat.zero_le _⟩, B3.out⟩
      case round =>
        obtain ⟨k, p, q, rfl, hk, hr, hq, hcu, hb⟩ := hrel
        have R := Lib.hid hr
        have Q := Lib.hid hq
        have C := Lib.hid hcu
        have B := Lib.hid hb
        clear hr hq hcu hb
        by_cases hlt : k < n
        · obtain ⟨b, o, rfl, hbl, hcells⟩ := IT.out.2.2.2.1.resolve_left (by omega)
          have hkl : k < (its0).length := by have := IT.out.1; omega
          obtain ⟨g0, g1, g2⟩ := hcells k hkl
          have hbd := (IT.out.2.2.2.2 _ (List.getElem_mem hkl)).1
          have hsz := (IT.out.2.2.2.2 _ (List.getElem_mem hkl)).2
          have g0 := (B.out.cell (p := ⟨b, o + k * 3, none⟩) hbl).trans g0
          have g1 := (B.out.cell (p := ⟨b, o + k * 3 + 1, none⟩) hbl).trans g1
          have g2 := (B.out.cell (p := ⟨b, o + k * 3 + 2, none⟩) hbl).trans g2
          have LTW : Hid (b < wr.heap.size) := Nat.lt_of_lt_of_le hbl B.out.size
          have NE1 : Hid (b ≠ r) := by have h1 := HWR.out; show b ≠ r; omega
          have ws := whole_step hkl hbd
          have cs := cut_step hkl hbd C.out
          generalize (its0)[k].1 = x0 at *
          generalize (its0)[k].2.1 = x1 at *
          generalize (its0)[k].2.2 = x2 at *
          have WS1 := Lib.hid ws.1
          have WS2 := Lib.hid ws.2
          have CS1 := Lib.hid cs.1
          have CS2 := Lib.hid cs.2
          unfold maxLen at hsz
          clear hcells hbd ws cs
          cases x0 with
          | true =>
            by_cases h40 : x2.size ≤ 40
            · skip
              have CT : Hid (∀ W : World, W.heap = wr.heap → Calls Try.prog 12 #[.pointer (some ⟨r, 0, none⟩), .int .i64 40] W fun e w' => e = .returned (.string x2) ∧ Rdr w' 55 w1.heap.size r (itemsB its0) (itemsB (its0.take (k + 1))).length 0 ∧ Only r W w') := fun W hW => by
                have hR : Rdr W 55 w1.heap.size r (itemsB its0) (itemsB (its0.take k)).length 0 := R.out.keep (fun j _ _ => by rw [hW])
                have cc := rtext_any (most := 40) hR
                rw [WS1.out (by simp)] at cc
                have e := cut40_mk x2
                unfold cut40 at e
                rw [(if_pos h40)] at e
                simp only [e] at cc
                exact cc
              have hz0 : (0 : Int) ≤ (x2.size : Int) := by omega
              have hz1 : (x2.size : Int) ≤ 40 := by omega
              have hz2 : (if (40 : Int) < (x2.size : Int) then (40 : Int) else (x2.size : Int)) = (x2.size : Int) := by rw [if_neg (by omega)]
              have hz3 := slice_all x2
              have ez : (x2.toList == x2.toList) = true := by simp
              go_wp2_with fail
              go_region_held3 (fun w' => w'.cell? ⟨b, o + k * 3 + 2, none⟩ = some (.string x2)) (first | exact g2 | exact (hoa.cell LTW.out NE1.out).trans g2)
                ((first | (go_at_call 12; refine (CT.out _ ?_).mono ?_; (exact rfl); rintro e wa ⟨rfl, hra, hoa⟩)))
              all_goals
                have hoa : Only r wr wa := ⟨hoa.os, hoa.tape, hoa.output, hoa.size, hoa.block⟩
                have RA := Lib.hid hra
                have QA := Lib.hid (Q.out.only hoa (.inr HRB.out))
                have BA := Lib.hid (only_step B.out hoa HWR.out)
                clear hra hoa
                go_wp2_with fail
                refine (rtext_any (most := 40) QA.out).mono ?_
                rintro e wb ⟨rfl, hqb, hob⟩
                have QB := Lib.hid hqb
                have RB := Lib.hid (RA.out.only hob (.inl HRQ.out))
                have BB := Lib.hid (only_step BA.out hob HWQ.out)
                clear hqb hob
                go_wp2_with fail
                go_roundw
                case rel => exact ⟨k + 1, _, _, by go_num, by omega, RB.out, QB.out, CS1.out (by simp), BB.out⟩
                case measure => simp [intOf]; omega
            · skip
              have CT : Hid (∀ W : World, W.heap = wr.heap → Calls Try.prog 12 #[.pointer (some ⟨r, 0, none⟩), .int .i64 40] W fun e w' => e = .returned (.string (x2.extract 0 40)) ∧ Rdr w' 55 w1.heap.size r (itemsB its0) (itemsB (its0.take (k + 1))).length 0 ∧ Only r W w') := fun W hW => by
                have hR : Rdr W 55 w1.heap.size r (itemsB its0) (itemsB (its0.take k)).length 0 := R.out.keep (fun j _ _ => by rw [hW])
                have cc := rtext_any (most := 40) hR
                rw [WS1.out (by simp)] at cc
                have e := cut40_mk x2
                unfold cut40 at e
                rw [(if_neg h40)] at e
                simp only [e] at cc
                exact cc
              have hz0 : (0 : Int) ≤ (x2.size : Int) := by omega
              have hz1 : (40 : Int) ≤ (x2.size : Int) := by omega
              have hz2 : (40 : Int) < (x2.size : Int) := by omega
              have ez : ((x2.extract 0 40).toList == (x2.extract 0 40).toList) = true := by simp
              go_wp2_with fail
              go_region_held3 (fun w' => w'.cell? ⟨b, o + k * 3 + 2, none⟩ = some (.string x2)) (first | exact g2 | exact (hoa.cell LTW.out NE1.out).trans g2)
                ((first | (go_at_call 12; refine (CT.out _ ?_).mono ?_; (exact rfl); rintro e wa ⟨rfl, hra, hoa⟩)))
              all_goals
                have hoa : Only r wr wa := ⟨hoa.os, hoa.tape, hoa.output, hoa.size, hoa.block⟩
                have RA := Lib.hid hra
                have QA := Lib.hid (Q.out.only hoa (.inr HRB.out))
                have BA := Lib.hid (only_step B.out hoa HWR.out)
                clear hra hoa
                go_wp2_with fail
                refine (rtext_any (most := 40) QA.out).mono ?_
                rintro e wb ⟨rfl, hqb, hob⟩
                have QB := Lib.hid hqb
                have RB := Lib.hid (RA.out.only hob (.inl HRQ.out))
                have BB := Lib.hid (only_step BA.out hob HWQ.out)
                clear hqb hob
                go_wp2_with fail
                go_roundw
                case rel => exact ⟨k + 1, _, _, by go_num, by omega, RB.out, QB.out, CS1.out (by simp), BB.out⟩
                case measure => simp [intOf]; omega
          | false =>
            have CN : Hid (∀ W : World, W.heap = wr.heap → Calls Try.prog 13 #[.pointer (some ⟨r, 0, none⟩)] W fun e w' => e = .returned (.int .i64 x1) ∧ Rdr w' 55 w1.heap.size r (itemsB its0) (itemsB (its0.take (k + 1))).length 0 ∧ Only r W w') := fun W hW => by
              have hR : Rdr W 55 w1.heap.size r (itemsB its0) (itemsB (its0.take k)).length 0 := R.out.keep (fun j _ _ => by rw [hW])
              have cc := rnum_any hR
              rw [WS2.out (by simp)] at cc
              exact cc
            go_wp2_with fail
            go_region_held3 (fun w' => w'.cell? ⟨b, o + k * 3 + 1, none⟩ = some (.int .i64 x1)) (first | exact g1 | exact (hoa.cell LTW.out NE1.out).trans g1)
              ((first | (go_at_call 13; refine (CN.out _ ?_).mono ?_; (exact rfl); rintro e wa ⟨rfl, hra, hoa⟩)))
            have hoa : Only r wr wa := ⟨hoa.os, hoa.tape, hoa.output, hoa.size, hoa.block⟩
            have RA := Lib.hid hra
            have QA := Lib.hid (Q.out.only hoa (.inr HRB.out))
            have BA := Lib.hid (only_step B.out hoa HWR.out)
            clear hra hoa
            go_wp2_with fail
            refine (rnum_any QA.out).mono ?_
            rintro e wb ⟨rfl, hqb, hob⟩
            have QB := Lib.hid hqb
            have RB := Lib.hid (RA.out.only hob (.inl HRQ.out))
            have BB := Lib.hid (only_step BA.out hob HWQ.out)
            clear hqb hob
            go_wp2_with fail
            go_roundw
            case rel => exact ⟨k + 1, _, _, by go_num, by omega, RB.out, QB.out, CS2.out (by simp), BB.out⟩
            case measure => simp [intOf]; omega
        · skip
          have hP : (itemsB (its0.take k)).length = 0 := by
            rw [List.take_of_length_le (by have := IT.out.1; omega)]
            have := S1.out.len; rwa [bv_len] at this
          have hB : itemsB its0 = itemsB (its0.take k) := (congrArg itemsB (List.take_of_length_le (by have := IT.out.1; omega))).symm
          have CU : Hid (CutAt 0 0 p q) := by have := C.out; rw [hP] at this; exact this
          have R9 : Hid (Rdr wr 55 w1.heap.size r (itemsB its0) 0 0) := by have := R.out; rw [hP] at this; exact this
          have HE : Hid (endOf (itemsB its0) 0 0 = 0) := by
            show _ = _
            have e : (itemsB its0).length = 0 := by rw [hB]; exact hP
            rw [← e]; exact endOf_all _
          clear hP hB
          go_wp2_with fail
          have c9 := end_any R9.out
          rw [HE.out] at c9
          refine c9.mono ?_
          clear c9
          rintro e w9 ⟨rfl, j9, rfl⟩
          go_wp2_with fail
          refine (at_any (R9.out.drewN j9)).mono ?_
          rintro e w10 ⟨rfl, rfl⟩
          go_wp2_with fail
          refine (runs_any _).mono ?_
          rintro e w11 ⟨rfl, hb11⟩
          have B11 := Lib.hid (below_step (below_drewN B.out j9) hb11)
          clear hb11
          go_wp2_with fail
          go_ret
          exact ⟨rfl, B11.out⟩
    · have hm0' : 0 < m1 := by omega
      have hw := within_le (n := cut) (lo := 0) (hi := (m1 : Int) - 1) (by omega)
      have WN : Hid (∀ W, Calls Try.prog 32 #[.int .i64 cut, .int .i64 0, .int .i64 ((m1 : Int) - 1)] W fun e w' => e = .returned (.int .i64 (withinOf cut 0 ((m1 : Int) - 1))) ∧ W = w') := fun W => within_any (by omega) (by omega) (by omega)
      obtain ⟨kk, hkk⟩ := Int.eq_ofNat_of_zero_le hw.1
      rw [hkk] at hw WN
      have hk1 : (kk : Int) ≤ (c1 : Int) := by omega
      have hk2 : kk < m1 := by omega
      have HKK := Lib.hid hk2
      have hme : ((m1 : Int) == 0) = false := by rw [beq_eq_false_iff_ne]; omega
      clear hkk hw
      go_wp2_with fail
      refine (WN.out _).mono ?_
      rintro e w3 ⟨rfl, rfl⟩
      go_wp2_with fail
      refine (read_any (l := (itemsB its0).take kk) (n := kk) (by rw [bv_take]; exact S2.out.take (by omega)) (by omega)).mono ?_
      rintro e w3 ⟨qr, rfl, hq, hb⟩
      have Q3 := Lib.hid hq
      have R3 := Lib.hid (R2.out.then_ hb)
      have B3 := Lib.hid (below_step B2.out hb)
      have HRQ : Hid (r < qr) := Nat.lt_of_lt_of_le HRB.out hq.base
      have HWQ : Hid (w.heap.size ≤ qr) := Nat.le_trans B2.out.size hq.base
      clear hq hb
      go_wp2_with fail
      go_loopw [39] (fun i wr => BkRel w w1.heap.size r w2.heap.size qr n kk its0 i wr) (fun i _ => n - (intOf i).toNat)
      case atStart => exact ⟨0, 0, 0, rfl, by omega, R3.out, Q3.out, .inr ⟨rfl, rfl, Nat.zero_le _⟩, B3.out⟩
      case round =>
        obtain ⟨k, p, q, rfl, hk, hr, hq, hcu, hb⟩ := hrel
        have R := Lib.hid hr
        have Q := Lib.hid hq
        have C := Lib.hid hcu
        have B := Lib.hid hb
        clear hr hq hcu hb
        by_cases hlt : k < n
        · obtain ⟨b, o, rfl, hbl, hcells⟩ := IT.out.2.2.2.1.resolve_left (by omega)
          have hkl : k < (its0).length := by have := IT.out.1; omega
          obtain ⟨g0, g1, g2⟩ := hcells k hkl
          have hbd := (IT.out.2.2.2.2 _ (List.getElem_mem hkl)).1
          have hsz := (IT.out.2.2.2.2 _ (List.getElem_mem hkl)).2
          have g0 := (B.out.cell (p := ⟨b, o + k * 3, none⟩) hbl).trans g0
          have g1 := (B.out.cell (p := ⟨b, o + k * 3 + 1, none⟩) hbl).trans g1
          have g2 := (B.out.cell (p := ⟨b, o + k * 3 + 2, none⟩) hbl).trans g2
          have LTW : Hid (b < wr.heap.size) := Nat.lt_of_lt_of_le hbl B.out.size
          have NE1 : Hid (b ≠ r) := by have h1 := HWR.out; show b ≠ r; omega
          have ws := whole_step hkl hbd
          have cs := cut_step hkl hbd C.out
          generalize (its0)[k].1 = x0 at *
          generalize (its0)[k].2.1 = x1 at *
          generalize (its0)[k].2.2 = x2 at *
          have WS1 := Lib.hid ws.1
          have WS2 := Lib.hid ws.2
          have CS1 := Lib.hid cs.1
          have CS2 := Lib.hid cs.2
          unfold maxLen at hsz
          clear hcells hbd ws cs
          cases x0 with
          | true =>
            by_cases h40 : x2.size ≤ 40
            · skip
              have CT : Hid (∀ W : World, W.heap = wr.heap → Calls Try.prog 12 #[.pointer (some ⟨r, 0, none⟩), .int .i64 40] W fun e w' => e = .returned (.string x2) ∧ Rdr w' 55 w1.heap.size r (itemsB its0) (itemsB (its0.take (k + 1))).length 0 ∧ Only r W w') := fun W hW => by
                have hR : Rdr W 55 w1.heap.size r (itemsB its0) (itemsB (its0.take k)).length 0 := R.out.keep (fun j _ _ => by rw [hW])
                have cc := rtext_any (most := 40) hR
                rw [WS1.out (by simp)] at cc
                have e := cut40_mk x2
                unfold cut40 at e
                rw [(if_pos h40)] at e
                simp only [e] at cc
                exact cc
              have hz0 : (0 : Int) ≤ (x2.size : Int) := by omega
              have hz1 : (x2.size : Int) ≤ 40 := by omega
              have hz2 : (if (40 : Int) < (x2.size : Int) then (40 : Int) else (x2.size : Int)) = (x2.size : Int) := by rw [if_neg (by omega)]
              have hz3 := slice_all x2
              have ez : (x2.toList == x2.toList) = true := by simp
              go_wp2_with fail
              go_region_held3 (fun w' => w'.cell? ⟨b, o + k * 3 + 2, none⟩ = some (.string x2)) (first | exact g2 | exact (hoa.cell LTW.out NE1.out).trans g2)
                ((first | (go_at_call 12; refine (CT.out _ ?_).mono ?_; (exact rfl); rintro e wa ⟨rfl, hra, hoa⟩)))
              all_goals
                have hoa : Only r wr wa := ⟨hoa.os, hoa.tape, hoa.output, hoa.size, hoa.block⟩
                have RA := Lib.hid hra
                have QA := Lib.hid (Q.out.only hoa (.inr HRB.out))
                have BA := Lib.hid (only_step B.out hoa HWR.out)
                clear hra hoa
                go_wp2_with fail
                refine (rtext_any (most := 40) QA.out).mono ?_
                rintro e wb ⟨rfl, hqb, hob⟩
                have QB := Lib.hid hqb
                have RB := Lib.hid (RA.out.only hob (.inl HRQ.out))
                have BB := Lib.hid (only_step BA.out hob HWQ.out)
                clear hqb hob
                go_wp2_with fail
                go_roundw
                case rel => exact ⟨k + 1, _, _, by go_num, by omega, RB.out, QB.out, CS1.out (by simp), BB.out⟩
                case measure => simp [intOf]; omega
            · skip
              have CT : Hid (∀ W : World, W.heap = wr.heap → Calls Try.prog 12 #[.pointer (some ⟨r, 0, none⟩), .int .i64 40] W fun e w' => e = .returned (.string (x2.extract 0 40)) ∧ Rdr w' 55 w1.heap.size r (itemsB its0) (itemsB (its0.take (k + 1))).length 0 ∧ Only r W w') := fun W hW => by
                have hR : Rdr W 55 w1.heap.size r (itemsB its0) (itemsB (its0.take k)).length 0 := R.out.keep (fun j _ _ => by rw [hW])
                have cc := rtext_any (most := 40) hR
                rw [WS1.out (by simp)] at cc
                have e := cut40_mk x2
                unfold cut40 at e
                rw [(if_neg h40)] at e
                simp only [e] at cc
                exact cc
              have hz0 : (0 : Int) ≤ (x2.size : Int) := by omega
              have hz1 : (40 : Int) ≤ (x2.size : Int) := by omega
              have hz2 : (40 : Int) < (x2.size : Int) := by omega
              have ez : ((x2.extract 0 40).toList == (x2.extract 0 40).toList) = true := by simp
              go_wp2_with fail
              go_region_held3 (fun w' => w'.cell? ⟨b, o + k * 3 + 2, none⟩ = some (.string x2)) (first | exact g2 | exact (hoa.cell LTW.out NE1.out).trans g2)
                ((first | (go_at_call 12; refine (CT.out _ ?_).mono ?_; (exact rfl); rintro e wa ⟨rfl, hra, hoa⟩)))
              all_goals
                have hoa : Only r wr wa := ⟨hoa.os, hoa.tape, hoa.output, hoa.size, hoa.block⟩
                have RA := Lib.hid hra
                have QA := Lib.hid (Q.out.only hoa (.inr HRB.out))
                have BA := Lib.hid (only_step B.out hoa HWR.out)
                clear hra hoa
                go_wp2_with fail
                refine (rtext_any (most := 40) QA.out).mono ?_
                rintro e wb ⟨rfl, hqb, hob⟩
                have QB := Lib.hid hqb
                have RB := Lib.hid (RA.out.only hob (.inl HRQ.out))
                have BB := Lib.hid (only_step BA.out hob HWQ.out)
                clear hqb hob
                go_wp2_with fail
                go_roundw
                case rel => exact ⟨k + 1, _, _, by go_num, by omega, RB.out, QB.out, CS1.out (by simp), BB.out⟩
                case measure => simp [intOf]; omega
          | false =>
            have CN : Hid (∀ W : World, W.heap = wr.heap → Calls Try.prog 13 #[.pointer (some ⟨r, 0, none⟩)] W fun e w' => e = .returned (.int .i64 x1) ∧ Rdr w' 55 w1.heap.size r (itemsB its0) (itemsB (its0.take (k + 1))).length 0 ∧ Only r W w') := fun W hW => by
              have hR : Rdr W 55 w1.heap.size r (itemsB its0) (itemsB (its0.take k)).length 0 := R.out.keep (fun j _ _ => by rw [hW])
              have cc := rnum_any hR
              rw [WS2.out (by simp)] at cc
              exact cc
            go_wp2_with fail
            go_region_held3 (fun w' => w'.cell? ⟨b, o + k * 3 + 1, none⟩ = some (.int .i64 x1)) (first | exact g1 | exact (hoa.cell LTW.out NE1.out).trans g1)
              ((first | (go_at_call 13; refine (CN.out _ ?_).mono ?_; (exact rfl); rintro e wa ⟨rfl, hra, hoa⟩)))
            have hoa : Only r wr wa := ⟨hoa.os, hoa.tape, hoa.output, hoa.size, hoa.block⟩
            have RA := Lib.hid hra
            have QA := Lib.hid (Q.out.only hoa (.inr HRB.out))
            have BA := Lib.hid (only_step B.out hoa HWR.out)
            clear hra hoa
            go_wp2_with fail
            refine (rnum_any QA.out).mono ?_
            rintro e wb ⟨rfl, hqb, hob⟩
            have QB := Lib.hid hqb
            have RB := Lib.hid (RA.out.only hob (.inl HRQ.out))
            have BB := Lib.hid (only_step BA.out hob HWQ.out)
            clear hqb hob
            go_wp2_with fail
            go_roundw
            case rel => exact ⟨k + 1, _, _, by go_num, by omega, RB.out, QB.out, CS2.out (by simp), BB.out⟩
            case measure => simp [intOf]; omega
        · skip
          have hP : (itemsB (its0.take k)).length = m1 := by
            rw [List.take_of_length_le (by have := IT.out.1; omega)]
            have := S1.out.len; rwa [bv_len] at this
          have hB : itemsB its0 = itemsB (its0.take k) := (congrArg itemsB (List.take_of_length_le (by have := IT.out.1; omega))).symm
          have CU : Hid (CutAt kk m1 p q) := by have := C.out; rw [hP] at this; exact this
          have R9 : Hid (Rdr wr 55 w1.heap.size r (itemsB its0) m1 0) := by have := R.out; rw [hP] at this; exact this
          have HE : Hid (endOf (itemsB its0) m1 0 = 0) := by
            show _ = _
            have e : (itemsB its0).length = m1 := by rw [hB]; exact hP
            rw [← e]; exact endOf_all _
          clear hP hB
          go_wp2_with fail
          have c9 := end_any R9.out
          rw [HE.out] at c9
          refine c9.mono ?_
          clear c9
          rintro e w9 ⟨rfl, j9, rfl⟩
          go_wp2_with fail
          refine (at_any (R9.out.drewN j9)).mono ?_
          rintro e w10 ⟨rfl, rfl⟩
          go_wp2_with fail
          refine (wrong_any (Q.out.drewN j9)).mono ?_
          rintro e w10 ⟨rfl, rfl⟩
          obtain rfl : q = 7 := by
            have h1 := CU.out
            have h2 := HKK.out
            unfold CutAt at h1
            omega
          go_wp2_with fail
          refine (runs_any _).mono ?_
          rintro e w11 ⟨rfl, hb11⟩
          have B11 := Lib.hid (below_step (below_drewN B.out j9) hb11)
          clear hb11
          go_wp2_with fail
          go_ret
          exact ⟨rfl, B11.out⟩
  · have IT : Hid (Its w A 20 c (its0.take 20)) := H.out.take (by omega)
    go_enter Try.func6, Try.ntmps6
    go_wp2_with fail
    refine (put_any IT.out (by omega)).mono ?_
    rintro e w1 ⟨A1, m1, c1, rfl, hs, hb, hm1⟩
    have hmc := hs.le
    have hcap1 := hs.cap
    unfold maxLen at hcap1
    have S1 := Lib.hid hs
    have B1 := Lib.hid hb
    clear hs hb
    go_wp2_with fail
    refine (read_any S1.out (by omega)).mono ?_
    rintro e w2 ⟨r, rfl, hr, hb⟩
    have R2 := Lib.hid hr
    have B2 := Lib.hid (below_step B1.out hb)
    have S2 := Lib.hid (S1.out.then_ hb)
    have HRB : Hid (r < w2.heap.size) := hr.lt
    have HWR : Hid (w.heap.size ≤ r) := Nat.le_trans B1.out.size hr.base
    clear hr hb
    by_cases hm0 : m1 = 0
    · subst hm0
      go_wp2_with fail
      refine (read_any (l := (itemsB (its0.take 20)).take 0) (n := 0) (by rw [bv_take]; exact S2.out.take (by omega)) (by omega)).mono ?_
      rintro e w3 ⟨qr, rfl, hq, hb⟩
      have Q3 := Lib.hid hq
      have R3 := Lib.hid (R2.out.then_ hb)
      have B3 := Lib.hid (below_step B2.out hb)
      have HRQ : Hid (r < qr) := Nat.lt_of_lt_of_le HRB.out hq.base
      have HWQ : Hid (w.heap.size ≤ qr) := Nat.le_trans B2.out.size hq.base
      clear hq hb
      go_wp2_with fail
      go_loopw [39] (fun i wr => BkRel w w1.heap.size r w2.heap.size qr 20 0 (its0.take 20) i wr) (fun i _ => 20 - (intOf i).toNat)
      case atStart => exact ⟨0, 0, 0, rfl, by omega, R3.out, Q3.out, .inr ⟨rfl, rfl, Nat.zero_le _⟩, B3.out⟩
      case round =>
        obtain ⟨k, p, q, rfl, hk, hr, hq, hcu, hb⟩ := hrel
        have R := Lib.hid hr
        have Q := Lib.hid hq
        have C := Lib.hid hcu
        have B := Lib.hid hb
        clear hr hq hcu hb
        by_cases hlt : k < 20
        · obtain ⟨b, o, rfl, hbl, hcells⟩ := IT.out.2.2.2.1.resolve_left (by omega)
          have hkl : k < ((its0.take 20)).length := by have := IT.out.1; omega
          obtain ⟨g0, g1, g2⟩ := hcells k hkl
          have hbd := (IT.out.2.2.2.2 _ (List.getElem_mem hkl)).1
          have hsz := (IT.out.2.2.2.2 _ (List.getElem_mem hkl)).2
          have g0 := (B.out.cell (p := ⟨b, o + k * 3, none⟩) hbl).trans g0
          have g1 := (B.out.cell (p := ⟨b, o + k * 3 + 1, none⟩) hbl).trans g1
          have g2 := (B.out.cell (p := ⟨b, o + k * 3 + 2, none⟩) hbl).trans g2
          have LTW : Hid (b < wr.heap.size) := Nat.lt_of_lt_of_le hbl B.out.size
          have NE1 : Hid (b ≠ r) := by have h1 := HWR.out; show b ≠ r; omega
          have ws := whole_step hkl hbd
          have cs := cut_step hkl hbd C.out
          generalize ((its0.take 20))[k].1 = x0 at *
          generalize ((its0.take 20))[k].2.1 = x1 at *
          generalize ((its0.take 20))[k].2.2 = x2 at *
          have WS1 := Lib.hid ws.1
          have WS2 := Lib.hid ws.2
          have CS1 := Lib.hid cs.1
          have CS2 := Lib.hid cs.2
          unfold maxLen at hsz
          clear hcells hbd ws cs
          cases x0 with
          | true =>
            by_cases h40 : x2.size ≤ 40
            · skip
              have CT : Hid (∀ W : World, W.heap = wr.heap → Calls Try.prog 12 #[.pointer (some ⟨r, 0, none⟩), .int .i64 40] W fun e w' => e = .returned (.string x2) ∧ Rdr w' 55 w1.heap.size r (itemsB (its0.take 20)) (itemsB ((its0.take 20).take (k + 1))).length 0 ∧ Only r W w') := fun W hW => by
                have hR : Rdr W 55 w1.heap.size r (itemsB (its0.take 20)) (itemsB ((its0.take 20).take k)).length 0 := R.out.keep (fun j _ _ => by rw [hW])
                have cc := rtext_any (most := 40) hR
                rw [WS1.out (by simp)] at cc
                have e := cut40_mk x2
                unfold cut40 at e
                rw [(if_pos h40)] at e
                simp only [e] at cc
                exact cc
              have hz0 : (0 : Int) ≤ (x2.size : Int) := by omega
              have hz1 : (x2.size : Int) ≤ 40 := by omega
              have hz2 : (if (40 : Int) < (x2.size : Int) then (40 : Int) else (x2.size : Int)) = (x2.size : Int) := by rw [if_neg (by omega)]
              have hz3 := slice_all x2
              have ez : (x2.toList == x2.toList) = true := by simp
              go_wp2_with fail
              go_region_held3 (fun w' => w'.cell? ⟨b, o + k * 3 + 2, none⟩ = some (.string x2)) (first | exact g2 | exact (hoa.cell LTW.out NE1.out).trans g2)
                ((first | (go_at_call 12; refine (CT.out _ ?_).mono ?_; (exact rfl); rintro e wa ⟨rfl, hra, hoa⟩)))
              all_goals
                have hoa : Only r wr wa := ⟨hoa.os, hoa.tape, hoa.output, hoa.size, hoa.block⟩
                have RA := Lib.hid hra
                have QA := Lib.hid (Q.out.only hoa (.inr HRB.out))
                have BA := Lib.hid (only_step B.out hoa HWR.out)
                clear hra hoa
                go_wp2_with fail
                refine (rtext_any (most := 40) QA.out).mono ?_
                rintro e wb ⟨rfl, hqb, hob⟩
                have QB := Lib.hid hqb
                have RB := Lib.hid (RA.out.only hob (.inl HRQ.out))
                have BB := Lib.hid (only_step BA.out hob HWQ.out)
                clear hqb hob
                go_wp2_with fail
                go_roundw
                case rel => exact ⟨k + 1, _, _, by go_num, by omega, RB.out, QB.out, CS1.out (by simp), BB.out⟩
                case measure => simp [intOf]; omega
            · skip
              have CT : Hid (∀ W : World, W.heap = wr.heap → Calls Try.prog 12 #[.pointer (some ⟨r, 0, none⟩), .int .i64 40] W fun e w' => e = .returned (.string (x2.extract 0 40)) ∧ Rdr w' 55 w1.heap.size r (itemsB (its0.take 20)) (itemsB ((its0.take 20).take (k + 1))).length 0 ∧ Only r W w') := fun W hW => by
                have hR : Rdr W 55 w1.heap.size r (itemsB (its0.take 20)) (itemsB ((its0.take 20).take k)).length 0 := R.out.keep (fun j _ _ => by rw [hW])
                have cc := rtext_any (most := 40) hR
                rw [WS1.out (by simp)] at cc
                have e := cut40_mk x2
                unfold cut40 at e
                rw [(if_neg h40)] at e
                simp only [e] at cc
                exact cc
              have hz0 : (0 : Int) ≤ (x2.size : Int) := by omega
              have hz1 : (40 : Int) ≤ (x2.size : Int) := by omega
              have hz2 : (40 : Int) < (x2.size : Int) := by omega
              have ez : ((x2.extract 0 40).toList == (x2.extract 0 40).toList) = true := by simp
              go_wp2_with fail
              go_region_held3 (fun w' => w'.cell? ⟨b, o + k * 3 + 2, none⟩ = some (.string x2)) (first | exact g2 | exact (hoa.cell LTW.out NE1.out).trans g2)
                ((first | (go_at_call 12; refine (CT.out _ ?_).mono ?_; (exact rfl); rintro e wa ⟨rfl, hra, hoa⟩)))
              all_goals
                have hoa : Only r wr wa := ⟨hoa.os, hoa.tape, hoa.output, hoa.size, hoa.block⟩
                have RA := Lib.hid hra
                have QA := Lib.hid (Q.out.only hoa (.inr HRB.out))
                have BA := Lib.hid (only_step B.out hoa HWR.out)
                clear hra hoa
                go_wp2_with fail
                refine (rtext_any (most := 40) QA.out).mono ?_
                rintro e wb ⟨rfl, hqb, hob⟩
                have QB := Lib.hid hqb
                have RB := Lib.hid (RA.out.only hob (.inl HRQ.out))
                have BB := Lib.hid (only_step BA.out hob HWQ.out)
                clear hqb hob
                go_wp2_with fail
                go_roundw
                case rel => exact ⟨k + 1, _, _, by go_num, by omega, RB.out, QB.out, CS1.out (by simp), BB.out⟩
                case measure => simp [intOf]; omega
          | false =>
            have CN : Hid (∀ W : World, W.heap = wr.heap → Calls Try.prog 13 #[.pointer (some ⟨r, 0, none⟩)] W fun e w' => e = .returned (.int .i64 x1) ∧ Rdr w' 55 w1.heap.size r (itemsB (its0.take 20)) (itemsB ((its0.take 20).take (k + 1))).length 0 ∧ Only r W w') := fun W hW => by
              have hR : Rdr W 55 w1.heap.size r (itemsB (its0.take 20)) (itemsB ((its0.take 20).take k)).length 0 := R.out.keep (fun j _ _ => by rw [hW])
              have cc := rnum_any hR
              rw [WS2.out (by simp)] at cc
              exact cc
            go_wp2_with fail
            go_region_held3 (fun w' => w'.cell? ⟨b, o + k * 3 + 1, none⟩ = some (.int .i64 x1)) (first | exact g1 | exact (hoa.cell LTW.out NE1.out).trans g1)
              ((first | (go_at_call 13; refine (CN.out _ ?_).mono ?_; (exact rfl); rintro e wa ⟨rfl, hra, hoa⟩)))
            have hoa : Only r wr wa := ⟨hoa.os, hoa.tape, hoa.output, hoa.size, hoa.block⟩
            have RA := Lib.hid hra
            have QA := Lib.hid (Q.out.only hoa (.inr HRB.out))
            have BA := Lib.hid (only_step B.out hoa HWR.out)
            clear hra hoa
            go_wp2_with fail
            refine (rnum_any QA.out).mono ?_
            rintro e wb ⟨rfl, hqb, hob⟩
            have QB := Lib.hid hqb
            have RB := Lib.hid (RA.out.only hob (.inl HRQ.out))
            have BB := Lib.hid (only_step BA.out hob HWQ.out)
            clear hqb hob
            go_wp2_with fail
            go_roundw
            case rel => exact ⟨k + 1, _, _, by go_num, by omega, RB.out, QB.out, CS2.out (by simp), BB.out⟩
            case measure => simp [intOf]; omega
        · skip
          have hP : (itemsB ((its0.take 20).take k)).length = 0 := by
            rw [List.take_of_length_le (by have := IT.out.1; omega)]
            have := S1.out.len; rwa [bv_len] at this
          have hB : itemsB (its0.take 20) = itemsB ((its0.take 20).take k) := (congrArg itemsB (List.take_of_length_le (by have := IT.out.1; omega))).symm
          have CU : Hid (CutAt 0 0 p q) := by have := C.out; rw [hP] at this; exact this
          have R9 : Hid (Rdr wr 55 w1.heap.size r (itemsB (its0.take 20)) 0 0) := by have := R.out; rw [hP] at this; exact this
          have HE : Hid (endOf (itemsB (its0.take 20)) 0 0 = 0) := by
            show _ = _
            have e : (itemsB (its0.take 20)).length = 0 := by rw [hB]; exact hP
            rw [← e]; exact endOf_all _
          clear hP hB
          go_wp2_with fail
          have c9 := end_any R9.out
          rw [HE.out] at c9
          refine c9.mono ?_
          clear c9
          rintro e w9 ⟨rfl, j9, rfl⟩
          go_wp2_with fail
          refine (at_any (R9.out.drewN j9)).mono ?_
          rintro e w10 ⟨rfl, rfl⟩
          go_wp2_with fail
          refine (runs_any _).mono ?_
          rintro e w11 ⟨rfl, hb11⟩
          have B11 := Lib.hid (below_step (below_drewN B.out j9) hb11)
          clear hb11
          go_wp2_with fail
          go_ret
          exact ⟨rfl, B11.out⟩
    · have hm0' : 0 < m1 := by omega
      have hw := within_le (n := cut) (lo := 0) (hi := (m1 : Int) - 1) (by omega)
      have WN : Hid (∀ W, Calls Try.prog 32 #[.int .i64 cut, .int .i64 0, .int .i64 ((m1 : Int) - 1)] W fun e w' => e = .returned (.int .i64 (withinOf cut 0 ((m1 : Int) - 1))) ∧ W = w') := fun W => within_any (by omega) (by omega) (by omega)
      obtain ⟨kk, hkk⟩ := Int.eq_ofNat_of_zero_le hw.1
      rw [hkk] at hw WN
      have hk1 : (kk : Int) ≤ (c1 : Int) := by omega
      have hk2 : kk < m1 := by omega
      have HKK := Lib.hid hk2
      have hme : ((m1 : Int) == 0) = false := by rw [beq_eq_false_iff_ne]; omega
      clear hkk hw
      go_wp2_with fail
      refine (WN.out _).mono ?_
      rintro e w3 ⟨rfl, rfl⟩
      go_wp2_with fail
      refine (read_any (l := (itemsB (its0.take 20)).take kk) (n := kk) (by rw [bv_take]; exact S2.out.take (by omega)) (by omega)).mono ?_
      rintro e w3 ⟨qr, rfl, hq, hb⟩
      have Q3 := Lib.hid hq
      have R3 := Lib.hid (R2.out.then_ hb)
      have B3 := Lib.hid (below_step B2.out hb)
      have HRQ : Hid (r < qr) := Nat.lt_of_lt_of_le HRB.out hq.base
      have HWQ : Hid (w.heap.size ≤ qr) := Nat.le_trans B2.out.size hq.base
      clear hq hb
      go_wp2_with fail
      go_loopw [39] (fun i wr => BkRel w w1.heap.size r w2.heap.size qr 20 kk (its0.take 20) i wr) (fun i _ => 20 - (intOf i).toNat)
      case atStart => exact ⟨0, 0, 0, rfl, by omega, R3.out, Q3.out, .inr ⟨rfl, rfl, Nat.zero_le _⟩, B3.out⟩
      case round =>
        obtain ⟨k, p, q, rfl, hk, hr, hq, hcu, hb⟩ := hrel
        have R := Lib.hid hr
        have Q := Lib.hid hq
        have C := Lib.hid hcu
        have B := Lib.hid hb
        clear hr hq hcu hb
        by_cases hlt : k < 20
        · obtain ⟨b, o, rfl, hbl, hcells⟩ := IT.out.2.2.2.1.resolve_left (by omega)
          have hkl : k < ((its0.take 20)).length := by have := IT.out.1; omega
          obtain ⟨g0, g1, g2⟩ := hcells k hkl
          have hbd := (IT.out.2.2.2.2 _ (List.getElem_mem hkl)).1
          have hsz := (IT.out.2.2.2.2 _ (List.getElem_mem hkl)).2
          have g0 := (B.out.cell (p := ⟨b, o + k * 3, none⟩) hbl).trans g0
          have g1 := (B.out.cell (p := ⟨b, o + k * 3 + 1, none⟩) hbl).trans g1
          have g2 := (B.out.cell (p := ⟨b, o + k * 3 + 2, none⟩) hbl).trans g2
          have LTW : Hid (b < wr.heap.size) := Nat.lt_of_lt_of_le hbl B.out.size
          have NE1 : Hid (b ≠ r) := by have h1 := HWR.out; show b ≠ r; omega
          have ws := whole_step hkl hbd
          have cs := cut_step hkl hbd C.out
          generalize ((its0.take 20))[k].1 = x0 at *
          generalize ((its0.take 20))[k].2.1 = x1 at *
          generalize ((its0.take 20))[k].2.2 = x2 at *
          have WS1 := Lib.hid ws.1
          have WS2 := Lib.hid ws.2
          have CS1 := Lib.hid cs.1
          have CS2 := Lib.hid cs.2
          unfold maxLen at hsz
          clear hcells hbd ws cs
          cases x0 with
          | true =>
            by_cases h40 : x2.size ≤ 40
            · skip
              have CT : Hid (∀ W : World, W.heap = wr.heap → Calls Try.prog 12 #[.pointer (some ⟨r, 0, none⟩), .int .i64 40] W fun e w' => e = .returned (.string x2) ∧ Rdr w' 55 w1.heap.size r (itemsB (its0.take 20)) (itemsB ((its0.take 20).take (k + 1))).length 0 ∧ Only r W w') := fun W hW => by
                have hR : Rdr W 55 w1.heap.size r (itemsB (its0.take 20)) (itemsB ((its0.take 20).take k)).length 0 := R.out.keep (fun j _ _ => by rw [hW])
                have cc := rtext_any (most := 40) hR
                rw [WS1.out (by simp)] at cc
                have e := cut40_mk x2
                unfold cut40 at e
                rw [(if_pos h40)] at e
                simp only [e] at cc
                exact cc
              have hz0 : (0 : Int) ≤ (x2.size : Int) := by omega
              have hz1 : (x2.size : Int) ≤ 40 := by omega
              have hz2 : (if (40 : Int) < (x2.size : Int) then (40 : Int) else (x2.size : Int)) = (x2.size : Int) := by rw [if_neg (by omega)]
              have hz3 := slice_all x2
              have ez : (x2.toList == x2.toList) = true := by simp
              go_wp2_with fail
              go_region_held3 (fun w' => w'.cell? ⟨b, o + k * 3 + 2, none⟩ = some (.string x2)) (first | exact g2 | exact (hoa.cell LTW.out NE1.out).trans g2)
                ((first | (go_at_call 12; refine (CT.out _ ?_).mono ?_; (exact rfl); rintro e wa ⟨rfl, hra, hoa⟩)))
              all_goals
                have hoa : Only r wr wa := ⟨hoa.os, hoa.tape, hoa.output, hoa.size, hoa.block⟩
                have RA := Lib.hid hra
                have QA := Lib.hid (Q.out.only hoa (.inr HRB.out))
                have BA := Lib.hid (only_step B.out hoa HWR.out)
                clear hra hoa
                go_wp2_with fail
                refine (rtext_any (most := 40) QA.out).mono ?_
                rintro e wb ⟨rfl, hqb, hob⟩
                have QB := Lib.hid hqb
                have RB := Lib.hid (RA.out.only hob (.inl HRQ.out))
                have BB := Lib.hid (only_step BA.out hob HWQ.out)
                clear hqb hob
                go_wp2_with fail
                go_roundw
                case rel => exact ⟨k + 1, _, _, by go_num, by omega, RB.out, QB.out, CS1.out (by simp), BB.out⟩
                case measure => simp [intOf]; omega
            · skip
              have CT : Hid (∀ W : World, W.heap = wr.heap → Calls Try.prog 12 #[.pointer (some ⟨r, 0, none⟩), .int .i64 40] W fun e w' => e = .returned (.string (x2.extract 0 40)) ∧ Rdr w' 55 w1.heap.size r (itemsB (its0.take 20)) (itemsB ((its0.take 20).take (k + 1))).length 0 ∧ Only r W w') := fun W hW => by
                have hR : Rdr W 55 w1.heap.size r (itemsB (its0.take 20)) (itemsB ((its0.take 20).take k)).length 0 := R.out.keep (fun j _ _ => by rw [hW])
                have cc := rtext_any (most := 40) hR
                rw [WS1.out (by simp)] at cc
                have e := cut40_mk x2
                unfold cut40 at e
                rw [(if_neg h40)] at e
                simp only [e] at cc
                exact cc
              have hz0 : (0 : Int) ≤ (x2.size : Int) := by omega
              have hz1 : (40 : Int) ≤ (x2.size : Int) := by omega
              have hz2 : (40 : Int) < (x2.size : Int) := by omega
              have ez : ((x2.extract 0 40).toList == (x2.extract 0 40).toList) = true := by simp
              go_wp2_with fail
              go_region_held3 (fun w' => w'.cell? ⟨b, o + k * 3 + 2, none⟩ = some (.string x2)) (first | exact g2 | exact (hoa.cell LTW.out NE1.out).trans g2)
                ((first | (go_at_call 12; refine (CT.out _ ?_).mono ?_; (exact rfl); rintro e wa ⟨rfl, hra, hoa⟩)))
              all_goals
                have hoa : Only r wr wa := ⟨hoa.os, hoa.tape, hoa.output, hoa.size, hoa.block⟩
                have RA := Lib.hid hra
                have QA := Lib.hid (Q.out.only hoa (.inr HRB.out))
                have BA := Lib.hid (only_step B.out hoa HWR.out)
                clear hra hoa
                go_wp2_with fail
                refine (rtext_any (most := 40) QA.out).mono ?_
                rintro e wb ⟨rfl, hqb, hob⟩
                have QB := Lib.hid hqb
                have RB := Lib.hid (RA.out.only hob (.inl HRQ.out))
                have BB := Lib.hid (only_step BA.out hob HWQ.out)
                clear hqb hob
                go_wp2_with fail
                go_roundw
                case rel => exact ⟨k + 1, _, _, by go_num, by omega, RB.out, QB.out, CS1.out (by simp), BB.out⟩
                case measure => simp [intOf]; omega
          | false =>
            have CN : Hid (∀ W : World, W.heap = wr.heap → Calls Try.prog 13 #[.pointer (some ⟨r, 0, none⟩)] W fun e w' => e = .returned (.int .i64 x1) ∧ Rdr w' 55 w1.heap.size r (itemsB (its0.take 20)) (itemsB ((its0.take 20).take (k + 1))).length 0 ∧ Only r W w') := fun W hW => by
              have hR : Rdr W 55 w1.heap.size r (itemsB (its0.take 20)) (itemsB ((its0.take 20).take k)).length 0 := R.out.keep (fun j _ _ => by rw [hW])
              have cc := rnum_any hR
              rw [WS2.out (by simp)] at cc
              exact cc
            go_wp2_with fail
            go_region_held3 (fun w' => w'.cell? ⟨b, o + k * 3 + 1, none⟩ = some (.int .i64 x1)) (first | exact g1 | exact (hoa.cell LTW.out NE1.out).trans g1)
              ((first | (go_at_call 13; refine (CN.out _ ?_).mono ?_; (exact rfl); rintro e wa ⟨rfl, hra, hoa⟩)))
            have hoa : Only r wr wa := ⟨hoa.os, hoa.tape, hoa.output, hoa.size, hoa.block⟩
            have RA := Lib.hid hra
            have QA := Lib.hid (Q.out.only hoa (.inr HRB.out))
            have BA := Lib.hid (only_step B.out hoa HWR.out)
            clear hra hoa
            go_wp2_with fail
            refine (rnum_any QA.out).mono ?_
            rintro e wb ⟨rfl, hqb, hob⟩
            have QB := Lib.hid hqb
            have RB := Lib.hid (RA.out.only hob (.inl HRQ.out))
            have BB := Lib.hid (only_step BA.out hob HWQ.out)
            clear hqb hob
            go_wp2_with fail
            go_roundw
            case rel => exact ⟨k + 1, _, _, by go_num, by omega, RB.out, QB.out, CS2.out (by simp), BB.out⟩
            case measure => simp [intOf]; omega
        · skip
          have hP : (itemsB ((its0.take 20).take k)).length = m1 := by
            rw [List.take_of_length_le (by have := IT.out.1; omega)]
            have := S1.out.len; rwa [bv_len] at this
          have hB : itemsB (its0.take 20) = itemsB ((its0.take 20).take k) := (congrArg itemsB (List.take_of_length_le (by have := IT.out.1; omega))).symm
          have CU : Hid (CutAt kk m1 p q) := by have := C.out; rw [hP] at this; exact this
          have R9 : Hid (Rdr wr 55 w1.heap.size r (itemsB (its0.take 20)) m1 0) := by have := R.out; rw [hP] at this; exact this
          have HE : Hid (endOf (itemsB (its0.take 20)) m1 0 = 0) := by
            show _ = _
            have e : (itemsB (its0.take 20)).length = m1 := by rw [hB]; exact hP
            rw [← e]; exact endOf_all _
          clear hP hB
          go_wp2_with fail
          have c9 := end_any R9.out
          rw [HE.out] at c9
          refine c9.mono ?_
          clear c9
          rintro e w9 ⟨rfl, j9, rfl⟩
          go_wp2_with fail
          refine (at_any (R9.out.drewN j9)).mono ?_
          rintro e w10 ⟨rfl, rfl⟩
          go_wp2_with fail
          refine (wrong_any (Q.out.drewN j9)).mono ?_
          rintro e w10 ⟨rfl, rfl⟩
          obtain rfl : q = 7 := by
            have h1 := CU.out
            have h2 := HKK.out
            unfold CutAt at h1
            omega
          go_wp2_with fail
          refine (runs_any _).mono ?_
          rintro e w11 ⟨rfl, hb11⟩
          have B11 := Lib.hid (below_step (below_drewN B.out j9) hb11)
          clear hb11
          go_wp2_with fail
          go_ret
          exact ⟨rfl, B11.out⟩
end Go.Proofs.Ytkmpckfpoaakfaa
