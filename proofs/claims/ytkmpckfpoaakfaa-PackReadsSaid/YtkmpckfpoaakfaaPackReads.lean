/- PackReads: the walk. -/
import Derived.Test.YtkmpckfpoaakfaaWrongR
import Derived.Test.YtkmpckfpoaakfaaRoomy
import Derived.Test.YtkmpckfpoaakfaaRefTextR
import Derived.Deep.DeepCutAuto
import Derived.Deep.RegionHeld3
namespace Go.Proofs.Ytkmpckfpoaakfaa
set_option linter.unusedVariables false
open Go.RowKit

theorem Only.cell {s : Nat} {w w' : World} (h : Only s w w') {p : Addr} (hb : p.block < w.heap.size) (hne : p.block ≠ s) : w'.cell? p = w.cell? p := World.cell?_of_block (h.heap hb hne)
theorem Ob.sl {w : World} {g : Nat} {t : TypeId} {n : Nat} {xs : List Value} (h : Ob w g t xs.toArray) (hn : xs.length = n) (h63 : n ≤ maxLen) : Sl w (g + 1) (some ⟨g, 0, none⟩) n n xs := by
  refine ⟨hn, Nat.le_refl _, h63, .inr ⟨g, 0, rfl, by omega, fun j u hu => ?_⟩⟩
  have := h.cell j
  rw [Nat.zero_add, this]
  simpa using hu

/-- The two readers, side by side: what a call answers, and where both stand behind it. -/
def Both (fa fb : FuncId) (args : List Value) (bs r hi r' : Nat) (l : List UInt8) (p : Nat) (q : Int) (v : Value) (p' : Nat) (q' : Int) : Prop :=
  (∀ W, Rdr W 55 bs r l p q → Calls Try.prog fa (.pointer (some ⟨r, 0, none⟩) :: args).toArray W fun e w' => e = .returned v ∧ Rdr w' 55 bs r l p' q' ∧ Only r W w') ∧
  (∀ W, RR W hi r' l p q → Calls Try.prog fb (.pointer (some ⟨r', 0, none⟩) :: args).toArray W fun e w' => e = .returned v ∧ RR w' hi r' l p' q' ∧ Only r' W w')

section
variable {bs r hi r' : Nat} {l : List UInt8} {p : Nat} {q : Int}
theorem both_num : Both 13 23 [] bs r hi r' l p q (.int .i64 (rNum l p q).1) (rNum l p q).2.1 (rNum l p q).2.2 := ⟨fun _ h => rnum_any h, fun _ h => rrnum h⟩
theorem both_in (lo up : Int) : Both 24 25 [.int .i64 lo, .int .i64 up] bs r hi r' l p q (.int .i64 (rIn l p q lo up).1) (rIn l p q lo up).2.1 (rIn l p q lo up).2.2 := ⟨fun _ h => rin_any h, fun _ h => rrin h⟩
theorem both_text (most : Int) : Both 12 26 [.int .i64 most] bs r hi r' l p q (.string ⟨(rText l p q most).1.toArray⟩) (rText l p q most).2.1 (rText l p q most).2.2 := ⟨fun _ h => rtext_any h, fun _ h => rrtext h⟩
theorem both_end : Both 27 28 [] bs r hi r' l p q (.int .i64 (endOf l p q)) p q :=
  ⟨fun _ h => (end_any h).mono fun _ _ hh => by obtain ⟨k, hk⟩ := hh.2; subst hk; exact ⟨hh.1, h.drewN k, Only.refl.drewN k⟩, fun _ h => (rrend h).mono fun _ _ hh => by obtain ⟨k, hk⟩ := hh.2; subst hk; exact ⟨hh.1, h.drewN k, Only.refl.drewN k⟩⟩
theorem both_fail (a : Int) : Both 29 30 [.int .i64 a] bs r hi r' l p q (.tuple #[]) (failTo p q a).1 (failTo p q a).2 := ⟨fun _ h => (fail_any a h).mono fun _ _ hh => ⟨hh.1, hh.2.1, hh.2.2.1⟩, fun _ h => rrFail a h⟩
end

def RdsRel (w w1 : World) (bs r hi r' : Nat) (l : List UInt8) (i : Value) (wr : World) : Prop :=
  ∃ (k p : Nat) (q : Int), i = .int .i64 (k : Int) ∧ k ≤ 30 ∧ Rdr wr 55 bs r l p q ∧ RR wr hi r' l p q ∧ Below w.heap.size w wr ∧ Below w1.heap.size w1 wr

set_option maxHeartbeats 12800000 in
set_option maxRecDepth 100000 in
theorem packReads_walk (w : World) (A : Option Addr) (n c : Nat) (hl : ∃ l, Sl w w.heap.size A n c (bv l)) (A2 : Option Addr) (n2 c2 : Nat) (hk : ∃ ks, Asks w A2 n2 c2 ks) :
    Calls Try.prog 5 #[.slice A n c, .slice A2 n2 c2] w fun e w' => e = .returned (.bool true) ∧ Below w.heap.size w w' := by
  obtain ⟨l0, hl⟩ := hl
  obtain ⟨ks, hk⟩ := hk
  have hnc := hl.le
  have hcap := hl.cap
  unfold maxLen at hcap
  have H := Lib.hid hl
  have HK := Lib.hid hk
  clear hl hk
  go_enter Try.func5, Try.ntmps5
  go_upto_region 1 with fail
  go_cut [0] (fun u wx => ∃ (n1 : Nat) (l : List UInt8), u = .slice A n1 c ∧ Sl w w.heap.size A n1 c (bv l) ∧ n1 ≤ 200 ∧ n1 ≤ c ∧ w = wx)
  case first =>
    go_wp2_with fail
    all_goals go_meet
    · exact ⟨200, l0.take 200, rfl, by rw [bv_take]; exact H.out.take (by omega), by omega, by omega, rfl⟩
    · exact ⟨n, l0, rfl, H.out, by omega, by omega, rfl⟩
  case rest =>
    obtain ⟨n1, l, rfl, hl, hn1, hnc1, rfl⟩ := hcut
    have hlen : l.length = n1 := by rw [← bv_len]; exact hl.len
    have HL := Lib.hid hl
    have HLEN := Lib.hid hlen
    clear hl hlen
    go_wp2_with fail
    refine (roomy_any (x := 7) rfl HL.out (Nat.le_refl _) (by omega)).mono ?_
    rintro e w1 ⟨rfl, ho1, hb1⟩
    have B1 := Lib.hid hb1
    have F1 : Hid (Sl w1 (w.heap.size + 1) (some ⟨w.heap.size, 0, none⟩) (n1 + 80) (n1 + 80) (bv (l ++ List.replicate 80 7))) := by
      have := HLEN.out
      exact Ob.sl ho1 (by rw [bv_len, List.length_append, List.length_replicate]; omega) (by unfold maxLen; omega)
    have G1 : Hid (Sl w1 (w.heap.size + 1) (some ⟨w.heap.size, 0, none⟩) n1 (n1 + 80) (bv l)) := by
      have := F1.out.take (k := n1) (by omega)
      rwa [← bv_take, List.take_left' HLEN.out] at this
    have HG : Hid (w.heap.size + 1 ≤ w1.heap.size) := ho1.lt
    clear ho1 hb1
    go_wp2_with fail
    refine (read_any G1.out (by omega)).mono ?_
    rintro e w2 ⟨r, rfl, hr2, hb2⟩
    have R2 := Lib.hid (hr2.then_ ((Below.refl _ w2).alloc (Nat.le_refl _) (.cells #[.slice A n1 c, .int .i64 0, .int .i64 0] 39)))
    have B2 := Lib.hid ((below_step B1.out hb2).alloc (Nat.le_trans B1.out.size hb2.size) (.cells #[.slice A n1 c, .int .i64 0, .int .i64 0] 39))
    have K2 := Lib.hid (hb2.alloc hb2.size (.cells #[.slice A n1 c, .int .i64 0, .int .i64 0] 39))
    have Q2 : Hid (RR (w2.alloc (.cells #[.slice A n1 c, .int .i64 0, .int .i64 0] 39)) w.heap.size w2.heap.size l 0 0) :=
      ⟨A, n1, c, Ob.made _ _ _, HL.out.below B2.out, Nat.zero_le _, by omega, Nat.le_trans B1.out.size hb2.size⟩
    have HRR : Hid (r < w2.heap.size) := hr2.lt
    have HBR : Hid (w1.heap.size ≤ r) := hr2.base
    clear hr2 hb2
    go_wp2_with fail
    generalize hq2 : w2.heap.size = r' at *
    generalize hwx : w2.alloc (.cells #[.slice A n1 c, .int .i64 0, .int .i64 0] 39) = wx at *
    clear hq2 hwx
    go_loopw [8] (fun i wr => RdsRel w w1 w1.heap.size r w.heap.size r' l i wr) (fun i _ => 30 - (intOf i).toNat)
    case atStart => exact ⟨0, 0, 0, rfl, by omega, R2.out, Q2.out, B2.out, K2.out⟩
    case round =>
      obtain ⟨k, p, q, rfl, hk30, hr, hrr, hb, hb1⟩ := hrel
      have R := Lib.hid hr
      have RQ := Lib.hid hrr
      have B := Lib.hid hb
      have KB := Lib.hid hb1
      clear hr hrr hb hb1
      by_cases hlt : k < n2
      · by_cases h30 : k < 30
        · have ask := HK.out
          obtain ⟨a1, a2, a3, a4, a5⟩ := ask
          obtain ⟨b2, o2, rfl, hb2, hcells⟩ := a4.resolve_left (by omega)
          have hkl : k < ks.length := by omega
          obtain ⟨g0, g1, g2⟩ := hcells k hkl
          have g0 := (B.out.cell (p := ⟨b2, o2 + k * 3, none⟩) hb2).trans g0
          have g1 := (B.out.cell (p := ⟨b2, o2 + k * 3 + 1, none⟩) hb2).trans g1
          have g2 := (B.out.cell (p := ⟨b2, o2 + k * 3 + 2, none⟩) hb2).trans g2
          generalize ks[k].1 = x0 at *
          generalize ks[k].2.1 = x1 at *
          generalize ks[k].2.2 = x2 at *
          have HB2 := Lib.hid hb2
          have NE1 : Hid (b2 ≠ r) := by have h1 := HBR.out; have h2 := HG.out; have h3 := HB2.out; show b2 ≠ r; omega
          have NE2 : Hid (b2 ≠ r') := by have h1 := HBR.out; have h2 := HG.out; have h3 := HB2.out; have h4 := HRR.out; show b2 ≠ r'; omega
          have LTW : Hid (b2 < wr.heap.size) := Nat.lt_of_lt_of_le HB2.out B.out.size
          have HGR : Hid (w.heap.size ≤ r) := by have h1 := HBR.out; have h2 := HG.out; show _ ≤ _; omega
          clear a1 a3 a4 a5 hcells hb2
          by_cases hk1 : x0 = 1
          · subst hk1
            obtain ⟨z, p', q', BO⟩ : ∃ (z : Int) (p' : Nat) (q' : Int), Hid (Both 13 23 [] w1.heap.size r w.heap.size r' l p q (.int .i64 z) p' q') := ⟨_, _, _, both_num⟩
            have HGR2 := HGR.out
            have HLT2 := HRR.out
            clear HGR2 HLT2
            go_wp2_with fail
            refine (BO.out.1 _ R.out).mono ?_
            rintro e wa ⟨rfl, hra, hoa⟩
            have RA := Lib.hid hra
            have RQA := Lib.hid (RQ.out.only hoa (Nat.ne_of_lt HRR.out) HGR.out)
            have BA := Lib.hid (B.out.trans (hoa.below B.out.size HGR.out))
            have KA := Lib.hid (KB.out.trans (hoa.below KB.out.size HBR.out))
            clear hra hoa
            go_wp2_with fail
            refine (BO.out.2 _ RQA.out).mono ?_
            rintro e wb ⟨rfl, hrb, hob⟩
            have RB := Lib.hid (RA.out.only hob (.inl HRR.out))
            have RQB := Lib.hid hrb
            have BBB := Lib.hid (BA.out.trans (hob.below BA.out.size (Nat.le_of_lt (Nat.lt_of_le_of_lt HGR.out HRR.out))))
            have KBB := Lib.hid (KA.out.trans (hob.below KA.out.size (Nat.le_of_lt (Nat.lt_of_le_of_lt HBR.out HRR.out))))
            clear hrb hob
            
            obtain ⟨A5, n5, c5, y0, y1, y2, _, _, _, _, _, _, _⟩ := RQB.out.cells
            have C18 : Hid (∀ j, Calls Try.prog 18 #[.pointer (some ⟨r, 0, none⟩)] (wb.drewN j) fun e w' => e = .returned (.int .i64 (p' : Int)) ∧ w' = wb.drewN j) := fun j => wat (RB.out.drewN j)
            have C17 : Hid (∀ j, Calls Try.prog 17 #[.pointer (some ⟨r, 0, none⟩)] (wb.drewN j) fun e w' => e = .returned (.int .i64 q') ∧ w' = wb.drewN j) := fun j => wwrong (RB.out.drewN j)
            go_wp2_with fail
            go_quiet ((first
              | (go_at_call 18; exact Calls.quiet_of_same (C18.out _))
              | (go_at_call 17; exact Calls.quiet_of_same (C17.out _))))
            go_wp2_with fail
            go_roundw
            case rel => exact ⟨k + 1, p', q', by go_num, by omega, RB.out.drewN _, RQB.out.drewN _, below_drewN BBB.out _, below_drewN KBB.out _⟩
            case measure => simp [intOf]; omega
          by_cases hk2 : x0 = 2
          · subst hk2
            obtain ⟨z, p', q', BO⟩ : ∃ (z : Int) (p' : Nat) (q' : Int), Hid (Both 24 25 [.int .i64 x1, .int .i64 x2] w1.heap.size r w.heap.size r' l p q (.int .i64 z) p' q') := ⟨_, _, _, both_in x1 x2⟩
            have HGR2 := HGR.out
            have HLT2 := HRR.out
            clear HGR2 HLT2
            go_wp2_with fail
            go_region_held3 (fun w' => w'.cell? ⟨b2, o2 + k * 3 + 1, none⟩ = some (.int .i64 x1) ∧ w'.cell? ⟨b2, o2 + k * 3 + 2, none⟩ = some (.int .i64 x2)) (first | exact ⟨g1, g2⟩ | exact ⟨(hoa.cell LTW.out NE1.out).trans g1, (hoa.cell LTW.out NE1.out).trans g2⟩ | exact ⟨(hob.cell (Nat.lt_of_lt_of_le LTW.out hoa.size) NE2.out).trans ((hoa.cell LTW.out NE1.out).trans g1), (hob.cell (Nat.lt_of_lt_of_le LTW.out hoa.size) NE2.out).trans ((hoa.cell LTW.out NE1.out).trans g2)⟩) ((first
              | (go_at_call 24; (refine (BO.out.1 _ ?_).mono ?_); (exact R.out); rintro e wa ⟨rfl, hra, hoa⟩)
              | (go_at_call 25; (refine (BO.out.2 _ ?_).mono ?_); (exact RQ.out.only (w := wr) ⟨hoa.os, hoa.tape, hoa.output, hoa.size, hoa.block⟩ (Nat.ne_of_lt HRR.out) HGR.out); rintro e wb ⟨rfl, hrb, hob⟩)))
            have hoa : Only r wr wa := ⟨hoa.os, hoa.tape, hoa.output, hoa.size, hoa.block⟩
            have RA := Lib.hid hra
            have RQA := Lib.hid (RQ.out.only hoa (Nat.ne_of_lt HRR.out) HGR.out)
            have BA := Lib.hid (B.out.trans (hoa.below B.out.size HGR.out))
            have KA := Lib.hid (KB.out.trans (hoa.below KB.out.size HBR.out))
            have RB := Lib.hid (RA.out.only hob (.inl HRR.out))
            have RQB := Lib.hid hrb
            have BBB := Lib.hid (BA.out.trans (hob.below BA.out.size (Nat.le_of_lt (Nat.lt_of_le_of_lt HGR.out HRR.out))))
            have KBB := Lib.hid (KA.out.trans (hob.below KA.out.size (Nat.le_of_lt (Nat.lt_of_le_of_lt HBR.out HRR.out))))
            clear hra hoa hrb hob
            
            obtain ⟨A5, n5, c5, y0, y1, y2, _, _, _, _, _, _, _⟩ := RQB.out.cells
            have C18 : Hid (∀ j, Calls Try.prog 18 #[.pointer (some ⟨r, 0, none⟩)] (wb.drewN j) fun e w' => e = .returned (.int .i64 (p' : Int)) ∧ w' = wb.drewN j) := fun j => wat (RB.out.drewN j)
            have C17 : Hid (∀ j, Calls Try.prog 17 #[.pointer (some ⟨r, 0, none⟩)] (wb.drewN j) fun e w' => e = .returned (.int .i64 q') ∧ w' = wb.drewN j) := fun j => wwrong (RB.out.drewN j)
            go_wp2_with fail
            go_quiet ((first
              | (go_at_call 18; exact Calls.quiet_of_same (C18.out _))
              | (go_at_call 17; exact Calls.quiet_of_same (C17.out _))))
            go_wp2_with fail
            go_roundw
            case rel => exact ⟨k + 1, p', q', by go_num, by omega, RB.out.drewN _, RQB.out.drewN _, below_drewN BBB.out _, below_drewN KBB.out _⟩
            case measure => simp [intOf]; omega
          by_cases hk3 : x0 = 3
          · subst hk3
            obtain ⟨z, p', q', BO⟩ : ∃ (z : ByteArray) (p' : Nat) (q' : Int), Hid (Both 12 26 [.int .i64 x1] w1.heap.size r w.heap.size r' l p q (.string z) p' q') := ⟨_, _, _, both_text x1⟩
            have ez : (z.toList == z.toList) = true := by simp
            have HGR2 := HGR.out
            have HLT2 := HRR.out
            clear HGR2 HLT2
            go_wp2_with fail
            go_region_held3 (fun w' => w'.cell? ⟨b2, o2 + k * 3 + 1, none⟩ = some (.int .i64 x1) ∧ w'.cell? ⟨b2, o2 + k * 3 + 2, none⟩ = some (.int .i64 x2)) (first | exact ⟨g1, g2⟩ | exact ⟨(hoa.cell LTW.out NE1.out).trans g1, (hoa.cell LTW.out NE1.out).trans g2⟩ | exact ⟨(hob.cell (Nat.lt_of_lt_of_le LTW.out hoa.size) NE2.out).trans ((hoa.cell LTW.out NE1.out).trans g1), (hob.cell (Nat.lt_of_lt_of_le LTW.out hoa.size) NE2.out).trans ((hoa.cell LTW.out NE1.out).trans g2)⟩) ((first
              | (go_at_call 12; (refine (BO.out.1 _ ?_).mono ?_); (exact R.out); rintro e wa ⟨rfl, hra, hoa⟩)
              | (go_at_call 26; (refine (BO.out.2 _ ?_).mono ?_); (exact RQ.out.only (w := wr) ⟨hoa.os, hoa.tape, hoa.output, hoa.size, hoa.block⟩ (Nat.ne_of_lt HRR.out) HGR.out); rintro e wb ⟨rfl, hrb, hob⟩)))
            have hoa : Only r wr wa := ⟨hoa.os, hoa.tape, hoa.output, hoa.size, hoa.block⟩
            have RA := Lib.hid hra
            have RQA := Lib.hid (RQ.out.only hoa (Nat.ne_of_lt HRR.out) HGR.out)
            have BA := Lib.hid (B.out.trans (hoa.below B.out.size HGR.out))
            have KA := Lib.hid (KB.out.trans (hoa.below KB.out.size HBR.out))
            have RB := Lib.hid (RA.out.only hob (.inl HRR.out))
            have RQB := Lib.hid hrb
            have BBB := Lib.hid (BA.out.trans (hob.below BA.out.size (Nat.le_of_lt (Nat.lt_of_le_of_lt HGR.out HRR.out))))
            have KBB := Lib.hid (KA.out.trans (hob.below KA.out.size (Nat.le_of_lt (Nat.lt_of_le_of_lt HBR.out HRR.out))))
            clear hra hoa hrb hob
            
            obtain ⟨A5, n5, c5, y0, y1, y2, _, _, _, _, _, _, _⟩ := RQB.out.cells
            have C18 : Hid (∀ j, Calls Try.prog 18 #[.pointer (some ⟨r, 0, none⟩)] (wb.drewN j) fun e w' => e = .returned (.int .i64 (p' : Int)) ∧ w' = wb.drewN j) := fun j => wat (RB.out.drewN j)
            have C17 : Hid (∀ j, Calls Try.prog 17 #[.pointer (some ⟨r, 0, none⟩)] (wb.drewN j) fun e w' => e = .returned (.int .i64 q') ∧ w' = wb.drewN j) := fun j => wwrong (RB.out.drewN j)
            go_wp2_with fail
            go_quiet ((first
              | (go_at_call 18; exact Calls.quiet_of_same (C18.out _))
              | (go_at_call 17; exact Calls.quiet_of_same (C17.out _))))
            go_wp2_with fail
            go_roundw
            case rel => exact ⟨k + 1, p', q', by go_num, by omega, RB.out.drewN _, RQB.out.drewN _, below_drewN BBB.out _, below_drewN KBB.out _⟩
            case measure => simp [intOf]; omega
          by_cases hk4 : x0 = 4
          · subst hk4
            obtain ⟨z, p', q', BO⟩ : ∃ (z : Int) (p' : Nat) (q' : Int), Hid (Both 27 28 [] w1.heap.size r w.heap.size r' l p q (.int .i64 z) p' q') := ⟨_, _, _, both_end⟩
            have HGR2 := HGR.out
            have HLT2 := HRR.out
            clear HGR2 HLT2
            go_wp2_with fail
            refine (BO.out.1 _ R.out).mono ?_
            rintro e wa ⟨rfl, hra, hoa⟩
            have RA := Lib.hid hra
            have RQA := Lib.hid (RQ.out.only hoa (Nat.ne_of_lt HRR.out) HGR.out)
            have BA := Lib.hid (B.out.trans (hoa.below B.out.size HGR.out))
            have KA := Lib.hid (KB.out.trans (hoa.below KB.out.size HBR.out))
            clear hra hoa
            go_wp2_with fail
            refine (BO.out.2 _ RQA.out).mono ?_
            rintro e wb ⟨rfl, hrb, hob⟩
            have RB := Lib.hid (RA.out.only hob (.inl HRR.out))
            have RQB := Lib.hid hrb
            have BBB := Lib.hid (BA.out.trans (hob.below BA.out.size (Nat.le_of_lt (Nat.lt_of_le_of_lt HGR.out HRR.out))))
            have KBB := Lib.hid (KA.out.trans (hob.below KA.out.size (Nat.le_of_lt (Nat.lt_of_le_of_lt HBR.out HRR.out))))
            clear hrb hob
            
            obtain ⟨A5, n5, c5, y0, y1, y2, _, _, _, _, _, _, _⟩ := RQB.out.cells
            have C18 : Hid (∀ j, Calls Try.prog 18 #[.pointer (some ⟨r, 0, none⟩)] (wb.drewN j) fun e w' => e = .returned (.int .i64 (p' : Int)) ∧ w' = wb.drewN j) := fun j => wat (RB.out.drewN j)
            have C17 : Hid (∀ j, Calls Try.prog 17 #[.pointer (some ⟨r, 0, none⟩)] (wb.drewN j) fun e w' => e = .returned (.int .i64 q') ∧ w' = wb.drewN j) := fun j => wwrong (RB.out.drewN j)
            go_wp2_with fail
            go_quiet ((first
              | (go_at_call 18; exact Calls.quiet_of_same (C18.out _))
              | (go_at_call 17; exact Calls.quiet_of_same (C17.out _))))
            go_wp2_with fail
            go_roundw
            case rel => exact ⟨k + 1, p', q', by go_num, by omega, RB.out.drewN _, RQB.out.drewN _, below_drewN BBB.out _, below_drewN KBB.out _⟩
            case measure => simp [intOf]; omega
          by_cases hk5 : x0 = 5
          · subst hk5
            obtain ⟨p', q', BO⟩ : ∃ (p' : Nat) (q' : Int), Hid (Both 29 30 [.int .i64 x1] w1.heap.size r w.heap.size r' l p q (.tuple #[]) p' q') := ⟨_, _, both_fail x1⟩
            have HGR2 := HGR.out
            have HLT2 := HRR.out
            clear HGR2 HLT2
            go_wp2_with fail
            refine (BO.out.1 _ R.out).mono ?_
            rintro e wa ⟨rfl, hra, hoa⟩
            have RA := Lib.hid hra
            have RQA := Lib.hid (RQ.out.only hoa (Nat.ne_of_lt HRR.out) HGR.out)
            have BA := Lib.hid (B.out.trans (hoa.below B.out.size HGR.out))
            have KA := Lib.hid (KB.out.trans (hoa.below KB.out.size HBR.out))
            have k0 := (hoa.cell (p := ⟨b2, o2 + k * 3, none⟩) LTW.out NE1.out).trans g0
            have k1 := (hoa.cell (p := ⟨b2, o2 + k * 3 + 1, none⟩) LTW.out NE1.out).trans g1
            clear hra hoa
            go_wp2_with fail
            refine (BO.out.2 _ RQA.out).mono ?_
            rintro e wb ⟨rfl, hrb, hob⟩
            have RB := Lib.hid (RA.out.only hob (.inl HRR.out))
            have RQB := Lib.hid hrb
            have BBB := Lib.hid (BA.out.trans (hob.below BA.out.size (Nat.le_of_lt (Nat.lt_of_le_of_lt HGR.out HRR.out))))
            have KBB := Lib.hid (KA.out.trans (hob.below KA.out.size (Nat.le_of_lt (Nat.lt_of_le_of_lt HBR.out HRR.out))))
            clear hrb hob
            
            obtain ⟨A5, n5, c5, y0, y1, y2, _, _, _, _, _, _, _⟩ := RQB.out.cells
            have C18 : Hid (∀ j, Calls Try.prog 18 #[.pointer (some ⟨r, 0, none⟩)] (wb.drewN j) fun e w' => e = .returned (.int .i64 (p' : Int)) ∧ w' = wb.drewN j) := fun j => wat (RB.out.drewN j)
            have C17 : Hid (∀ j, Calls Try.prog 17 #[.pointer (some ⟨r, 0, none⟩)] (wb.drewN j) fun e w' => e = .returned (.int .i64 q') ∧ w' = wb.drewN j) := fun j => wwrong (RB.out.drewN j)
            go_wp2_with fail
            go_quiet ((first
              | (go_at_call 18; exact Calls.quiet_of_same (C18.out _))
              | (go_at_call 17; exact Calls.quiet_of_same (C17.out _))))
            go_wp2_with fail
            go_roundw
            case rel => exact ⟨k + 1, p', q', by go_num, by omega, RB.out.drewN _, RQB.out.drewN _, below_drewN BBB.out _, below_drewN KBB.out _⟩
            case measure => simp [intOf]; omega
          have z1 : (x0 == 1) = false := by rw [beq_eq_false_iff_ne]; assumption
          have z2 : (x0 == 2) = false := by rw [beq_eq_false_iff_ne]; assumption
          have z3 : (x0 == 3) = false := by rw [beq_eq_false_iff_ne]; assumption
          have z4 : (x0 == 4) = false := by rw [beq_eq_false_iff_ne]; assumption
          have z5 : (x0 == 5) = false := by rw [beq_eq_false_iff_ne]; assumption
          
          obtain ⟨A5, n5, c5, y0, y1, y2, _, _, _, _, _, _, _⟩ := RQ.out.cells
          have C18 : Hid (∀ j, Calls Try.prog 18 #[.pointer (some ⟨r, 0, none⟩)] (wr.drewN j) fun e w' => e = .returned (.int .i64 (p : Int)) ∧ w' = wr.drewN j) := fun j => wat (R.out.drewN j)
          have C17 : Hid (∀ j, Calls Try.prog 17 #[.pointer (some ⟨r, 0, none⟩)] (wr.drewN j) fun e w' => e = .returned (.int .i64 q) ∧ w' = wr.drewN j) := fun j => wwrong (R.out.drewN j)
          go_wp2_with fail
          go_quiet ((first
            | (go_at_call 18; exact Calls.quiet_of_same (C18.out _))
            | (go_at_call 17; exact Calls.quiet_of_same (C17.out _))))
          go_wp2_with fail
          go_roundw
          case rel => exact ⟨k + 1, p, q, by go_num, by omega, R.out.drewN _, RQ.out.drewN _, below_drewN B.out _, below_drewN KB.out _⟩
          case measure => simp [intOf]; omega
        · go_wp2_with fail
          refine (intact_any (x := 7) rfl (F1.out.below (KB.out.mono HG.out)) (HL.out.below B.out) (by omega)).mono ?_
          rintro e w8 ⟨rfl, hb8⟩
          have B8 := Lib.hid (below_step B.out hb8)
          clear hb8
          go_wp2_with fail
          refine (runs_any _).mono ?_
          rintro e w9 ⟨rfl, hb9⟩
          have B9 := Lib.hid (below_step B8.out hb9)
          clear hb9
          go_wp2_with fail
          go_ret
          exact ⟨rfl, B9.out⟩
      · go_wp2_with fail
        refine (intact_any (x := 7) rfl (F1.out.below (KB.out.mono HG.out)) (HL.out.below B.out) (by omega)).mono ?_
        rintro e w8 ⟨rfl, hb8⟩
        have B8 := Lib.hid (below_step B.out hb8)
        clear hb8
        go_wp2_with fail
        refine (runs_any _).mono ?_
        rintro e w9 ⟨rfl, hb9⟩
        have B9 := Lib.hid (below_step B8.out hb9)
        clear hb9
        go_wp2_with fail
        go_ret
        exact ⟨rfl, B9.out⟩
end Go.Proofs.Ytkmpckfpoaakfaa
