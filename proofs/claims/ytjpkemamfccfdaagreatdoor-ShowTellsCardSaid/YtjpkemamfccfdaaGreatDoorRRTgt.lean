/- The reference's test of targets: three loops in one another. -/
import Derived.Test.YtjpkemamfccfdaaGreatDoorRRLeaf
namespace Go.Proofs.YtjpkemamfccfdaaGreatDoor
set_option linter.unusedVariables false
open Go.RowKit

theorem parts_cases (n : Nat) : (n = 0 ∧ partsE n = 1) ∨ (8 < n ∧ partsE n = 6) ∨ ((1 ≤ n ∧ n ≤ 8) ∧ partsE n = 0) := by
  unfold partsE
  by_cases h0 : n = 0
  · exact .inl ⟨h0, by rw [if_pos h0]⟩
  · by_cases h8 : 8 < n
    · exact .inr (.inl ⟨h8, by rw [if_neg h0, if_pos h8]⟩)
    · exact .inr (.inr ⟨by omega, by rw [if_neg h0, if_neg h8]⟩)
theorem anyE_bad {l : List (List Mat)} {r : Int} (h : partsE l.length = r) (hr : r ≠ 0) : anyE l = r := by unfold anyE; rw [if_pos (by rw [h]; exact hr), h]
theorem anyE_ok {l : List (List Mat)} (h : partsE l.length = 0) : anyE l = firstE allE l := by unfold anyE; rw [if_neg (by rw [h]; simp)]
theorem allE_bad {l : List Mat} {r : Int} (h : partsE l.length = r) (hr : r ≠ 0) : allE l = r := by unfold allE; rw [if_pos (by rw [h]; exact hr), h]
theorem allE_ok {l : List Mat} (h : partsE l.length = 0) : allE l = firstE matE l := by unfold allE; rw [if_neg (by rw [h]; simp)]

theorem mat_ways {ab rb : Bool} {op e : Int} (h : e = if ab = true ∧ 1 ≤ op ∧ op ≤ 3 ∧ rb = true then 0 else 1) :
    (e = 1 ∧ (ab = false ∨ ab = true ∧ op < 1 ∨ ab = true ∧ ¬ op < 1 ∧ 3 < op ∨ ab = true ∧ ¬ op < 1 ∧ ¬ 3 < op ∧ rb = false)) ∨ (e = 0 ∧ ab = true ∧ ¬ op < 1 ∧ ¬ 3 < op ∧ rb = true) := by
  subst h
  cases ab
  · exact .inl ⟨by simp, .inl rfl⟩
  · by_cases h1 : op < 1
    · exact .inl ⟨if_neg (by omega), .inr (.inl ⟨rfl, h1⟩)⟩
    · by_cases h3 : 3 < op
      · exact .inl ⟨if_neg (by omega), .inr (.inr (.inl ⟨rfl, h1, h3⟩))⟩
      · cases rb
        · exact .inl ⟨by simp, .inr (.inr (.inr ⟨rfl, h1, h3, rfl⟩))⟩
        · exact .inr ⟨if_pos ⟨rfl, by omega, by omega, rfl⟩, rfl, h1, h3, rfl⟩

set_option maxRecDepth 100000 in
set_option maxHeartbeats 12800000 in
theorem rtgt_any {R : Nat → Prop} {A : Option Addr} {n c : Nat} {t : Tgt} (w : World) (h : Tg w R A n c t) :
    Calls Tryz.prog 67 #[.slice A n c] w fun e w' => e = .returned (.int .i64 (tgE t)) ∧ Below w.heap.size w w' := by
  have hle := Rw.le h
  have hcap := Rw.cap h
  have HL := Lib.hid (Rw.len h)
  unfold maxLen at hcap
  have H := Lib.hid h
  clear h
  by_cases h8 : 8 < n
  · have hb : (8 : Int) < (n : Int) := by omega
    have HE : Hid (tgE t = 6) := by
      show tgE t = 6
      unfold tgE
      rw [if_pos (by rw [HL.out]; exact h8)]
    go_enter Tryz.func67, Tryz.ntmps67
    go_wp2_with fail
    go_ret
    exact ⟨ret_int HE.out.symm, Below.refl _ _⟩
  have hb : ¬ (8 : Int) < (n : Int) := by omega
  have HE : Hid (tgE t = firstE anyE t) := by
    show tgE t = _
    unfold tgE
    rw [if_neg (by rw [HL.out]; exact h8)]
  go_enter Tryz.func67, Tryz.ntmps67
  go_wp2_with fail
  go_loopw [14] (fun i wr => ∃ k : Nat, k ≤ n ∧ i = .int .i64 k ∧ FineTo anyE t k ∧ Below w.heap.size w wr) (fun i _ => n - (intOf i).toNat)
  case atStart => exact ⟨0, Nat.zero_le _, rfl, FineTo.zero _ _, Below.refl _ _⟩
  case round =>
    obtain ⟨k, hk, rfl, hf, hbw⟩ := hrel
    have HF := Lib.hid hf
    have HB := Lib.hid hbw
    clear hf hbw
    by_cases hlt : k < n
    case neg =>
      obtain rfl : k = n := by omega
      go_wp2
      go_ret
      exact ⟨ret_int (HE.out.trans (HF.out.all HL.out)).symm, HB.out⟩
    obtain ⟨b, o, x, A1, n1, c1, rfl, _, _, hx, x0, hA⟩ := (H.out.keep (Kept.all HB.out R) (fun _ h _ => h)).at_ hlt
    have HX := Lib.hid hx
    have HL1 := Lib.hid (Rw.len hA)
    have hle1 := Rw.le hA
    have hcap1 := Rw.cap hA
    unfold maxLen at hcap1
    have HA := Lib.hid hA
    clear hx hA
    have BAD : Hid (∀ r : Int, anyE x = r → r ≠ 0 → tgE t = r) := fun r h0 h1 => HE.out.trans ((HF.out.err HX.out (by rw [h0]; exact h1)).trans h0)
    rcases parts_cases n1 with ⟨h0, hp⟩ | ⟨h0, hp⟩ | ⟨h0, hp⟩
    · have z1 : (n1 : Int) < 1 := by omega
      have hr := BAD.out 1 (anyE_bad (by rw [HL1.out]; exact hp) (by decide)) (by decide)
      have HRR := Lib.hid hr
      clear hp hr
      go_wp2_with fail
      go_ret
      exact ⟨ret_int HRR.out.symm, HB.out⟩
    · have z1 : ¬ (n1 : Int) < 1 := by omega
      have z2 : (8 : Int) < (n1 : Int) := by omega
      have hr := BAD.out 6 (anyE_bad (by rw [HL1.out]; exact hp) (by decide)) (by decide)
      have HRR := Lib.hid hr
      clear hp hr
      go_wp2_with fail
      go_ret
      exact ⟨ret_int HRR.out.symm, HB.out⟩
    have z1 : ¬ (n1 : Int) < 1 := by omega
    have z2 : ¬ (8 : Int) < (n1 : Int) := by omega
    have HP1 := Lib.hid (anyE_ok (l := x) (by rw [HL1.out]; exact hp))
    clear hp
    obtain ⟨w1, hw1⟩ : ∃ w1, w1 = wr := ⟨wr, rfl⟩
    subst hw1
    go_wp2_with fail
    go_loopw [26] (fun i wq => ∃ j : Nat, j ≤ n1 ∧ i = .int .i64 j ∧ FineTo allE x j ∧ Below w1.heap.size w1 wq) (fun i _ => n1 - (intOf i).toNat)
    case atStart => exact ⟨0, Nat.zero_le _, rfl, FineTo.zero _ _, Below.refl _ _⟩
    case round =>
      clear x0
      obtain ⟨j, hj, rfl, hf, hbw⟩ := hrel
      have HF1 := Lib.hid hf
      have HB1 := Lib.hid (below_step HB.out hbw)
      have HBJ := Lib.hid hbw
      have HA1 := Lib.hid (HA.out.keep (Kept.all hbw R) (fun _ h _ => h))
      clear hf hbw
      by_cases hlt1 : j < n1
      case neg =>
        obtain rfl : j = n1 := by omega
        have hany : anyE x = 0 := HP1.out.trans (HF1.out.all HL1.out)
        have HANY := Lib.hid hany
        clear hany
        go_wp2_with fail
        go_roundw
        case rel => exact ⟨k + 1, by omega, by go_num, HF.out.step HX.out HANY.out, HB1.out⟩
        case measure => simp [intOf]; omega
      obtain ⟨b1, o1, y, A2, n2, c2, rfl, _, _, hy, y0, hM⟩ := HA1.out.at_ hlt1
      have HY := Lib.hid hy
      have HL2 := Lib.hid (Rw.len hM)
      have hle2 := Rw.le hM
      have hcap2 := Rw.cap hM
      unfold maxLen at hcap2
      have HM := Lib.hid hM
      clear hy hM
      have BAD1 : Hid (∀ r : Int, allE y = r → r ≠ 0 → tgE t = r) := fun r h0 h1 => BAD.out r (HP1.out.trans ((HF1.out.err HY.out (by rw [h0]; exact h1)).trans h0)) h1
      rcases parts_cases n2 with ⟨h0', hp⟩ | ⟨h0', hp⟩ | ⟨h0', hp⟩
      · have z3 : (n2 : Int) < 1 := by omega
        have hr := BAD1.out 1 (allE_bad (by rw [HL2.out]; exact hp) (by decide)) (by decide)
        have HRR := Lib.hid hr
        clear hp hr
        go_wp2_with fail
        go_ret
        exact ⟨ret_int HRR.out.symm, HB1.out⟩
      · have z3 : ¬ (n2 : Int) < 1 := by omega
        have z4 : (8 : Int) < (n2 : Int) := by omega
        have hr := BAD1.out 6 (allE_bad (by rw [HL2.out]; exact hp) (by decide)) (by decide)
        have HRR := Lib.hid hr
        clear hp hr
        go_wp2_with fail
        go_ret
        exact ⟨ret_int HRR.out.symm, HB1.out⟩
      have z3 : ¬ (n2 : Int) < 1 := by omega
      have z4 : ¬ (8 : Int) < (n2 : Int) := by omega
      have HP2 := Lib.hid (allE_ok (l := y) (by rw [HL2.out]; exact hp))
      clear hp
      obtain ⟨w2, hw2⟩ : ∃ w2, w2 = wr := ⟨wr, rfl⟩
      subst hw2
      go_wp2_with fail
      go_loopw [38] (fun i wq => ∃ q : Nat, q ≤ n2 ∧ i = .int .i64 q ∧ FineTo matE y q ∧ Below w2.heap.size w2 wq) (fun i _ => n2 - (intOf i).toNat)
      case atStart => exact ⟨0, Nat.zero_le _, rfl, FineTo.zero _ _, Below.refl _ _⟩
      case round =>
        clear y0
        obtain ⟨q, hq, rfl, hf, hbw⟩ := hrel
        have HF2 := Lib.hid hf
        have HB2 := Lib.hid (below_step HB1.out hbw)
        have HM2 := Lib.hid (HM.out.keep (Kept.all hbw R) (fun _ h _ => h))
        have HBQ := Lib.hid hbw
        clear hf hbw
        by_cases hlt2 : q < n2
        case neg =>
          obtain rfl : q = n2 := by omega
          have hall : allE y = 0 := HP2.out.trans (HF2.out.all HL2.out)
          have HALL := Lib.hid hall
          clear hall
          go_wp2_with fail
          go_roundw
          case rel => exact ⟨j + 1, by omega, by go_num, HF1.out.step HY.out HALL.out, below_step HBJ.out HBQ.out⟩
          case measure => simp [intOf]; omega
        obtain ⟨b2, o2, m, rfl, _, _, hm, hok, c0, c1', c2', c3, c4, c5, c6⟩ := HM2.out.at_ hlt2
        have HMM := Lib.hid hm
        have HAT := Lib.hid (rattr_any m.a hok.1)
        have HV := Lib.hid (refright_any m.v.k m.v.n m.v.s hok.2.2.2.2)
        have HD : Hid (matE m = if attrB m.a = true ∧ 1 ≤ m.op ∧ m.op ≤ 3 ∧ decide (RightV m.v.k m.v.n m.v.s.data.toList) = true then 0 else 1) := by
          show matE m = _
          simp only [decide_eq_true_eq]
          rfl
        have BAD2 : Hid (matE m = 1 → tgE t = 1) := fun h0 => BAD1.out 1 (HP2.out.trans ((HF2.out.err HMM.out (by rw [h0]; decide)).trans h0)) (by decide)
        have KB := Lib.hid (show Below wr.heap.size wr (wr.alloc (.cells #[.int .i64 m.a.cat, .string m.a.name, .bool m.a.must, .int .i64 m.op, .int .i64 m.v.k, .int .i64 m.v.n, .string m.v.s] 48)) from (Below.refl _ _).alloc (Nat.le_refl _) _)
        have OB := Lib.hid (Ob.made wr 48 #[.int .i64 m.a.cat, .string m.a.name, .bool m.a.must, .int .i64 m.op, .int .i64 m.v.k, .int .i64 m.v.n, .string m.v.s])
        generalize hab : attrB m.a = ab at *
        generalize hrb : decide (RightV m.v.k m.v.n m.v.s.data.toList) = rb at *
        clear hm hok hab hrb
        have hways := mat_ways HD.out
        clear HD
        rcases hways with ⟨hd, hw⟩ | ⟨hd, rfl, o1, o3, rfl⟩
        · have hret := BAD2.out hd
          have HRT := Lib.hid hret
          clear hd hret
          rcases hw with rfl | ⟨rfl, o1⟩ | ⟨rfl, o1, o3⟩ | ⟨rfl, o1, o3, rfl⟩
          all_goals
            go_wp2_with (first
              | (go_at_call 8; refine (HAT.out _).mono ?_; rintro e w4 ⟨rfl, hb4⟩; have B4 := Lib.hid (below_step KB.out hb4); have O4 := Lib.hid (OB.out.below hb4 OB.out.lt); have d3 := O4.out.cell 3; have d4 := O4.out.cell 4; have d5 := O4.out.cell 5; have d6 := O4.out.cell 6; clear hb4)
              | (go_at_call 17; refine (HV.out _).mono ?_; rintro e w5 ⟨rfl, hb5⟩; have B5 := Lib.hid (below_step B4.out hb5); clear hb5))
            go_ret
            exact ⟨ret_int HRT.out.symm, below_step HB2.out (by first | exact B5.out | exact B4.out)⟩
        · have HD := Lib.hid hd
          clear hd
          go_wp2_with (first
            | (go_at_call 8; refine (HAT.out _).mono ?_; rintro e w4 ⟨rfl, hb4⟩; have B4 := Lib.hid (below_step KB.out hb4); have O4 := Lib.hid (OB.out.below hb4 OB.out.lt); have d3 := O4.out.cell 3; have d4 := O4.out.cell 4; have d5 := O4.out.cell 5; have d6 := O4.out.cell 6; clear hb4)
            | (go_at_call 17; refine (HV.out _).mono ?_; rintro e w5 ⟨rfl, hb5⟩; have B5 := Lib.hid (below_step B4.out hb5); clear hb5))
          go_roundw
          case rel => exact ⟨q + 1, by omega, by go_num, HF2.out.step HMM.out HD.out, below_step HBQ.out B5.out⟩
          case measure => simp [intOf]; omega
end Go.Proofs.YtjpkemamfccfdaaGreatDoor
