/- bailiffref1.Reader's Num. -/
import Derived.Test.YtcelkfahkodlhaaDoorRefR
namespace Go.Proofs.YtcelkfahkodlhaaDoor
set_option linter.unusedVariables false
open Go.RowKit

theorem half_wrap1 {v : Nat} (h : v < 18446744073709551616) : wrap64 ((v : Int) / 2) = (v : Int) / 2 := by
  unfold wrap64; omega
theorem u64_low {v : Nat} (h : v < 18446744073709551616) : bits .and .u64 (v : Int) 1 = (v : Int) % 2 := by
  have := u64_and_nat v 1 h (by omega)
  rw [nat_mask1] at this
  simpa using this

/-- What the loop of the reference's Num holds. -/
def RnRel (L : List UInt8) (w : World) (u i : Value) (wr : World) : Prop :=
  ∃ (k m : Nat) (q : Nat), i = .int .i64 (k : Int) ∧ u = .int .u64 (m : Int) ∧ k ≤ 9 ∧ k ≤ L.length ∧ m < 128 ^ k ∧ dec 0 0 L = dec k m (L.drop k) ∧ wr = w.drewN q

theorem rn_step {L : List UInt8} {k m bb : Nat} (hk : k < 9) (hl : k < L.length) (hb : L[k].toNat = bb) (hbig : 128 ≤ bb) (hm : m < 128 ^ k) (hd : dec 0 0 L = dec k m (L.drop k)) :
    m + bb % 128 * 128 ^ k < 128 ^ (k + 1) ∧ dec 0 0 L = dec (k + 1) (m + bb % 128 * 128 ^ k) (L.drop (k + 1)) := by
  have := L[k].toNat_lt
  constructor
  · have h1 : bb % 128 * 128 ^ k ≤ 127 * 128 ^ k := Nat.mul_le_mul_right _ (by omega)
    rw [Nat.pow_succ]; omega
  · rw [hd, List.drop_eq_getElem_cons hl]
    simp only [dec, hb]
    rw [if_neg (by omega), if_pos hbig, show bb % 128 = bb - 128 from by omega]

theorem rn_good {L : List UInt8} {k m bb : Nat} (hk : k < 10) (hl : k < L.length) (hb : L[k].toNat = bb) (hbig : bb < 128) (hd : dec 0 0 L = dec k m (L.drop k))
    (h1 : ¬((0 < k ∧ bb = 0) ∨ (k = 9 ∧ 1 < bb))) : dec 0 0 L = some (m + bb % 128 * 128 ^ k, k + 1) := by
  rw [hd, List.drop_eq_getElem_cons hl]
  simp only [dec, hb]
  rw [if_neg (by omega), if_neg (by omega), if_neg h1, show bb % 128 = bb from by omega]
theorem rn_bad {L : List UInt8} {k m bb : Nat} (hk : k ≤ 9) (hl : k < L.length) (hb : L[k].toNat = bb) (hd : dec 0 0 L = dec k m (L.drop k))
    (h1 : (0 < k ∧ bb = 0) ∨ (k = 9 ∧ 1 < bb)) : dec 0 0 L = none := by
  rw [hd, List.drop_eq_getElem_cons hl]
  simp only [dec, hb]
  rw [if_neg (by omega)]
  split
  · exact dec_none_le (by omega)
  · first | rfl | rw [if_pos h1]

section
variable {w : World} {hi r p : Nat} {l : List UInt8} {q : Int}

theorem RR.cellq (h : RR w hi r l p q) (k : Nat) : RR (w.drewN k) hi r l p q := h

set_option maxHeartbeats 6400000 in
set_option maxRecDepth 100000 in
theorem rrnum (h : RR w hi r l p q) : Calls Tryd.prog 54 #[.pointer (some ⟨r, 0, none⟩)] w fun e w' =>
    e = .returned (.int .i64 (rNum l p q).1) ∧ RR w' hi r l (rNum l p q).2.1 (rNum l p q).2.2 ∧ Only r w w' := by
  have HR := Lib.hid h
  obtain ⟨A, n, c, h0, h1, h2, f0, f1, f2, hs, hl, hp, hn⟩ := h.cells
  have hnc := hs.le
  have hcap := hs.cap
  unfold maxLen at hcap
  have HL := Lib.hid hl
  have HS := Lib.hid hs
  clear hs hl h
  by_cases hq : q = 0
  · subst hq
    have hfl : ∀ k, Calls Tryd.prog 55 #[.pointer (some ⟨r, 0, none⟩), .int .i64 7] (w.drewN k) fun e w' => e = .returned (.int .i64 0) ∧ RR w' hi r l p 7 ∧ Only r w w' := fun k =>
      (rrfail 7 (HR.out.drewN k)).mono fun _ _ hh => ⟨hh.1, hh.2.1, hh.2.2.of_drewN⟩
    have HFL := Lib.hid hfl
    clear hfl
    go_enter Tryd.func54, Tryd.ntmps54
    go_wp2_with fail
    go_loopw [3, 4] (fun u i wr => RnRel (l.drop p) w u i wr) (fun _ i _ => 10 - (intOf i).toNat)
    case atStart => exact ⟨0, 0, 0, rfl, rfl, by omega, by omega, by simp, rfl, rfl⟩
    case round =>
      obtain ⟨k, m, qq, rfl, rfl, hk9, hkl, hm, hdec, rfl⟩ := hrel
      have HD := Lib.hid hdec
      have HM := Lib.hid hm
      have HKL := Lib.hid hkl
      clear hdec hm hkl
      by_cases hlt : p + k < n
      · have hge : decide ((n : Int) ≤ (p : Int) + (k : Int)) = false := by simp; omega
        obtain ⟨b, o, rfl, hbh, hl, hc⟩ := HS.out.byte hlt
        have hdl : k < (l.drop p).length := by rw [List.length_drop]; have := HL.out; omega
        have hbb : (l.drop p)[k].toNat = l[p + k].toNat := by simp
        have hb := l[p + k].toNat_lt
        generalize l[p + k].toNat = bb at *
        have HB := Lib.hid hbb
        clear hbb hl
        have hand : bits .and .u8 (bb : Int) 127 = (bb : Int) % 128 := by rw [u8_and127 (by omega) (by omega)]
        by_cases hbad : (0 < k ∧ bb = 0) ∨ (k = 9 ∧ 1 < bb)
        · have HBAD := Lib.hid (rn_bad hk9 hdl HB.out HD.out hbad)
          by_cases h9 : k = 9
          · have hk9' : ((k : Int) == 9) = true := by rw [beq_iff_eq]; omega
            have hk0' : 0 < k := by omega
            by_cases hb1 : 1 < bb
            · have HH := Lib.hid hbad
              have HH9 := Lib.hid h9
              clear hbad h9
              go_wp2_with fail
              go_quiet (fail)
              go_wp2_with fail
              go_quiet (fail)
              go_wp2_with fail
              refine (HFL.out _).mono ?_
              rintro e w1 ⟨rfl, hr1, ho1⟩
              have HR1 := Lib.hid hr1
              have HO1 := Lib.hid ho1
              clear hr1 ho1
              go_wp2_with fail
              go_ret
              rw [rNum_none (HBAD.out)]
              exact ⟨rfl, HR1.out, HO1.out⟩
            · have hb0 : ((bb : Int) == 0) = true := by rw [beq_iff_eq]; omega
              have hb1' : decide (1 < (bb : Int)) = false := by simp; omega
              have HH := Lib.hid hbad
              have HH9 := Lib.hid h9
              clear hbad h9
              go_wp2_with fail
              go_quiet (fail)
              go_wp2_with fail
              go_quiet (fail)
              go_wp2_with fail
              refine (HFL.out _).mono ?_
              rintro e w1 ⟨rfl, hr1, ho1⟩
              have HR1 := Lib.hid hr1
              have HO1 := Lib.hid ho1
              clear hr1 ho1
              go_wp2_with fail
              go_ret
              rw [rNum_none (HBAD.out)]
              exact ⟨rfl, HR1.out, HO1.out⟩
          · have hk9' : ((k : Int) == 9) = false := by rw [beq_eq_false_iff_ne]; omega
            have hk0' : 0 < k := by omega
            have hb0 : ((bb : Int) == 0) = true := by rw [beq_iff_eq]; omega
            have HH := Lib.hid hbad
            clear hbad
            go_wp2_with fail
            go_quiet (fail)
            go_wp2_with fail
            go_quiet (fail)
            go_wp2_with fail
            refine (HFL.out _).mono ?_
            rintro e w1 ⟨rfl, hr1, ho1⟩
            have HR1 := Lib.hid hr1
            have HO1 := Lib.hid ho1
            clear hr1 ho1
            go_wp2_with fail
            go_ret
            rw [rNum_none (HBAD.out)]
            exact ⟨rfl, HR1.out, HO1.out⟩
        · have HNB := Lib.hid hbad
          have hor0 := or_shift HM.out (show k < 9 ∨ (k = 9 ∧ bb % 128 ≤ 1) by omega)
          obtain ⟨v, hv⟩ : ∃ v, m + bb % 128 * 128 ^ k = v := ⟨_, rfl⟩
          rw [hv] at hor0
          have HV := Lib.hid hv
          clear hv
          by_cases h9 : k = 9
          · have hk9' : ((k : Int) == 9) = true := by rw [beq_iff_eq]; omega
            have hk0' : 0 < k := by omega
            have hb0 : ((bb : Int) == 0) = false := by rw [beq_eq_false_iff_ne]; omega
            have hb1 : decide (1 < (bb : Int)) = false := by simp; omega
            have hbig : bb < 128 := by omega
            have HH9 := Lib.hid h9
            clear hbad h9
            have HGD : Hid (dec 0 0 (l.drop p) = some (v, k + 1)) := by show _ = _; rw [← HV.out]; exact rn_good (by omega) hdl HB.out (by omega) HD.out (by have := HNB.out; omega)
            have HLT := Lib.hid (dec_lt HGD.out (by simp))
            have hlow := u64_low HLT.out
            by_cases hodd : v % 2 = 1
            all_goals
              have hpar : ((v : Int) % 2 == 1) = decide (v % 2 = 1) := by rw [Bool.eq_iff_iff, beq_iff_eq, decide_eq_true_iff]; omega
              simp only [hodd, decide_true, decide_false] at hpar
              have HODD := Lib.hid hodd
              clear hodd
              go_wp2_with fail
              go_quiet (fail)
              go_wp2_with fail
              go_quiet (fail)
              go_wp2_with fail
              go_ret
              rw [rNum_some HGD.out]
              have hvv := HLT.out
              have hoo := HODD.out
              refine ⟨ret_int ?_, (HR.out.drewN _).setp (p' := p + (k + 1)) (by have := HL.out; omega) (by simp), (Only.refl.drewN _).setCell (p := ⟨r, 1, none⟩) rfl _⟩
              show _ = zag v
              unfold zag
              first
                | (rw [if_pos hoo, half_wrap hvv, i64_inv (by omega) (by omega)]; simp)
                | (rw [if_neg hoo, half_wrap hvv]; simp)
                | (rw [if_pos hoo, half_wrap1 hvv, i64_inv (by omega) (by omega)]; simp)
                | (rw [if_neg hoo, half_wrap1 hvv]; simp)
          · have hk9' : ((k : Int) == 9) = false := by rw [beq_eq_false_iff_ne]; omega
            by_cases hk0 : k = 0
            · have hk0' : ¬ 0 < k := by omega
              have HK0 := Lib.hid hk0
              clear hk0 hbad
              by_cases hbig : 128 ≤ bb
              · have HK9 : Hid (k < 9) := by show _ < _; omega
                have hk10 : ((k : Int) + 1 == 10) = false := by rw [beq_eq_false_iff_ne]; omega
                have HST := Lib.hid (rn_step (by omega) hdl HB.out hbig HM.out HD.out)
                go_wp2_with fail
                go_quiet (fail)
                go_wp2_with fail
                go_quiet (fail)
                go_wp2_with fail
                go_roundw
                case rel =>
                  have e := HST.out
                  rw [HV.out] at e
                  exact ⟨k + 1, v, _, by go_num, rfl, by omega, by omega, e.1, e.2, rfl⟩
                case measure => simp [intOf]; omega
              · skip
                have HGD : Hid (dec 0 0 (l.drop p) = some (v, k + 1)) := by show _ = _; rw [← HV.out]; exact rn_good (by omega) hdl HB.out (by omega) HD.out (by have := HNB.out; omega)
                have HLT := Lib.hid (dec_lt HGD.out (by simp))
                have hlow := u64_low HLT.out
                by_cases hodd : v % 2 = 1
                all_goals
                  have hpar : ((v : Int) % 2 == 1) = decide (v % 2 = 1) := by rw [Bool.eq_iff_iff, beq_iff_eq, decide_eq_true_iff]; omega
                  simp only [hodd, decide_true, decide_false] at hpar
                  have HODD := Lib.hid hodd
                  clear hodd
                  go_wp2_with fail
                  go_quiet (fail)
                  go_wp2_with fail
                  go_quiet (fail)
                  go_wp2_with fail
                  go_ret
                  rw [rNum_some HGD.out]
                  have hvv := HLT.out
                  have hoo := HODD.out
                  refine ⟨ret_int ?_, (HR.out.drewN _).setp (p' := p + (k + 1)) (by have := HL.out; omega) (by simp), (Only.refl.drewN _).setCell (p := ⟨r, 1, none⟩) rfl _⟩
                  show _ = zag v
                  unfold zag
                  first
                    | (rw [if_pos hoo, half_wrap hvv, i64_inv (by omega) (by omega)]; simp)
                    | (rw [if_neg hoo, half_wrap hvv]; simp)
                    | (rw [if_pos hoo, half_wrap1 hvv, i64_inv (by omega) (by omega)]; simp)
                    | (rw [if_neg hoo, half_wrap1 hvv]; simp)
            · have hk0' : 0 < k := by omega
              have hb0 : ((bb : Int) == 0) = false := by rw [beq_eq_false_iff_ne]; omega
              clear hbad
              by_cases hbig : 128 ≤ bb
              · skip
                have hk10 : ((k : Int) + 1 == 10) = false := by rw [beq_eq_false_iff_ne]; omega
                have HST := Lib.hid (rn_step (by omega) hdl HB.out hbig HM.out HD.out)
                go_wp2_with fail
                go_quiet (fail)
                go_wp2_with fail
                go_quiet (fail)
                go_wp2_with fail
                go_roundw
                case rel =>
                  have e := HST.out
                  rw [HV.out] at e
                  exact ⟨k + 1, v, _, by go_num, rfl, by omega, by omega, e.1, e.2, rfl⟩
                case measure => simp [intOf]; omega
              · skip
                have HGD : Hid (dec 0 0 (l.drop p) = some (v, k + 1)) := by show _ = _; rw [← HV.out]; exact rn_good (by omega) hdl HB.out (by omega) HD.out (by have := HNB.out; omega)
                have HLT := Lib.hid (dec_lt HGD.out (by simp))
                have hlow := u64_low HLT.out
                by_cases hodd : v % 2 = 1
                all_goals
                  have hpar : ((v : Int) % 2 == 1) = decide (v % 2 = 1) := by rw [Bool.eq_iff_iff, beq_iff_eq, decide_eq_true_iff]; omega
                  simp only [hodd, decide_true, decide_false] at hpar
                  have HODD := Lib.hid hodd
                  clear hodd
                  go_wp2_with fail
                  go_quiet (fail)
                  go_wp2_with fail
                  go_quiet (fail)
                  go_wp2_with fail
                  go_ret
                  rw [rNum_some HGD.out]
                  have hvv := HLT.out
                  have hoo := HODD.out
                  refine ⟨ret_int ?_, (HR.out.drewN _).setp (p' := p + (k + 1)) (by have := HL.out; omega) (by simp), (Only.refl.drewN _).setCell (p := ⟨r, 1, none⟩) rfl _⟩
                  show _ = zag v
                  unfold zag
                  first
                    | (rw [if_pos hoo, half_wrap hvv, i64_inv (by omega) (by omega)]; simp)
                    | (rw [if_neg hoo, half_wrap hvv]; simp)
                    | (rw [if_pos hoo, half_wrap1 hvv, i64_inv (by omega) (by omega)]; simp)
                    | (rw [if_neg hoo, half_wrap1 hvv]; simp)
      · have hge : decide ((n : Int) ≤ (p : Int) + (k : Int)) = true := by simp; omega
        go_wp2_with fail
        go_quiet (fail)
        go_wp2_with fail
        refine (HFL.out _).mono ?_
        rintro e w1 ⟨rfl, hr1, ho1⟩
        have HR1 := Lib.hid hr1
        have HO1 := Lib.hid ho1
        clear hr1 ho1
        go_wp2_with fail
        go_ret
        have e : dec 0 0 (l.drop p) = none := by
          rw [HD.out, List.drop_of_length_le (by rw [List.length_drop]; have := HL.out; omega)]; rfl
        rw [rNum_none e]
        exact ⟨rfl, HR1.out, HO1.out⟩
  · have hq' : (q != 0) = true := by rw [bne_iff_ne]; exact hq
    have HQ := Lib.hid hq
    clear hq
    go_enter Tryd.func54, Tryd.ntmps54
    go_wp2_with fail
    go_ret
    rw [rNum_bad HQ.out]
    exact ⟨rfl, HR.out, Only.refl⟩
end
end Go.Proofs.YtcelkfahkodlhaaDoor
