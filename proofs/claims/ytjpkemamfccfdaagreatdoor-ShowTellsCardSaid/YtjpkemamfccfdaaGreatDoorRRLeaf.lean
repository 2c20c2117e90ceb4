/- The reference's tests of attributes and duties. -/
import Derived.Test.YtjpkemamfccfdaaGreatDoorPolMem
import Derived.Test.YtjpkemamfccfdaaGreatDoorVRefRight
namespace Go.Proofs.YtjpkemamfccfdaaGreatDoor
set_option linter.unusedVariables false
open Go.RowKit

set_option maxHeartbeats 800000 in
theorem rattr_any (a : Atr) (hok : a.ok) (w : World) :
    Calls Tryz.prog 8 #[.agg #[.int .i64 a.cat, .string a.name, .bool a.must]] w fun e w' => e = .returned (.bool (attrB a)) ∧ Below w.heap.size w w' := by
  obtain ⟨k, s, m⟩ := a
  obtain ⟨hk, hs⟩ := hok
  simp only at hk hs ⊢
  have hname := refname_any s hs
  have HN := Lib.hid hname
  have HE : Hid (attrB ⟨k, s, m⟩ = (decide (1 ≤ k) && decide (k ≤ 4) && decide (Named s.data.toList))) := rfl
  clear hname hk
  unfold maxLen at hs
  generalize attrB ⟨k, s, m⟩ = r at *
  go_enter Tryz.func8, Tryz.ntmps8
  go_wp2_with (go_at_call 20; refine (HN.out _).mono ?_; rintro e w1 ⟨rfl, rfl⟩)
  all_goals
    go_ret
    refine ⟨ret_bool ?_, (Below.refl _ _).alloc (Nat.le_refl _) _⟩
    rw [HE.out]
    simp [*] <;> (intros; omega)

set_option maxHeartbeats 3200000 in
theorem robl_any {R : Nat → Prop} {A : Option Addr} {n c : Nat} {l : List Dut} (w : World) (h : Dus w R A n c l) :
    Calls Tryz.prog 68 #[.slice A n c] w fun e w' => e = .returned (.int .i64 (obE l)) ∧ Below w.heap.size w w' := by
  have hle := Rw.le h
  have hcap := Rw.cap h
  have HL := Lib.hid (Rw.len h)
  unfold maxLen at hcap
  have H := Lib.hid h
  clear h
  by_cases h8 : 8 < n
  · have hb : (8 : Int) < (n : Int) := by omega
    have HE : Hid (obE l = 6) := by
      show obE l = 6
      unfold obE
      rw [if_pos (by rw [HL.out]; exact h8)]
    go_enter Tryz.func68, Tryz.ntmps68
    go_wp2_with fail
    go_ret
    exact ⟨ret_int HE.out.symm, Below.refl _ _⟩
  · have hb : ¬ (8 : Int) < (n : Int) := by omega
    have HE : Hid (obE l = firstE dutE l) := by
      show obE l = _
      unfold obE
      rw [if_neg (by rw [HL.out]; exact h8)]
    go_enter Tryz.func68, Tryz.ntmps68
    go_wp2_with fail
    go_loopw [10] (fun i wr => ∃ k : Nat, k ≤ n ∧ i = .int .i64 k ∧ FineTo dutE l k ∧ Below w.heap.size w wr) (fun i _ => n - (intOf i).toNat)
    case atStart => exact ⟨0, Nat.zero_le _, rfl, FineTo.zero _ _, Below.refl _ _⟩
    case round =>
      obtain ⟨k, hk, rfl, hf, hbw⟩ := hrel
      have HF := Lib.hid hf
      have HB := Lib.hid hbw
      clear hf hbw
      by_cases hlt : k < n
      · obtain ⟨b, o, x, rfl, hRb, hbl, hx, hok, c0, c1, c2⟩ := (H.out.keep (Kept.all HB.out R) (fun _ h _ => h)).at_ hlt
        have HX := Lib.hid hx
        have HN := Lib.hid (refname_any x.arg hok.2.2)
        have HD : Hid (dutE x = if (x.on = 1 ∨ x.on = 2) ∧ 1 ≤ x.kind ∧ x.kind ≤ 4 ∧ decide (Named x.arg.data.toList) = true then 0 else 1) := by
          show dutE x = _
          simp only [decide_eq_true_eq]
          rfl
        generalize hrb : decide (Named x.arg.data.toList) = rb at *
        have hsz := hok.2.2
        unfold maxLen at hsz
        clear hx hok hrb
        go_wp2_with (go_at_call 20; refine (HN.out _).mono ?_; rintro e w1 ⟨rfl, rfl⟩)
        all_goals first
          | (have hd : dutE x = 1 := by
               rw [HD.out]
               cases rb <;> split <;> first | rfl | (exfalso; simp_all; done) | (exfalso; simp_all; omega)
             go_ret
             exact ⟨ret_int (HE.out.trans ((HF.out.err HX.out (by rw [hd]; decide)).trans hd)).symm, HB.out.alloc HB.out.size _⟩)
          | (have hd : dutE x = 0 := by
               rw [HD.out]
               cases rb <;> split <;> first | rfl | (exfalso; simp_all; done) | (exfalso; simp_all; omega)
             go_roundw
             case rel => exact ⟨k + 1, by omega, by go_num, HF.out.step HX.out hd, HB.out.alloc HB.out.size _⟩
             case measure => simp [intOf]; omega)
      · obtain rfl : k = n := by omega
        go_wp2
        go_ret
        exact ⟨ret_int (HE.out.trans (HF.out.all HL.out)).symm, HB.out⟩
end Go.Proofs.YtjpkemamfccfdaaGreatDoor
