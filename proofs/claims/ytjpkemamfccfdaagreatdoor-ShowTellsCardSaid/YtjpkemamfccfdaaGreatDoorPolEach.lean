/- The first error of a list: the project's each, over matches, AllOfs, AnyOfs, duties; targets and duties by it. -/
import Derived.Test.YtjpkemamfccfdaaGreatDoorPolLeaf
namespace Go.Proofs.YtjpkemamfccfdaaGreatDoor
set_option linter.unusedVariables false
open Go.RowKit

set_option maxHeartbeats 800000 in
theorem each_match {w : World} {R : Nat → Prop} {A : Option Addr} {n c : Nat} {l : List Mat} (h : Ms w R A n c l) :
    Calls Tryz.prog 105 #[.slice A n c, .func (.func 106) #[] #[]] w fun e w' => e = .returned (.int .i64 (firstE matE l)) ∧ Below w.heap.size w w' := by
  have hle := Rw.le h
  have hcap := Rw.cap h
  have HL := Lib.hid (Rw.len h)
  unfold maxLen at hcap
  have H := Lib.hid h
  clear h
  go_enter Tryz.func105, Tryz.ntmps105
  go_wp2
  go_loopw [10] (fun i wr => ∃ k : Nat, k ≤ n ∧ i = .int .i64 k ∧ FineTo matE l k ∧ Below w.heap.size w wr) (fun i _ => n - (intOf i).toNat)
  case atStart => exact ⟨0, Nat.zero_le _, rfl, FineTo.zero _ _, Below.refl _ _⟩
  case round =>
    obtain ⟨k, hk, rfl, hf, hb⟩ := hrel
    have HF := Lib.hid hf
    have HB := Lib.hid hb
    clear hf hb
    by_cases hlt : k < n
    · obtain ⟨b, o, x, rfl, hRb, hbl, hx, hok, c0, c1, c2, c3, c4, c5, c6⟩ := (H.out.keep (Kept.all HB.out R) (fun _ h _ => h)).at_ hlt
      have HX := Lib.hid hx
      have hcon := fun W => match_any x hok W
      clear hx
      by_cases hz : matE x = 0
      · have HZ := Lib.hid hz
        rw [hz] at hcon
        have HC := Lib.hid hcon
        clear hz hcon
        go_wp2_with (go_at_call 106; refine (HC.out _).mono ?_; rintro e w1 ⟨rfl, hb1⟩; have B1 := Lib.hid (Below.lit hb1))
        go_roundw
        case rel => exact ⟨k + 1, by omega, by go_num, HF.out.step HX.out HZ.out, below_step HB.out B1.out⟩
        case measure => simp [intOf]; omega
      · have HZ := Lib.hid hz
        obtain ⟨r, hr⟩ : ∃ r, r = matE x := ⟨_, rfl⟩
        have HR := Lib.hid hr
        rw [← hr] at hz hcon
        have hne : (r != 0) = true := by simpa using hz
        have HC := Lib.hid hcon
        clear hz hcon hr
        go_wp2_with (go_at_call 106; refine (HC.out _).mono ?_; rintro e w1 ⟨rfl, hb1⟩; have B1 := Lib.hid (Below.lit hb1))
        go_ret
        exact ⟨ret_int (HR.out.trans (HF.out.err HX.out HZ.out).symm), below_step HB.out B1.out⟩
    · obtain rfl : k = n := by omega
      go_wp2
      go_ret
      exact ⟨ret_int (HF.out.all HL.out).symm, HB.out⟩

theorem allOf_any {R : Nat → Prop} {A : Option Addr} {n c : Nat} {l : List Mat} (w : World) (h : Ms w R A n c l) :
    Calls Tryz.prog 100 #[.slice A n c] w fun e w' => e = .returned (.int .i64 (allE l)) ∧ Below w.heap.size w w' := by
  have hle := Rw.le h
  have hcap := Rw.cap h
  have HL := Lib.hid (Rw.len h)
  unfold maxLen at hcap
  have H := Lib.hid h
  clear h
  obtain ⟨r, hr⟩ : ∃ r, r = partsE n := ⟨_, rfl⟩
  have HR := Lib.hid hr
  by_cases hz : r = 0
  · have HP : ∀ W, Calls Tryz.prog 98 #[.int .i64 n] W fun e w' => e = .returned (.int .i64 0) ∧ w' = W := fun W => by have := parts_any n W; rwa [← hr, hz] at this
    have HE : Hid (allE l = firstE matE l) := by
      show allE l = _
      unfold allE
      rw [HL.out, ← hr, hz]; simp
    have HPP := Lib.hid HP
    clear hz hr HP
    go_enter Tryz.func100, Tryz.ntmps100
    go_wp2_with (first
      | (go_at_call 98; refine (HPP.out _).mono ?_; rintro e w1 ⟨rfl, rfl⟩)
      | (go_at_call 105; refine (each_match H.out).mono ?_; rintro e w2 ⟨rfl, hb2⟩; have B2 := Lib.hid hb2))
    go_ret
    exact ⟨ret_int HE.out.symm, B2.out⟩
  · have HP : ∀ W, Calls Tryz.prog 98 #[.int .i64 n] W fun e w' => e = .returned (.int .i64 r) ∧ w' = W := fun W => by have := parts_any n W; rwa [← hr] at this
    have HE : Hid (allE l = r) := by
      show allE l = _
      unfold allE
      rw [HL.out, ← hr, if_pos hz]
    have hne : (r != 0) = true := by simpa using hz
    have HPP := Lib.hid HP
    clear hz hr HP
    go_enter Tryz.func100, Tryz.ntmps100
    go_wp2_with (first
      | (go_at_call 98; refine (HPP.out _).mono ?_; rintro e w1 ⟨rfl, rfl⟩))
    go_ret
    exact ⟨ret_int HE.out.symm, Below.refl _ _⟩

set_option maxHeartbeats 800000 in
theorem each_allOf {w : World} {R : Nat → Prop} {A : Option Addr} {n c : Nat} {l : List (List Mat)} (h : Als w R A n c l) :
    Calls Tryz.prog 99 #[.slice A n c, .func (.func 100) #[] #[]] w fun e w' => e = .returned (.int .i64 (firstE allE l)) ∧ Below w.heap.size w w' := by
  have hle := Rw.le h
  have hcap := Rw.cap h
  have HL := Lib.hid (Rw.len h)
  unfold maxLen at hcap
  have H := Lib.hid h
  clear h
  go_enter Tryz.func99, Tryz.ntmps99
  go_wp2
  go_loopw [10] (fun i wr => ∃ k : Nat, k ≤ n ∧ i = .int .i64 k ∧ FineTo allE l k ∧ Below w.heap.size w wr) (fun i _ => n - (intOf i).toNat)
  case atStart => exact ⟨0, Nat.zero_le _, rfl, FineTo.zero _ _, Below.refl _ _⟩
  case round =>
    obtain ⟨k, hk, rfl, hf, hb⟩ := hrel
    have HF := Lib.hid hf
    have HB := Lib.hid hb
    clear hf hb
    by_cases hlt : k < n
    · obtain ⟨b, o, x, A', n', c', rfl, hRb, hbl, hx, c0, hin⟩ := (H.out.keep (Kept.all HB.out R) (fun _ h _ => h)).at_ hlt
      have HX := Lib.hid hx
      have hinK := fun W (hb : Below wr.heap.size wr W) => Ms.keep hin (Kept.all hb R) (fun _ h _ => h)
      have hcon := fun W (hb : Below wr.heap.size wr W) => allOf_any W (hinK W hb)
      clear hx
      by_cases hz : allE x = 0
      · have HZ := Lib.hid hz
        rw [hz] at hcon
        have HC := Lib.hid hcon
        clear hz hcon
        go_wp2_with (go_at_call 100; refine (HC.out _ (Below.refl _ _)).mono ?_; rintro e w1 ⟨rfl, hb1⟩; have B1 := Lib.hid hb1)
        go_roundw
        case rel => exact ⟨k + 1, by omega, by go_num, HF.out.step HX.out HZ.out, below_step HB.out B1.out⟩
        case measure => simp [intOf]; omega
      · have HZ := Lib.hid hz
        obtain ⟨r, hr⟩ : ∃ r, r = allE x := ⟨_, rfl⟩
        have HR := Lib.hid hr
        rw [← hr] at hz hcon
        have hne : (r != 0) = true := by simpa using hz
        have HC := Lib.hid hcon
        clear hz hcon hr
        go_wp2_with (go_at_call 100; refine (HC.out _ (Below.refl _ _)).mono ?_; rintro e w1 ⟨rfl, hb1⟩; have B1 := Lib.hid hb1)
        go_ret
        exact ⟨ret_int (HR.out.trans (HF.out.err HX.out HZ.out).symm), below_step HB.out B1.out⟩
    · obtain rfl : k = n := by omega
      go_wp2
      go_ret
      exact ⟨ret_int (HF.out.all HL.out).symm, HB.out⟩

theorem anyOf_any {R : Nat → Prop} {A : Option Addr} {n c : Nat} {l : List (List Mat)} (w : World) (h : Als w R A n c l) :
    Calls Tryz.prog 92 #[.slice A n c] w fun e w' => e = .returned (.int .i64 (anyE l)) ∧ Below w.heap.size w w' := by
  have hle := Rw.le h
  have hcap := Rw.cap h
  have HL := Lib.hid (Rw.len h)
  unfold maxLen at hcap
  have H := Lib.hid h
  clear h
  obtain ⟨r, hr⟩ : ∃ r, r = partsE n := ⟨_, rfl⟩
  have HR := Lib.hid hr
  by_cases hz : r = 0
  · have HP : ∀ W, Calls Tryz.prog 98 #[.int .i64 n] W fun e w' => e = .returned (.int .i64 0) ∧ w' = W := fun W => by have := parts_any n W; rwa [← hr, hz] at this
    have HE : Hid (anyE l = firstE allE l) := by
      show anyE l = _
      unfold anyE
      rw [HL.out, ← hr, hz]; simp
    have HPP := Lib.hid HP
    clear hz hr HP
    go_enter Tryz.func92, Tryz.ntmps92
    go_wp2_with (first
      | (go_at_call 98; refine (HPP.out _).mono ?_; rintro e w1 ⟨rfl, rfl⟩)
      | (go_at_call 99; refine (each_allOf H.out).mono ?_; rintro e w2 ⟨rfl, hb2⟩; have B2 := Lib.hid hb2))
    go_ret
    exact ⟨ret_int HE.out.symm, B2.out⟩
  · have HP : ∀ W, Calls Tryz.prog 98 #[.int .i64 n] W fun e w' => e = .returned (.int .i64 r) ∧ w' = W := fun W => by have := parts_any n W; rwa [← hr] at this
    have HE : Hid (anyE l = r) := by
      show anyE l = _
      unfold anyE
      rw [HL.out, ← hr, if_pos hz]
    have hne : (r != 0) = true := by simpa using hz
    have HPP := Lib.hid HP
    clear hz hr HP
    go_enter Tryz.func92, Tryz.ntmps92
    go_wp2_with (first
      | (go_at_call 98; refine (HPP.out _).mono ?_; rintro e w1 ⟨rfl, rfl⟩))
    go_ret
    exact ⟨ret_int HE.out.symm, Below.refl _ _⟩

set_option maxHeartbeats 800000 in
theorem each_anyOf {w : World} {R : Nat → Prop} {A : Option Addr} {n c : Nat} {l : List (List (List Mat))} (h : Tg w R A n c l) :
    Calls Tryz.prog 91 #[.slice A n c, .func (.func 92) #[] #[]] w fun e w' => e = .returned (.int .i64 (firstE anyE l)) ∧ Below w.heap.size w w' := by
  have hle := Rw.le h
  have hcap := Rw.cap h
  have HL := Lib.hid (Rw.len h)
  unfold maxLen at hcap
  have H := Lib.hid h
  clear h
  go_enter Tryz.func91, Tryz.ntmps91
  go_wp2
  go_loopw [10] (fun i wr => ∃ k : Nat, k ≤ n ∧ i = .int .i64 k ∧ FineTo anyE l k ∧ Below w.heap.size w wr) (fun i _ => n - (intOf i).toNat)
  case atStart => exact ⟨0, Nat.zero_le _, rfl, FineTo.zero _ _, Below.refl _ _⟩
  case round =>
    obtain ⟨k, hk, rfl, hf, hb⟩ := hrel
    have HF := Lib.hid hf
    have HB := Lib.hid hb
    clear hf hb
    by_cases hlt : k < n
    · obtain ⟨b, o, x, A', n', c', rfl, hRb, hbl, hx, c0, hin⟩ := (H.out.keep (Kept.all HB.out R) (fun _ h _ => h)).at_ hlt
      have HX := Lib.hid hx
      have hinK := fun W (hb : Below wr.heap.size wr W) => Als.keep hin (Kept.all hb R) (fun _ h _ => h)
      have hcon := fun W (hb : Below wr.heap.size wr W) => anyOf_any W (hinK W hb)
      clear hx
      by_cases hz : anyE x = 0
      · have HZ := Lib.hid hz
        rw [hz] at hcon
        have HC := Lib.hid hcon
        clear hz hcon
        go_wp2_with (go_at_call 92; refine (HC.out _ (Below.refl _ _)).mono ?_; rintro e w1 ⟨rfl, hb1⟩; have B1 := Lib.hid hb1)
        go_roundw
        case rel => exact ⟨k + 1, by omega, by go_num, HF.out.step HX.out HZ.out, below_step HB.out B1.out⟩
        case measure => simp [intOf]; omega
      · have HZ := Lib.hid hz
        obtain ⟨r, hr⟩ : ∃ r, r = anyE x := ⟨_, rfl⟩
        have HR := Lib.hid hr
        rw [← hr] at hz hcon
        have hne : (r != 0) = true := by simpa using hz
        have HC := Lib.hid hcon
        clear hz hcon hr
        go_wp2_with (go_at_call 92; refine (HC.out _ (Below.refl _ _)).mono ?_; rintro e w1 ⟨rfl, hb1⟩; have B1 := Lib.hid hb1)
        go_ret
        exact ⟨ret_int (HR.out.trans (HF.out.err HX.out HZ.out).symm), below_step HB.out B1.out⟩
    · obtain rfl : k = n := by omega
      go_wp2
      go_ret
      exact ⟨ret_int (HF.out.all HL.out).symm, HB.out⟩

set_option maxHeartbeats 800000 in
theorem each_duty {w : World} {R : Nat → Prop} {A : Option Addr} {n c : Nat} {l : List Dut} (h : Dus w R A n c l) :
    Calls Tryz.prog 93 #[.slice A n c, .func (.func 94) #[] #[]] w fun e w' => e = .returned (.int .i64 (firstE dutE l)) ∧ Below w.heap.size w w' := by
  have hle := Rw.le h
  have hcap := Rw.cap h
  have HL := Lib.hid (Rw.len h)
  unfold maxLen at hcap
  have H := Lib.hid h
  clear h
  go_enter Tryz.func93, Tryz.ntmps93
  go_wp2
  go_loopw [10] (fun i wr => ∃ k : Nat, k ≤ n ∧ i = .int .i64 k ∧ FineTo dutE l k ∧ Below w.heap.size w wr) (fun i _ => n - (intOf i).toNat)
  case atStart => exact ⟨0, Nat.zero_le _, rfl, FineTo.zero _ _, Below.refl _ _⟩
  case round =>
    obtain ⟨k, hk, rfl, hf, hb⟩ := hrel
    have HF := Lib.hid hf
    have HB := Lib.hid hb
    clear hf hb
    by_cases hlt : k < n
    · obtain ⟨b, o, x, rfl, hRb, hbl, hx, hok, c0, c1, c2⟩ := (H.out.keep (Kept.all HB.out R) (fun _ h _ => h)).at_ hlt
      have HX := Lib.hid hx
      have hcon := fun W => duty_any x hok W
      clear hx
      by_cases hz : dutE x = 0
      · have HZ := Lib.hid hz
        rw [hz] at hcon
        have HC := Lib.hid hcon
        clear hz hcon
        go_wp2_with (go_at_call 94; refine (HC.out _).mono ?_; rintro e w1 ⟨rfl, hb1⟩; have B1 := Lib.hid (Below.lit hb1))
        go_roundw
        case rel => exact ⟨k + 1, by omega, by go_num, HF.out.step HX.out HZ.out, below_step HB.out B1.out⟩
        case measure => simp [intOf]; omega
      · have HZ := Lib.hid hz
        obtain ⟨r, hr⟩ : ∃ r, r = dutE x := ⟨_, rfl⟩
        have HR := Lib.hid hr
        rw [← hr] at hz hcon
        have hne : (r != 0) = true := by simpa using hz
        have HC := Lib.hid hcon
        clear hz hcon hr
        go_wp2_with (go_at_call 94; refine (HC.out _).mono ?_; rintro e w1 ⟨rfl, hb1⟩; have B1 := Lib.hid (Below.lit hb1))
        go_ret
        exact ⟨ret_int (HR.out.trans (HF.out.err HX.out HZ.out).symm), below_step HB.out B1.out⟩
    · obtain rfl : k = n := by omega
      go_wp2
      go_ret
      exact ⟨ret_int (HF.out.all HL.out).symm, HB.out⟩

theorem target_any {R : Nat → Prop} {A : Option Addr} {n c : Nat} {l : Tgt} (w : World) (h : Tg w R A n c l) :
    Calls Tryz.prog 78 #[.slice A n c] w fun e w' => e = .returned (.int .i64 (tgE l)) ∧ Below w.heap.size w w' := by
  have hle := Rw.le h
  have hcap := Rw.cap h
  have HL := Lib.hid (Rw.len h)
  unfold maxLen at hcap
  have H := Lib.hid h
  clear h
  by_cases h8 : 8 < n
  · have HE : Hid (tgE l = 6) := by
      show tgE l = _
      unfold tgE
      rw [HL.out, if_pos h8]
    have hb : (8 : Int) < (n : Int) := by omega
    go_enter Tryz.func78, Tryz.ntmps78
    go_wp2_with fail
    go_ret
    exact ⟨ret_int HE.out.symm, Below.refl _ _⟩
  · have HE : Hid (tgE l = firstE anyE l) := by
      show tgE l = _
      unfold tgE
      rw [HL.out, if_neg h8]
    have hb : ¬ (8 : Int) < (n : Int) := by omega
    go_enter Tryz.func78, Tryz.ntmps78
    go_wp2_with (go_at_call 91; refine (each_anyOf H.out).mono ?_; rintro e w2 ⟨rfl, hb2⟩; have B2 := Lib.hid hb2)
    go_ret
    exact ⟨ret_int HE.out.symm, B2.out⟩

theorem obls_any {R : Nat → Prop} {A : Option Addr} {n c : Nat} {l : List Dut} (w : World) (h : Dus w R A n c l) :
    Calls Tryz.prog 79 #[.slice A n c] w fun e w' => e = .returned (.int .i64 (obE l)) ∧ Below w.heap.size w w' := by
  have hle := Rw.le h
  have hcap := Rw.cap h
  have HL := Lib.hid (Rw.len h)
  unfold maxLen at hcap
  have H := Lib.hid h
  clear h
  by_cases h8 : 8 < n
  · have HE : Hid (obE l = 6) := by
      show obE l = _
      unfold obE
      rw [HL.out, if_pos h8]
    have hb : (8 : Int) < (n : Int) := by omega
    go_enter Tryz.func79, Tryz.ntmps79
    go_wp2_with fail
    go_ret
    exact ⟨ret_int HE.out.symm, Below.refl _ _⟩
  · have HE : Hid (obE l = firstE dutE l) := by
      show obE l = _
      unfold obE
      rw [HL.out, if_neg h8]
    have hb : ¬ (8 : Int) < (n : Int) := by omega
    go_enter Tryz.func79, Tryz.ntmps79
    go_wp2_with (go_at_call 93; refine (each_duty H.out).mono ?_; rintro e w2 ⟨rfl, hb2⟩; have B2 := Lib.hid hb2)
    go_ret
    exact ⟨ret_int HE.out.symm, B2.out⟩

end Go.Proofs.YtjpkemamfccfdaaGreatDoor
