/- What a policy's smallest parts must be: attributes, matches, duties, counts (the project's). -/
import Derived.Test.YtjpkemamfccfdaaGreatDoorPolMem
import Derived.Test.YtjpkemamfccfdaaGreatDoorVRightV
namespace Go.Proofs.YtjpkemamfccfdaaGreatDoor
set_option linter.unusedVariables false
open Go.RowKit

set_option maxHeartbeats 800000 in
theorem attr_any (a : Atr) (hok : a.ok) (w : World) :
    Calls Tryz.prog 31 #[.agg #[.int .i64 a.cat, .string a.name, .bool a.must]] w fun e w' => e = .returned (.bool (attrB a)) ∧ Below w.heap.size w w' := by
  obtain ⟨k, s, m⟩ := a
  obtain ⟨hk, hs⟩ := hok
  simp only at hk hs ⊢
  have hname := name_any s hs
  have HN := Lib.hid hname
  have HE : Hid (attrB ⟨k, s, m⟩ = (decide (1 ≤ k) && decide (k ≤ 4) && decide (Named s.data.toList))) := rfl
  clear hname hk
  unfold maxLen at hs
  generalize attrB ⟨k, s, m⟩ = r at *
  go_enter Tryz.func31, Tryz.ntmps31
  go_wp2_with (go_at_call 57; refine (HN.out _).mono ?_; rintro e w1 ⟨rfl, rfl⟩)
  all_goals
    go_ret
    refine ⟨ret_bool ?_, (Below.refl _ _).alloc (Nat.le_refl _) _⟩
    rw [HE.out]
    simp [*] <;> (intros; omega)

theorem parts_any (n : Nat) (w : World) :
    Calls Tryz.prog 98 #[.int .i64 n] w fun e w' => e = .returned (.int .i64 (partsE n)) ∧ w' = w := by
  by_cases h0 : n = 0
  · subst h0
    go_enter Tryz.func98, Tryz.ntmps98
    go_wp2_with fail
    go_ret
    exact ⟨rfl, rfl⟩
  · have hz : ((n : Int) == 0) = false := by rw [beq_eq_false_iff_ne]; omega
    by_cases h8 : 8 < n
    · have hb : (8 : Int) < (n : Int) := by omega
      have H := Lib.hid (show partsE n = 6 by unfold partsE; simp [h0, h8])
      go_enter Tryz.func98, Tryz.ntmps98
      go_wp2_with fail
      go_ret
      exact ⟨ret_int H.out.symm, rfl⟩
    · have hb : ¬ (8 : Int) < (n : Int) := by omega
      have H := Lib.hid (show partsE n = 0 by unfold partsE; simp [h0, h8])
      go_enter Tryz.func98, Tryz.ntmps98
      go_wp2_with fail
      go_ret
      exact ⟨ret_int H.out.symm, rfl⟩

set_option maxHeartbeats 800000 in
theorem match_any (m : Mat) (hok : m.ok) (w : World) :
    Calls Tryz.prog 106 #[.agg #[.int .i64 m.a.cat, .string m.a.name, .bool m.a.must, .int .i64 m.op, .int .i64 m.v.k, .int .i64 m.v.n, .string m.v.s]] w fun e w' => e = .returned (.int .i64 (matE m)) ∧ Below w.heap.size w w' := by
  obtain ⟨a, op, v⟩ := m
  obtain ⟨ha, hop, hv⟩ := hok
  simp only at ha hop hv ⊢
  have HA := Lib.hid (attr_any a ha)
  have HV := Lib.hid (right_any v.k v.n v.s hv.2.2)
  have HE : Hid (matE ⟨a, op, v⟩ = if attrB a = true ∧ 1 ≤ op ∧ op ≤ 3 ∧ decide (RightV v.k v.n v.s.data.toList) = true then 0 else 1) := by
    show matE ⟨a, op, v⟩ = _
    simp only [decide_eq_true_eq]
    rfl
  generalize matE ⟨a, op, v⟩ = r at *
  obtain ⟨c, nm, mu⟩ := a
  obtain ⟨k, n, s⟩ := v
  simp only at HA HV HE ⊢
  clear ha hop hv
  generalize hab : attrB ⟨c, nm, mu⟩ = ab at *
  generalize hrb : decide (RightV k n s.data.toList) = rb at *
  clear hab hrb
  go_enter Tryz.func106, Tryz.ntmps106
  go_wp2_with (first
    | (go_at_call 31; refine (HA.out _).mono ?_; rintro e w1 ⟨rfl, hb1⟩; have B1 := Lib.hid (Below.lit hb1); have C1 := Lib.hid (Ob.below (Ob.made _ _ _) hb1 (by simp)); have c1 := C1.out.cell 3; have c2 := C1.out.cell 4; have c3 := C1.out.cell 5; have c4 := C1.out.cell 6)
    | (go_at_call 71; refine (HV.out _).mono ?_; rintro e w2 ⟨rfl, hb2⟩; have B2 := Lib.hid hb2))
  all_goals
    go_ret
    refine ⟨ret_int ?_, by first | exact below_step B1.out B2.out | exact B1.out⟩
    rw [HE.out]
    clear HA HV HE
    cases rb <;> split <;> first | rfl | (exfalso; simp_all; done) | (exfalso; simp_all; omega)

set_option maxHeartbeats 800000 in
theorem duty_any (o : Dut) (hok : o.ok) (w : World) :
    Calls Tryz.prog 94 #[.agg #[.int .i64 o.on, .int .i64 o.kind, .string o.arg]] w fun e w' => e = .returned (.int .i64 (dutE o)) ∧ Below w.heap.size w w' := by
  obtain ⟨on, k, s⟩ := o
  obtain ⟨ho, hk, hs⟩ := hok
  simp only at ho hk hs ⊢
  have HN := Lib.hid (name_any s hs)
  have HE : Hid (dutE ⟨on, k, s⟩ = if (on = 1 ∨ on = 2) ∧ 1 ≤ k ∧ k ≤ 4 ∧ decide (Named s.data.toList) = true then 0 else 1) := by
    show dutE ⟨on, k, s⟩ = _
    simp only [decide_eq_true_eq]
    rfl
  generalize dutE ⟨on, k, s⟩ = r at *
  generalize hrb : decide (Named s.data.toList) = rb at *
  clear ho hk hrb
  unfold maxLen at hs
  go_enter Tryz.func94, Tryz.ntmps94
  go_wp2_with (go_at_call 57; refine (HN.out _).mono ?_; rintro e w1 ⟨rfl, rfl⟩)
  all_goals
    go_ret
    refine ⟨ret_int ?_, (Below.refl _ _).alloc (Nat.le_refl _) _⟩
    rw [HE.out]
    clear HN HE
    cases rb <;> split <;> first | rfl | (exfalso; simp_all; done) | (exfalso; simp_all; omega)
end Go.Proofs.YtjpkemamfccfdaaGreatDoor
