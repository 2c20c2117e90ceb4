/- strings.CutSuffix, over the texts of bags and values that an expression's nodes leave. -/
import Derived.Test.YtjpkemamfccfdaaGreatDoorPolLeaf
namespace Go.Proofs.YtjpkemamfccfdaaGreatDoor
set_option linter.unusedVariables false
open Go.RowKit

/-- What is left ahead, as the project writes it: the last one at its end. -/
def ch (b : Bool) : UInt8 := if b = true then 98 else 118
def lf (st : List Bool) : ByteArray := ⟨(st.reverse.map ch).toArray⟩
theorem lf_bl (st : List Bool) : bl (lf st) = st.reverse.map ch := by simp [bl, lf]
theorem lf_size (st : List Bool) : (lf st).size = st.length := by show (st.reverse.map ch).toArray.size = _; simp
theorem ch_inj {a b : Bool} (h : ch a = ch b) : a = b := by cases a <;> cases b <;> simp_all [ch]
theorem map_ch_inj : ∀ {a b : List Bool}, a.map ch = b.map ch → a = b
  | [], [], _ => rfl
  | [], _ :: _, h => by simp at h
  | _ :: _, [], h => by simp at h
  | x :: a, y :: b, h => by
    simp only [List.map_cons, List.cons.injEq] at h
    rw [ch_inj h.1, map_ch_inj h.2]
theorem lf_inj {a b : List Bool} (h : lf a = lf b) : a = b := by
  have := congrArg bl h
  rw [lf_bl, lf_bl] at this
  have := map_ch_inj this
  simpa using congrArg List.reverse this
theorem bl_extract (s : ByteArray) (i j : Nat) : bl (s.extract i j) = ((bl s).drop i).take (j - i) := by
  show (s.extract i j).data.toList = (s.data.toList.drop i).take (j - i)
  rw [ByteArray.data_extract]
  simp [List.extract_eq_take_drop]
theorem lf_tail (st : List Bool) (m : Nat) (h : m ≤ st.length) : (lf st).extract (st.length - m) st.length = lf (st.take m) := by
  apply text_eq
  rw [bl_extract, lf_bl, lf_bl, ← List.map_drop, ← List.map_take, List.drop_reverse]
  congr 1
  rw [List.take_of_length_le (by simp)]
  congr 2
  omega
theorem lf_head (st : List Bool) (m : Nat) (h : m ≤ st.length) : (lf st).extract 0 (st.length - m) = lf (st.drop m) := by
  apply text_eq
  rw [bl_extract, lf_bl, lf_bl, List.drop_zero, Nat.sub_zero, ← List.map_take, List.take_reverse]
  congr 3
  omega
theorem lf_push (st : List Bool) (b : Bool) : lf st ++ lf [b] = lf (b :: st) := by
  apply text_eq
  show (lf st ++ lf [b]).data.toList = _
  rw [ByteArray.data_append]
  simp [lf, bl]
theorem lf_nil : lf [] = ⟨#[]⟩ := rfl

theorem hasP_eq {p st : List Bool} (h : p.length ≤ st.length) : ((lf st).extract (st.length - p.length) st.length = lf p) = (hasP p st = true) := by
  rw [lf_tail st _ h]
  unfold hasP
  rw [decide_eq_true_eq, eq_iff_iff]
  exact ⟨fun e => lf_inj e, fun e => by rw [e]⟩
theorem hasP_short {p st : List Bool} (h : ¬ p.length ≤ st.length) : hasP p st = false := by
  unfold hasP
  rw [decide_eq_false_iff_not]
  intro e
  have := congrArg List.length e
  rw [List.length_take] at this
  omega

set_option maxHeartbeats 800000 in
theorem suffix_any (s t : ByteArray) (hs : s.size ≤ maxLen) (ht : t.size ≤ maxLen) (w : World) :
    Calls Tryz.prog 88 #[.string s, .string t] w fun e w' => e = .returned (.bool (decide (t.size ≤ s.size) && decide (s.extract (s.size - t.size) s.size = t))) ∧ w' = w := by
  unfold maxLen at hs ht
  by_cases h : t.size ≤ s.size
  · obtain ⟨k, hk⟩ : ∃ k, k = s.size - t.size := ⟨_, rfl⟩
    have e1 : (s.size : Int) - (t.size : Int) = (k : Int) := by omega
    have e2 : k ≤ s.size := by omega
    go_enter Tryz.func88, Tryz.ntmps88
    go_wp2_with fail
    go_ret
    refine ⟨ret_bool ?_, rfl⟩
    rw [decide_eq_true h, Bool.true_and, Bool.eq_iff_iff, beq_iff_eq, decide_eq_true_eq, ByteArray.toList_eq, ByteArray.toList_eq]
    exact ⟨fun e => text_eq e, fun e => by rw [e]⟩
  · go_enter Tryz.func88, Tryz.ntmps88
    go_wp2_with fail
    go_ret
    exact ⟨ret_bool (by rw [decide_eq_false h]; rfl), rfl⟩

theorem suffix_lf (st p : List Bool) (hs : st.length ≤ 1000) (hp : p.length ≤ 1000) (w : World) :
    Calls Tryz.prog 88 #[.string (lf st), .string (lf p)] w fun e w' => e = .returned (.bool (hasP p st)) ∧ w' = w := by
  refine (suffix_any _ _ (by rw [lf_size]; simp [maxLen]; omega) (by rw [lf_size]; simp [maxLen]; omega) w).mono ?_
  rintro e w' ⟨rfl, rfl⟩
  refine ⟨ret_bool ?_, rfl⟩
  rw [lf_size, lf_size]
  by_cases h : p.length ≤ st.length
  · rw [decide_eq_true h, Bool.true_and, Bool.eq_iff_iff, decide_eq_true_eq, hasP_eq h]
  · rw [decide_eq_false h, hasP_short h]; rfl

set_option maxHeartbeats 800000 in
theorem cut0_any (st p : List Bool) (hs : st.length ≤ 1000) (hp : p.length ≤ 1000) (w : World) :
    Calls Tryz.prog 70 #[.string (lf st), .string (lf p)] w fun e w' => e = .returned (.tuple #[.string (if hasP p st = true then lf (st.drop p.length) else lf st), .bool (hasP p st)]) ∧ w' = w := by
  have HS := Lib.hid (suffix_lf st p hs hp)
  have z1 := lf_size st
  have z2 := lf_size p
  by_cases h : hasP p st = true
  · have hl : p.length ≤ st.length := by
      rcases Nat.lt_or_ge st.length p.length with hlt | hge
      · rw [hasP_short (by omega)] at h; cases h
      · exact hge
    have hh := lf_head st p.length hl
    have HH := Lib.hid hh
    clear hh
    rw [h] at HS ⊢
    generalize lf st = s at *
    generalize lf p = t at *
    have e1 : (s.size : Int) - (t.size : Int) = ((st.length - p.length : Nat) : Int) := by omega
    have e2 : st.length - p.length ≤ s.size := by omega
    have ez : s.size - t.size = st.length - p.length := by omega
    have e3 : s.size ≤ 1000 := by omega
    have e4 : t.size ≤ s.size := by omega
    have HZ := Lib.hid ez
    clear z1 z2 h e1 e2 hl hs hp ez
    go_enter Tryz.func70, Tryz.ntmps70
    go_wp2_with (go_at_call 88; refine (HS.out _).mono ?_; rintro e w1 ⟨rfl, rfl⟩)
    go_ret2
    exact ⟨by rw [HZ.out, HH.out]; rfl, rfl⟩
  · rw [Bool.not_eq_true] at h
    rw [h] at HS ⊢
    generalize lf st = s at *
    generalize lf p = t at *
    clear z1 z2 h hs hp
    go_enter Tryz.func70, Tryz.ntmps70
    go_wp2_with (go_at_call 88; refine (HS.out _).mono ?_; rintro e w1 ⟨rfl, rfl⟩)
    go_ret2
    exact ⟨rfl, rfl⟩

theorem cut_any (st p : List Bool) (hs : st.length ≤ 1000) (hp : p.length ≤ 1000) (w : World) :
    Calls Tryz.prog 54 #[.string (lf st), .string (lf p)] w fun e w' => e = .returned (.tuple #[.string (if hasP p st = true then lf (st.drop p.length) else lf st), .bool (hasP p st)]) ∧ w' = w := by
  have HS := Lib.hid (cut0_any st p hs hp)
  generalize lf st = s at *
  generalize lf p = t at *
  generalize (if hasP p st = true then lf (st.drop p.length) else s) = u at *
  generalize hasP p st = b at *
  clear hs hp
  go_enter Tryz.func54, Tryz.ntmps54
  go_wp2_with (go_at_call 70; refine (HS.out _).mono ?_; rintro e w1 ⟨rfl, rfl⟩)
  go_ret2
  exact ⟨rfl, rfl⟩
end Go.Proofs.YtjpkemamfccfdaaGreatDoor
