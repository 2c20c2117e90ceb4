/- Several texts in one: PolLeaf, PolCut, PolEq, PolHolds, PolExpr, PolEach, PolWalk, PolOr, PolRule, PolPol, PolSucc, PolRight, PolLit. -/
import Derived.Test.YtincnopaclmppaaElvA
import Derived.Maps.OwnOps
import Derived.Maps.Views
/- What a policy's smallest parts must be: attributes, matches, duties, counts (the project's). -/
namespace Go.Proofs.Ytincnopaclmppaa
set_option linter.unusedVariables false
open Go.RowKit

set_option maxHeartbeats 800000 in
theorem attr_any (a : Atr) (hok : a.ok) (w : World) :
    Calls Try.prog 57 #[.agg #[.int .i64 a.cat, .string a.name, .bool a.must]] w fun e w' => e = .returned (.bool (attrB a)) ∧ Below w.heap.size w w' := by
  obtain ⟨k, s, m⟩ := a
  obtain ⟨hk, hs⟩ := hok
  simp only at hk hs ⊢
  have hname := name_any s hs
  have HN := Lib.hid hname
  have HE : Hid (attrB ⟨k, s, m⟩ = (decide (1 ≤ k) && decide (k ≤ 4) && decide (Named s.data.toList))) := rfl
  clear hname hk
  unfold maxLen at hs
  generalize attrB ⟨k, s, m⟩ = r at *
  go_enter Try.func57, Try.ntmps57
  go_wp2_with (go_at_call 74; refine (HN.out _).mono ?_; rintro e w1 ⟨rfl, rfl⟩)
  all_goals
    go_ret
    refine ⟨ret_bool ?_, (Below.refl _ _).alloc (Nat.le_refl _) _⟩
    rw [HE.out]
    simp [*] <;> (intros; omega)

theorem parts_any (n : Nat) (w : World) :
    Calls Try.prog 82 #[.int .i64 n] w fun e w' => e = .returned (.int .i64 (partsE n)) ∧ w' = w := by
  by_cases h0 : n = 0
  · subst h0
    go_enter Try.func82, Try.ntmps82
    go_wp2_with fail
    go_ret
    exact ⟨rfl, rfl⟩
  · have hz : ((n : Int) == 0) = false := by rw [beq_eq_false_iff_ne]; omega
    by_cases h8 : 8 < n
    · have hb : (8 : Int) < (n : Int) := by omega
      have H := Lib.hid (show partsE n = 6 by unfold partsE; simp [h0, h8])
      go_enter Try.func82, Try.ntmps82
      go_wp2_with fail
      go_ret
      exact ⟨ret_int H.out.symm, rfl⟩
    · have hb : ¬ (8 : Int) < (n : Int) := by omega
      have H := Lib.hid (show partsE n = 0 by unfold partsE; simp [h0, h8])
      go_enter Try.func82, Try.ntmps82
      go_wp2_with fail
      go_ret
      exact ⟨ret_int H.out.symm, rfl⟩

set_option maxHeartbeats 800000 in
theorem match_any (m : Mat) (hok : m.ok) (w : World) :
    Calls Try.prog 87 #[.agg #[.int .i64 m.a.cat, .string m.a.name, .bool m.a.must, .int .i64 m.op, .int .i64 m.v.k, .int .i64 m.v.n, .string m.v.s]] w fun e w' => e = .returned (.int .i64 (matE m)) ∧ Below w.heap.size w w' := by
  obtain ⟨a, op, v⟩ := m
  obtain ⟨ha, hop, hv⟩ := hok
  simp only at ha hop hv ⊢
  have HA := Lib.hid (attr_any a ha)
  have HV := Lib.hid (right_any v.k v.n v.s hv.2.2)
  have HE : Hid (matE ⟨a, op, v⟩ = if attrB a = true ∧ 1 ≤ op ∧ op ≤ 3 ∧ decide (RightV v.k v.n v.s.data.toList) = true then 0 else 1) := by
    show matE ⟨a, op, v⟩ = _
    simp only [decide_eq_true_eq]
    rfl
  generalize matE ⟨a, op, v⟩ = r at *
  obtain ⟨c, nm, mu⟩ := a
  obtain ⟨k, n, s⟩ := v
  simp only at HA HV HE ⊢
  clear ha hop hv
  generalize hab : attrB ⟨c, nm, mu⟩ = ab at *
  generalize hrb : decide (RightV k n s.data.toList) = rb at *
  clear hab hrb
  go_enter Try.func87, Try.ntmps87
  go_wp2_with (first
    | (go_at_call 57; refine (HA.out _).mono ?_; rintro e w1 ⟨rfl, hb1⟩; have B1 := Lib.hid (Below.lit hb1); have C1 := Lib.hid (Ob.below (Ob.made _ _ _) hb1 (by simp)); have c1 := C1.out.cell 3; have c2 := C1.out.cell 4; have c3 := C1.out.cell 5; have c4 := C1.out.cell 6)
    | (go_at_call 69; refine (HV.out _).mono ?_; rintro e w2 ⟨rfl, hb2⟩; have B2 := Lib.hid hb2))
  all_goals
    go_ret
    refine ⟨ret_int ?_, by first | exact below_step B1.out B2.out | exact B1.out⟩
    rw [HE.out]
    clear HA HV HE
    cases rb <;> split <;> first | rfl | (exfalso; simp_all; done) | (exfalso; simp_all; omega)

set_option maxHeartbeats 800000 in
theorem duty_any (o : Dut) (hok : o.ok) (w : World) :
    Calls Try.prog 78 #[.agg #[.int .i64 o.on, .int .i64 o.kind, .string o.arg]] w fun e w' => e = .returned (.int .i64 (dutE o)) ∧ Below w.heap.size w w' := by
  obtain ⟨on, k, s⟩ := o
  obtain ⟨ho, hk, hs⟩ := hok
  simp only at ho hk hs ⊢
  have HN := Lib.hid (name_any s hs)
  have HE : Hid (dutE ⟨on, k, s⟩ = if (on = 1 ∨ on = 2) ∧ 1 ≤ k ∧ k ≤ 4 ∧ decide (Named s.data.toList) = true then 0 else 1) := by
    show dutE ⟨on, k, s⟩ = _
    simp only [decide_eq_true_eq]
    rfl
  generalize dutE ⟨on, k, s⟩ = r at *
  generalize hrb : decide (Named s.data.toList) = rb at *
  clear ho hk hrb
  unfold maxLen at hs
  go_enter Try.func78, Try.ntmps78
  go_wp2_with (go_at_call 74; refine (HN.out _).mono ?_; rintro e w1 ⟨rfl, rfl⟩)
  all_goals
    go_ret
    refine ⟨ret_int ?_, (Below.refl _ _).alloc (Nat.le_refl _) _⟩
    rw [HE.out]
    clear HN HE
    cases rb <;> split <;> first | rfl | (exfalso; simp_all; done) | (exfalso; simp_all; omega)
end Go.Proofs.Ytincnopaclmppaa
/- strings.CutSuffix, over the texts of bags and values that an expression's nodes leave. -/
namespace Go.Proofs.Ytincnopaclmppaa
set_option linter.unusedVariables false
open Go.RowKit

/-- What is left ahead, as the project writes it: the last one at its end. -/
def ch (b : Bool) : UInt8 := if b = true then 98 else 118
def lf (st : List Bool) : ByteArray := ⟨(st.reverse.map ch).toArray⟩
theorem lf_bl (st : List Bool) : bl (lf st) = st.reverse.map ch := by simp [bl, lf]
theorem lf_size (st : List Bool) : (lf st).size = st.length := by show (st.reverse.map ch).toArray.size = _; simp
theorem ch_inj {a b : Bool} (h : ch a = ch b) : a = b := by cases a <;> cases b <;> simp_all [ch]
theorem map_ch_inj : ∀ {a b : List Bool}, a.map ch = b.map ch → a = b
  | [], [], _ => rfl
  | [], _ :: _, h => by simp at h
  | _ :: _, [], h => by simp at h
  | x :: a, y :: b, h => by
    simp only [List.map_cons, List.cons.injEq] at h
    rw [ch_inj h.1, map_ch_inj h.2]
theorem lf_inj {a b : List Bool} (h : lf a = lf b) : a = b := by
  have := congrArg bl h
  rw [lf_bl, lf_bl] at this
  have := map_ch_inj this
  simpa using congrArg List.reverse this
theorem bl_extract (s : ByteArray) (i j : Nat) : bl (s.extract i j) = ((bl s).drop i).take (j - i) := by
  show (s.extract i j).data.toList = (s.data.toList.drop i).take (j - i)
  rw [ByteArray.data_extract]
  simp [List.extract_eq_take_drop]
theorem lf_tail (st : List Bool) (m : Nat) (h : m ≤ st.length) : (lf st).extract (st.length - m) st.length = lf (st.take m) := by
  apply text_eq
  rw [bl_extract, lf_bl, lf_bl, ← List.map_drop, ← List.map_take, List.drop_reverse]
  congr 1
  rw [List.take_of_length_le (by simp)]
  congr 2
  omega
theorem lf_head (st : List Bool) (m : Nat) (h : m ≤ st.length) : (lf st).extract 0 (st.length - m) = lf (st.drop m) := by
  apply text_eq
  rw [bl_extract, lf_bl, lf_bl, List.drop_zero, Nat.sub_zero, ← List.map_take, List.take_reverse]
  congr 3
  omega
theorem lf_push (st : List Bool) (b : Bool) : lf st ++ lf [b] = lf (b :: st) := by
  apply text_eq
  show (lf st ++ lf [b]).data.toList = _
  rw [ByteArray.data_append]
  simp [lf, bl]
theorem lf_nil : lf [] = ⟨#[]⟩ := rfl

theorem hasP_eq {p st : List Bool} (h : p.length ≤ st.length) : ((lf st).extract (st.length - p.length) st.length = lf p) = (hasP p st = true) := by
  rw [lf_tail st _ h]
  unfold hasP
  rw [decide_eq_true_eq, eq_iff_iff]
  exact ⟨fun e => lf_inj e, fun e => by rw [e]⟩
theorem hasP_short {p st : List Bool} (h : ¬ p.length ≤ st.length) : hasP p st = false := by
  unfold hasP
  rw [decide_eq_false_iff_not]
  intro e
  have := congrArg List.length e
  rw [List.length_take] at this
  omega

set_option maxHeartbeats 800000 in
theorem suffix_any (s t : ByteArray) (hs : s.size ≤ maxLen) (ht : t.size ≤ maxLen) (w : World) :
    Calls Try.prog 79 #[.string s, .string t] w fun e w' => e = .returned (.bool (decide (t.size ≤ s.size) && decide (s.extract (s.size - t.size) s.size = t))) ∧ w' = w := by
  unfold maxLen at hs ht
  by_cases h : t.size ≤ s.size
  · obtain ⟨k, hk⟩ : ∃ k, k = s.size - t.size := ⟨_, rfl⟩
    have e1 : (s.size : Int) - (t.size : Int) = (k : Int) := by omega
    have e2 : k ≤ s.size := by omega
    go_enter Try.func79, Try.ntmps79
    go_wp2_with fail
    go_ret
    refine ⟨ret_bool ?_, rfl⟩
    rw [decide_eq_true h, Bool.true_and, Bool.eq_iff_iff, beq_iff_eq, decide_eq_true_eq, ByteArray.toList_eq, ByteArray.toList_eq]
    exact ⟨fun e => text_eq e, fun e => by rw [e]⟩
  · go_enter Try.func79, Try.ntmps79
    go_wp2_with fail
    go_ret
    exact ⟨ret_bool (by rw [decide_eq_false h]; rfl), rfl⟩

theorem suffix_lf (st p : List Bool) (hs : st.length ≤ 1000) (hp : p.length ≤ 1000) (w : World) :
    Calls Try.prog 79 #[.string (lf st), .string (lf p)] w fun e w' => e = .returned (.bool (hasP p st)) ∧ w' = w := by
  refine (suffix_any _ _ (by rw [lf_size]; simp [maxLen]; omega) (by rw [lf_size]; simp [maxLen]; omega) w).mono ?_
  rintro e w' ⟨rfl, rfl⟩
  refine ⟨ret_bool ?_, rfl⟩
  rw [lf_size, lf_size]
  by_cases h : p.length ≤ st.length
  · rw [decide_eq_true h, Bool.true_and, Bool.eq_iff_iff, decide_eq_true_eq, hasP_eq h]
  · rw [decide_eq_false h, hasP_short h]; rfl

set_option maxHeartbeats 800000 in
theorem cut0_any (st p : List Bool) (hs : st.length ≤ 1000) (hp : p.length ≤ 1000) (w : World) :
    Calls Try.prog 68 #[.string (lf st), .string (lf p)] w fun e w' => e = .returned (.tuple #[.string (if hasP p st = true then lf (st.drop p.length) else lf st), .bool (hasP p st)]) ∧ w' = w := by
  have HS := Lib.hid (suffix_lf st p hs hp)
  have z1 := lf_size st
  have z2 := lf_size p
  by_cases h : hasP p st = true
  · have hl : p.length ≤ st.length := by
      rcases Nat.lt_or_ge st.length p.length with hlt | hge
      · rw [hasP_short (by omega)] at h; cases h
      · exact hge
    have hh := lf_head st p.length hl
    have HH := Lib.hid hh
    clear hh
    rw [h] at HS ⊢
    generalize lf st = s at *
    generalize lf p = t at *
    have e1 : (s.size : Int) - (t.size : Int) = ((st.length - p.length : Nat) : Int) := by omega
    have e2 : st.length - p.length ≤ s.size := by omega
    have ez : s.size - t.size = st.length - p.length := by omega
    have e3 : s.size ≤ 1000 := by omega
    have e4 : t.size ≤ s.size := by omega
    have HZ := Lib.hid ez
    clear z1 z2 h e1 e2 hl hs hp ez
    go_enter Try.func68, Try.ntmps68
    go_wp2_with (go_at_call 79; refine (HS.out _).mono ?_; rintro e w1 ⟨rfl, rfl⟩)
    go_ret2
    exact ⟨by rw [HZ.out, HH.out]; rfl, rfl⟩
  · rw [Bool.not_eq_true] at h
    rw [h] at HS ⊢
    generalize lf st = s at *
    generalize lf p = t at *
    clear z1 z2 h hs hp
    go_enter Try.func68, Try.ntmps68
    go_wp2_with (go_at_call 79; refine (HS.out _).mono ?_; rintro e w1 ⟨rfl, rfl⟩)
    go_ret2
    exact ⟨rfl, rfl⟩

theorem cut_any (st p : List Bool) (hs : st.length ≤ 1000) (hp : p.length ≤ 1000) (w : World) :
    Calls Try.prog 45 #[.string (lf st), .string (lf p)] w fun e w' => e = .returned (.tuple #[.string (if hasP p st = true then lf (st.drop p.length) else lf st), .bool (hasP p st)]) ∧ w' = w := by
  have HS := Lib.hid (cut0_any st p hs hp)
  generalize lf st = s at *
  generalize lf p = t at *
  generalize (if hasP p st = true then lf (st.drop p.length) else s) = u at *
  generalize hasP p st = b at *
  clear hs hp
  go_enter Try.func45, Try.ntmps45
  go_wp2_with (go_at_call 68; refine (HS.out _).mono ?_; rintro e w1 ⟨rfl, rfl⟩)
  go_ret2
  exact ⟨rfl, rfl⟩
end Go.Proofs.Ytincnopaclmppaa
/- Attributes, nodes, matches, duties held against each other by ==. -/
namespace Go.Proofs.Ytincnopaclmppaa
set_option linter.unusedVariables false
open Go.RowKit

theorem text_same (s s' : ByteArray) : (s.toList = s'.toList) = (s = s') := propext ⟨fun c => text_eq (by show s.data.toList = s'.data.toList; rw [← ByteArray.toList_eq, ← ByteArray.toList_eq]; exact c), fun h => by rw [h]⟩

theorem vl_ext {a b : Vl} (h1 : a.k = b.k) (h2 : a.n = b.n) (h3 : a.s = b.s) : a = b := by cases a; cases b; simp_all
theorem attr_eq (k k' : Int) (s s' : ByteArray) (m m' : Bool) (w : World) :
    (Op.equalIn 10000 44 (.agg #[.int .i64 k, .string s, .bool m]) (.agg #[.int .i64 k', .string s', .bool m'])).run Try.prog w = .ok (decide ((⟨k, s, m⟩ : Atr) = ⟨k', s', m'⟩)) w := by
  have u3 := Try.underlying3
  have a3 := Try.isAgg3
  have z3 := Try.sizeOf3
  have u9 := Try.underlying9
  have a9 := Try.isAgg9
  have z9 := Try.sizeOf9
  have u4 := Try.underlying4
  have a4 := Try.isAgg4
  have z4 := Try.sizeOf4
  have hS : Try.prog.underlying 44 = some (.struct (Try.prog.fieldsOf 44)) := by kernel_rfl
  have hp : Try.prog.stoodInHeld 44 = false := by kernel_rfl
  rw [show (10000 : Nat) = 9999 + 1 from rfl, run_equalIn_agg w 9999 44 _ _ hS hp]
  simp only [Program.fieldsOf, Try.underlying44]
  go_simp
  simp only [text_same]
  by_cases h1 : k = k' <;> by_cases h2 : s = s' <;> by_cases h3 : m = m' <;> simp [h1, h2, h3]

set_option maxRecDepth 100000 in
set_option maxHeartbeats 800000 in
theorem nod_eq (a b : Nod) (w : World) : (Op.equalIn 10000 72 (.agg #[.int .i64 a.op, .int .i64 a.v.k, .int .i64 a.v.n, .string a.v.s, .int .i64 a.a.cat, .string a.a.name, .bool a.a.must]) (.agg #[.int .i64 b.op, .int .i64 b.v.k, .int .i64 b.v.n, .string b.v.s, .int .i64 b.a.cat, .string b.a.name, .bool b.a.must])).run Try.prog w = .ok (decide (a = b)) w := by
  have u3 := Try.underlying3
  have a3 := Try.isAgg3
  have z3 := Try.sizeOf3
  have u9 := Try.underlying9
  have a9 := Try.isAgg9
  have z9 := Try.sizeOf9
  have u4 := Try.underlying4
  have a4 := Try.isAgg4
  have z4 := Try.sizeOf4
  have hS : Try.prog.underlying 72 = some (.struct (Try.prog.fieldsOf 72)) := by kernel_rfl
  have hp : Try.prog.stoodInHeld 72 = false := by kernel_rfl
  rw [show (10000 : Nat) = 9999 + 1 from rfl, run_equalIn_agg w 9999 72 _ _ hS hp]
  simp only [Program.fieldsOf, Try.underlying72]
  go_simp
  simp only [text_same]
  repeat' split
  all_goals first
    | (rw [decide_eq_true]; exact Nod.ext' (by assumption) (vl_ext (by assumption) (by assumption) (by assumption)) (Atr.ext' (by assumption) (by assumption) (by assumption)))
    | (rw [decide_eq_false]; rintro rfl; rename_i hne; exact hne rfl)

set_option maxRecDepth 100000 in
set_option maxHeartbeats 800000 in
theorem mat_eq (a b : Mat) (w : World) : (Op.equalIn 10000 133 (.agg #[.int .i64 a.a.cat, .string a.a.name, .bool a.a.must, .int .i64 a.op, .int .i64 a.v.k, .int .i64 a.v.n, .string a.v.s]) (.agg #[.int .i64 b.a.cat, .string b.a.name, .bool b.a.must, .int .i64 b.op, .int .i64 b.v.k, .int .i64 b.v.n, .string b.v.s])).run Try.prog w = .ok (decide (a = b)) w := by
  have u3 := Try.underlying3
  have a3 := Try.isAgg3
  have z3 := Try.sizeOf3
  have u9 := Try.underlying9
  have a9 := Try.isAgg9
  have z9 := Try.sizeOf9
  have u4 := Try.underlying4
  have a4 := Try.isAgg4
  have z4 := Try.sizeOf4
  have hS : Try.prog.underlying 133 = some (.struct (Try.prog.fieldsOf 133)) := by kernel_rfl
  have hp : Try.prog.stoodInHeld 133 = false := by kernel_rfl
  rw [show (10000 : Nat) = 9999 + 1 from rfl, run_equalIn_agg w 9999 133 _ _ hS hp]
  simp only [Program.fieldsOf, Try.underlying133]
  go_simp
  simp only [text_same]
  repeat' split
  all_goals first
    | (rw [decide_eq_true]; exact Mat.ext' (Atr.ext' (by assumption) (by assumption) (by assumption)) (by assumption) (vl_ext (by assumption) (by assumption) (by assumption)))
    | (rw [decide_eq_false]; rintro rfl; rename_i hne; exact hne rfl)

set_option maxRecDepth 100000 in
set_option maxHeartbeats 800000 in
theorem dut_eq (a b : Dut) (w : World) : (Op.equalIn 10000 121 (.agg #[.int .i64 a.on, .int .i64 a.kind, .string a.arg]) (.agg #[.int .i64 b.on, .int .i64 b.kind, .string b.arg])).run Try.prog w = .ok (decide (a = b)) w := by
  have u3 := Try.underlying3
  have a3 := Try.isAgg3
  have z3 := Try.sizeOf3
  have u9 := Try.underlying9
  have a9 := Try.isAgg9
  have z9 := Try.sizeOf9
  have u4 := Try.underlying4
  have a4 := Try.isAgg4
  have z4 := Try.sizeOf4
  have hS : Try.prog.underlying 121 = some (.struct (Try.prog.fieldsOf 121)) := by kernel_rfl
  have hp : Try.prog.stoodInHeld 121 = false := by kernel_rfl
  rw [show (10000 : Nat) = 9999 + 1 from rfl, run_equalIn_agg w 9999 121 _ _ hS hp]
  simp only [Program.fieldsOf, Try.underlying121]
  go_simp
  simp only [text_same]
  repeat' split
  all_goals first
    | (rw [decide_eq_true]; exact Dut.ext' (by assumption) (by assumption) (by assumption))
    | (rw [decide_eq_false]; rintro rfl; rename_i hne; exact hne rfl)

end Go.Proofs.Ytincnopaclmppaa
/- What a node is of, what it makes, and what it may have beside its Op. -/
namespace Go.Proofs.Ytincnopaclmppaa
set_option linter.unusedVariables false
open Go.RowKit

def ofT (op : Int) : ByteArray := lf ((patX op).getD [])
def makesT (op : Int) : ByteArray := match patX op with | none => lf [] | some _ => lf [makesX op]
set_option maxHeartbeats 1600000 in
theorem shape_any (op : Int) (w : World) :
    Calls Try.prog 44 #[.int .i64 op] w fun e w' => e = .returned (.tuple #[.string (ofT op), .string (makesT op)]) ∧ w' = w := by
  rcases ops_cases op with rfl | rfl | rfl | rfl | rfl | rfl | rfl | rfl | rfl | rfl | rfl | rfl | rfl | h
  case inr.inr.inr.inr.inr.inr.inr.inr.inr.inr.inr.inr.inr =>
    have HE : Hid (ofT op = ⟨#[]⟩ ∧ makesT op = ⟨#[]⟩) := by
      show ofT op = ⟨#[]⟩ ∧ makesT op = ⟨#[]⟩
      obtain ⟨h1, h2, h3, h4, h5, h6, h7, h8, h9, h10, h11, h12, h13⟩ := h
      have : patX op = none := by simp [patX, h1, h2, h3, h4, h5, h6, h7, h8, h9, h10, h11, h12, h13]
      unfold ofT makesT
      rw [this]
      exact ⟨rfl, rfl⟩
    simp only [ne_eq, ← beq_eq_false_iff_ne] at h
    obtain ⟨h1, h2, h3, h4, h5, h6, h7, h8, h9, h10, h11, h12, h13⟩ := h
    go_enter Try.func44, Try.ntmps44
    go_wp2_with fail
    go_ret2
    exact ⟨by rw [HE.out.1, HE.out.2]; rfl, rfl⟩
  all_goals
    go_enter Try.func44, Try.ntmps44
    go_wp2_with fail
    go_ret2
    exact ⟨rfl, rfl⟩

theorem empty_iff (s : ByteArray) : (s = ByteArray.empty) = (s.toList = []) := propext ⟨fun h => by rw [h, ByteArray.toList_eq]; rfl, fun h => text_eq (by show s.data.toList = []; rw [← ByteArray.toList_eq]; exact h)⟩
theorem zeroA_iff (c : Int) (nm : ByteArray) (mu : Bool) : decide ((⟨c, nm, mu⟩ : Atr) = zeroA) = (decide (c = 0) && decide (nm.toList = []) && decide (mu = false)) := by
  rw [Bool.eq_iff_iff]
  simp only [Bool.and_eq_true, decide_eq_true_eq, ← empty_iff, zeroA, Atr.mk.injEq, and_assoc]
theorem zeroV_iff (k n : Int) (s : ByteArray) : decide ((⟨k, n, s⟩ : Vl) = zeroV) = (decide (k = 0) && decide (n = 0) && decide (s.toList = [])) := by
  rw [Bool.eq_iff_iff]
  simp only [Bool.and_eq_true, decide_eq_true_eq, ← empty_iff, zeroV, Vl.mk.injEq, and_assoc]

set_option maxHeartbeats 1600000 in
theorem holds_any (x : Nod) (hok : x.ok) (w : World) :
    Calls Try.prog 46 #[.agg #[.int .i64 x.op, .int .i64 x.v.k, .int .i64 x.v.n, .string x.v.s, .int .i64 x.a.cat, .string x.a.name, .bool x.a.must]] w fun e w' => e = .returned (.bool (holdsB x)) ∧ Below w.heap.size w w' := by
  obtain ⟨op, ⟨k, n, s⟩, ⟨c, nm, mu⟩⟩ := x
  obtain ⟨hop, hv, ha⟩ := hok
  simp only at hop hv ha ⊢
  have HV := Lib.hid (right_any k n s hv.2.2)
  have HA := Lib.hid (attr_any ⟨c, nm, mu⟩ ha)
  have HE : Hid (holdsB ⟨op, ⟨k, n, s⟩, ⟨c, nm, mu⟩⟩ = if op = 1 then decide (RightV k n s.data.toList) && (decide (c = 0) && decide (nm.toList = []) && decide (mu = false)) else if op = 2 then (decide (k = 0) && decide (n = 0) && decide (s.toList = [])) && attrB ⟨c, nm, mu⟩
      else (decide (k = 0) && decide (n = 0) && decide (s.toList = [])) && (decide (c = 0) && decide (nm.toList = []) && decide (mu = false))) := by
    rw [← zeroA_iff, ← zeroV_iff]; exact rfl
  clear hop hv ha
  generalize decide (RightV k n s.data.toList) = rv at *
  generalize attrB ⟨c, nm, mu⟩ = ab at *
  generalize holdsB ⟨op, ⟨k, n, s⟩, ⟨c, nm, mu⟩⟩ = r at *
  have two : op = 1 ∨ op = 2 ∨ ((op == 1) = false ∧ (op == 2) = false) := by simp only [beq_eq_false_iff_ne]; omega
  rcases two with rfl | rfl | ⟨t1, t2⟩
  · go_enter Try.func46, Try.ntmps46
    go_wp2_with (first
      | (go_at_call 69; refine (HV.out _).mono ?_; rintro e w1 ⟨rfl, hb1⟩; have B1 := Lib.hid (Below.lit hb1); have C1 := Lib.hid (Ob.below (Ob.made _ _ _) hb1 (by simp)); have c4 := C1.out.cell 4; have c5 := C1.out.cell 5; have c6 := C1.out.cell 6))
    all_goals
      go_ret
      refine ⟨ret_bool ?_, B1.out⟩
      rw [HE.out]
      clear HA HV HE B1 C1
      simp_all
  · go_enter Try.func46, Try.ntmps46
    go_wp2_with (first
      | (go_at_call 57; refine (HA.out _).mono ?_; rintro e w1 ⟨rfl, hb1⟩; have B1 := Lib.hid (Below.lit hb1)))
    all_goals
      go_ret
      refine ⟨ret_bool ?_, by first | exact B1.out | exact (Below.refl _ _).alloc (Nat.le_refl _) _⟩
      rw [HE.out]
      clear HA HV HE
      simp_all
  · have HT : Hid (op ≠ 1 ∧ op ≠ 2) := ⟨by simpa using t1, by simpa using t2⟩
    go_enter Try.func46, Try.ntmps46
    go_wp2_with fail
    all_goals
      go_ret
      refine ⟨ret_bool ?_, (Below.refl _ _).alloc (Nat.le_refl _) _⟩
      have ht := HT.out
      rw [HE.out]
      clear HA HV HE HT
      simp_all
end Go.Proofs.Ytincnopaclmppaa
/- Expressions: the project's. -/
namespace Go.Proofs.Ytincnopaclmppaa
set_option linter.unusedVariables false
open Go.RowKit

theorem runX_app : ∀ (l m : List Nod) (st : List Bool), runX (l ++ m) st = (match runX l st with | some st' => runX m st' | none => none)
  | [], m, st => rfl
  | x :: l, m, st => by
    simp only [List.cons_append, runX]
    cases stepX x st with
    | none => rfl
    | some st' => exact runX_app l m st'
/-- So far. -/
def RunTo (l : List Nod) (k : Nat) (st : List Bool) : Prop := runX (l.take k) [] = some st
theorem RunTo.zero (l : List Nod) : RunTo l 0 [] := rfl
theorem take_next {α : Type} {l : List α} {k : Nat} {x : α} (h : l[k]? = some x) : l.take (k + 1) = l.take k ++ [x] := by
  obtain ⟨hk, rfl⟩ := List.getElem?_eq_some_iff.1 h
  exact List.take_succ_eq_append_getElem hk
theorem RunTo.step {l : List Nod} {k : Nat} {st st' : List Bool} {x : Nod} (h : RunTo l k st) (hx : l[k]? = some x) (hs : stepX x st = some st') : RunTo l (k + 1) st' := by
  unfold RunTo at h ⊢
  rw [take_next hx, runX_app, h]
  simp only [runX, hs]
theorem RunTo.err {l : List Nod} {k : Nat} {st : List Bool} {x : Nod} (h : RunTo l k st) (hx : l[k]? = some x) (hs : stepX x st = none) : runX l [] = none := by
  rw [← List.take_append_drop (k + 1) l, runX_app, take_next hx, runX_app, h]
  simp only [runX, hs]
theorem RunTo.all {l : List Nod} {n : Nat} {st : List Bool} (h : RunTo l n st) (hn : l.length = n) : runX l [] = some st := by
  unfold RunTo at h
  rwa [List.take_of_length_le (by omega)] at h
theorem expr_err {l : List Nod} (hl : l.length ≤ 32) (h : runX l [] = none) : exprE l = 1 := by
  unfold exprE
  rw [if_neg (by omega), h]
theorem expr_end {l : List Nod} {st : List Bool} (hl : l.length ≤ 32) (h : runX l [] = some st) : exprE l = if l = [] ∨ st = [false] then 0 else 1 := by
  unfold exprE
  rw [if_neg (by omega), h]

set_option maxHeartbeats 1600000 in
theorem expr_any {R : Nat → Prop} {A : Option Addr} {n c : Nat} {l : List Nod} (w : World) (h : Nds w R A n c l) :
    Calls Try.prog 27 #[.slice A n c] w fun e w' => e = .returned (.int .i64 (exprE l)) ∧ Below w.heap.size w w' := by
  have hle := Rw.le h
  have hcap := Rw.cap h
  have HL := Lib.hid (Rw.len h)
  unfold maxLen at hcap
  have H := Lib.hid h
  clear h
  by_cases h32 : 32 < n
  · have HE : Hid (exprE l = 6) := by
      show exprE l = _
      unfold exprE
      rw [HL.out, if_pos h32]
    have hb : (32 : Int) < (n : Int) := by omega
    go_enter Try.func27, Try.ntmps27
    go_wp2_with fail
    go_ret
    exact ⟨ret_int HE.out.symm, Below.refl _ _⟩
  have hb : ¬ (32 : Int) < (n : Int) := by omega
  go_enter Try.func27, Try.ntmps27
  go_wp2
  go_loopw [3, 15] (fun s i wr => ∃ (k : Nat) (st : List Bool), k ≤ n ∧ i = .int .i64 k ∧ s = .string (lf st) ∧ st.length ≤ k ∧ RunTo l k st ∧ Below w.heap.size w wr) (fun _ i _ => n - (intOf i).toNat)
  case atStart => exact ⟨0, [], Nat.zero_le _, rfl, rfl, Nat.le_refl _, RunTo.zero _, Below.refl _ _⟩
  case round =>
    obtain ⟨k, st, hk, rfl, rfl, hst, hf, hb⟩ := hrel
    have HF := Lib.hid hf
    have HB := Lib.hid hb
    clear hf hb
    by_cases hlt : k < n
    · obtain ⟨b, o, x, rfl, hRb, hbl, hx, hok, c0, c1, c2, c3, c4, c5, c6⟩ := (H.out.keep (Kept.all HB.out R) (fun _ h _ => h)).at_ hlt
      have HX := Lib.hid hx
      have hsh := fun W => shape_any x.op W
      have hho := fun W => holds_any x hok W
      have HS : Hid (stepX x st = if holdsB x = true then popX x.op st else none) := rfl
      rw [popX_pat] at HS
      obtain ⟨op, ⟨kx, nx, sx⟩, ⟨cx, mx, ux⟩⟩ := x
      simp only at c0 c1 c2 c3 c4 c5 c6 hsh hho HS
      have HHO := Lib.hid hho
      have hl32 := HL.out
      have hst' : st.length ≤ 1000 := by omega
      have HK := Lib.hid hst
      clear hok hho hx hst
      unfold ofT makesT at hsh
      cases hpat : patX op with
      | none =>
        rw [hpat] at hsh HS
        have hcut := fun W => cut_any st [] hst' (by simp) W
        simp only [Option.getD_none, hasP, List.take_zero, List.length_nil, decide_true, if_true, List.drop_zero, lf_nil] at hsh hcut
        have HSH := Lib.hid hsh
        have HCUT := Lib.hid hcut
        have HERR : Hid (exprE l = 1) := expr_err (by omega) (HF.out.err HX.out (by rw [HS.out]; simp))
        clear hsh hcut hpat HS hl32 hst'
        generalize lf st = ls at *
        go_wp2_with (first
          | (go_at_call 44; refine (HSH.out _).mono ?_; rintro e w1 ⟨rfl, rfl⟩)
          | (go_at_call 45; refine (HCUT.out _).mono ?_; rintro e w2 ⟨rfl, rfl⟩))
        go_ret
        exact ⟨ret_int HERR.out.symm, HB.out.alloc HB.out.size _⟩
      | some p =>
        rw [hpat] at hsh HS
        have hcut := fun W => cut_any st p hst' (by have := patX_len hpat; omega) W
        simp only [Option.getD_some] at hsh hcut HS
        by_cases hpp : hasP p st = true
        · simp only [hpp, if_true] at hcut HS
          obtain ⟨d, hd⟩ : ∃ d, d = st.drop p.length := ⟨_, rfl⟩
          have hdl : d.length ≤ st.length := by rw [hd, List.length_drop]; omega
          rw [← hd] at hcut HS
          obtain ⟨hb, hhb⟩ : ∃ hb, hb = holdsB ⟨op, ⟨kx, nx, sx⟩, ⟨cx, mx, ux⟩⟩ := ⟨_, rfl⟩
          rw [← hhb] at HHO HS
          have hpush := lf_push d (makesX op)
          have hds := lf_size d
          have HSH := Lib.hid hsh
          have HCUT := Lib.hid hcut
          have hx1 : (9223372036854775807 < (lf d).size + 1) = False := eq_false (by have := HK.out; omega)
          have HD : Hid ((makesX op :: d).length ≤ k + 1) := by
            show (makesX op :: d).length ≤ k + 1
            have := HK.out
            rw [List.length_cons]
            omega
          clear hsh hcut hpat hl32 hst' hpp hd hdl hhb hds
          obtain ⟨mb, hmb⟩ : ∃ mb, mb = makesX op := ⟨_, rfl⟩
          rw [← hmb] at HSH hpush HS HD
          have HP := Lib.hid hpush
          clear hmb hpush
          generalize hls : lf st = ls at *
          generalize hlp : lf p = lp at *
          have HTX := Lib.hid (rfl : lf d = lf d)
          generalize htx : lf d = tx at *
          have HTX := Lib.hid htx
          clear hls hlp htx
          cases hb
          · have HERR : Hid (exprE l = 1) := expr_err (by have := HL.out; omega) (HF.out.err HX.out (by rw [HS.out]; simp))
            clear HS
            cases mb
            all_goals
              simp only [show lf [false] = (⟨#[118]⟩ : ByteArray) from rfl, show lf [true] = (⟨#[98]⟩ : ByteArray) from rfl] at HSH
              go_wp2_with (first
                | (go_at_call 44; refine (HSH.out _).mono ?_; rintro e w1 ⟨rfl, rfl⟩)
                | (go_at_call 45; refine (HCUT.out _).mono ?_; rintro e w2 ⟨rfl, rfl⟩)
                | (go_at_call 46; refine (HHO.out _).mono ?_; rintro e w3 ⟨rfl, hb3⟩; have B3 := Lib.hid (Below.lit hb3)))
              go_ret
              exact ⟨ret_int HERR.out.symm, below_step HB.out B3.out⟩
          · have HNEXT : Hid (RunTo l (k + 1) (mb :: d)) := HF.out.step HX.out (by rw [HS.out]; simp)
            clear HS
            cases mb
            all_goals
              simp only [show lf [false] = (⟨#[118]⟩ : ByteArray) from rfl, show lf [true] = (⟨#[98]⟩ : ByteArray) from rfl] at HSH HP
              go_wp2_with (first
                | (go_at_call 44; refine (HSH.out _).mono ?_; rintro e w1 ⟨rfl, rfl⟩)
                | (go_at_call 45; refine (HCUT.out _).mono ?_; rintro e w2 ⟨rfl, rfl⟩)
                | (go_at_call 46; refine (HHO.out _).mono ?_; rintro e w3 ⟨rfl, hb3⟩; have B3 := Lib.hid (Below.lit hb3)))
              go_roundw
              case rel => exact ⟨k + 1, _, by omega, by go_num, by rw [HP.out], HD.out, HNEXT.out, below_step HB.out B3.out⟩
              case measure => simp [intOf]; omega
        · rw [Bool.not_eq_true] at hpp
          simp only [hpp] at hcut HS
          have HSH := Lib.hid hsh
          have HCUT := Lib.hid hcut
          have HERR : Hid (exprE l = 1) := expr_err (by omega) (HF.out.err HX.out (by rw [HS.out]; simp))
          clear hsh hcut hpat HS hl32 hst' hpp
          generalize lf st = ls at *
          generalize lf p = lp at *
          generalize lf [makesX op] = lm at *
          go_wp2_with (first
            | (go_at_call 44; refine (HSH.out _).mono ?_; rintro e w1 ⟨rfl, rfl⟩)
            | (go_at_call 45; refine (HCUT.out _).mono ?_; rintro e w2 ⟨rfl, rfl⟩))
          go_ret
          exact ⟨ret_int HERR.out.symm, HB.out.alloc HB.out.size _⟩
    · obtain rfl : k = n := by omega
      have HEND := Lib.hid (expr_end (by have := HL.out; omega) (HF.out.all HL.out))
      by_cases hk0 : k = 0
      · subst hk0
        have HZ : Hid (exprE l = 0) := HEND.out.trans (if_pos (.inl (List.eq_nil_of_length_eq_zero HL.out)))
        generalize lf st = ls at *
        go_wp2_with fail
        go_ret
        exact ⟨ret_int HZ.out.symm, HB.out⟩
      · have hlpos : (0 : Int) < (k : Int) := by omega
        have hne : ¬ l = [] := by rintro rfl; have := HL.out; simp at this; omega
        by_cases hv : st = [false]
        · subst hv
          have HZ : Hid (exprE l = 0) := HEND.out.trans (if_pos (.inr rfl))
          simp only [show lf [false] = (⟨#[118]⟩ : ByteArray) from rfl]
          go_wp2_with fail
          go_ret
          exact ⟨ret_int HZ.out.symm, HB.out⟩
        · have HZ : Hid (exprE l = 1) := HEND.out.trans (if_neg (fun e => e.elim hne hv))
          have hls : ((lf st).toList == [118]) = false := beq_eq_false_iff_ne.2 (fun e => hv (lf_inj (text_eq (by show (lf st).data.toList = _; rw [← ByteArray.toList_eq, e]; rfl))))
          generalize lf st = ls at *
          clear hne hv
          go_wp2_with fail
          go_ret
          exact ⟨ret_int HZ.out.symm, HB.out⟩
end Go.Proofs.Ytincnopaclmppaa
/- The first error of a list: the project's each, over matches, AllOfs, AnyOfs, duties; targets and duties by it. -/
namespace Go.Proofs.Ytincnopaclmppaa
set_option linter.unusedVariables false
open Go.RowKit

set_option maxHeartbeats 800000 in
theorem each_match {w : World} {R : Nat → Prop} {A : Option Addr} {n c : Nat} {l : List Mat} (h : Ms w R A n c l) :
    Calls Try.prog 86 #[.slice A n c, .func (.func 87) #[] #[]] w fun e w' => e = .returned (.int .i64 (firstE matE l)) ∧ Below w.heap.size w w' := by
  have hle := Rw.le h
  have hcap := Rw.cap h
  have HL := Lib.hid (Rw.len h)
  unfold maxLen at hcap
  have H := Lib.hid h
  clear h
  go_enter Try.func86, Try.ntmps86
  go_wp2
  go_loopw [10] (fun i wr => ∃ k : Nat, k ≤ n ∧ i = .int .i64 k ∧ FineTo matE l k ∧ Below w.heap.size w wr) (fun i _ => n - (intOf i).toNat)
  case atStart => exact ⟨0, Nat.zero_le _, rfl, FineTo.zero _ _, Below.refl _ _⟩
  case round =>
    obtain ⟨k, hk, rfl, hf, hb⟩ := hrel
    have HF := Lib.hid hf
    have HB := Lib.hid hb
    clear hf hb
    by_cases hlt : k < n
    · obtain ⟨b, o, x, rfl, hRb, hbl, hx, hok, c0, c1, c2, c3, c4, c5, c6⟩ := (H.out.keep (Kept.all HB.out R) (fun _ h _ => h)).at_ hlt
      have HX := Lib.hid hx
      have hcon := fun W => match_any x hok W
      clear hx
      by_cases hz : matE x = 0
      · have HZ := Lib.hid hz
        rw [hz] at hcon
        have HC := Lib.hid hcon
        clear hz hcon
        go_wp2_with (go_at_call 87; refine (HC.out _).mono ?_; rintro e w1 ⟨rfl, hb1⟩; have B1 := Lib.hid (Below.lit hb1))
        go_roundw
        case rel => exact ⟨k + 1, by omega, by go_num, HF.out.step HX.out HZ.out, below_step HB.out B1.out⟩
        case measure => simp [intOf]; omega
      · have HZ := Lib.hid hz
        obtain ⟨r, hr⟩ : ∃ r, r = matE x := ⟨_, rfl⟩
        have HR := Lib.hid hr
        rw [← hr] at hz hcon
        have hne : (r != 0) = true := by simpa using hz
        have HC := Lib.hid hcon
        clear hz hcon hr
        go_wp2_with (go_at_call 87; refine (HC.out _).mono ?_; rintro e w1 ⟨rfl, hb1⟩; have B1 := Lib.hid (Below.lit hb1))
        go_ret
        exact ⟨ret_int (HR.out.trans (HF.out.err HX.out HZ.out).symm), below_step HB.out B1.out⟩
    · obtain rfl : k = n := by omega
      go_wp2
      go_ret
      exact ⟨ret_int (HF.out.all HL.out).symm, HB.out⟩

theorem allOf_any {R : Nat → Prop} {A : Option Addr} {n c : Nat} {l : List Mat} (w : World) (h : Ms w R A n c l) :
    Calls Try.prog 84 #[.slice A n c] w fun e w' => e = .returned (.int .i64 (allE l)) ∧ Below w.heap.size w w' := by
  have hle := Rw.le h
  have hcap := Rw.cap h
  have HL := Lib.hid (Rw.len h)
  unfold maxLen at hcap
  have H := Lib.hid h
  clear h
  obtain ⟨r, hr⟩ : ∃ r, r = partsE n := ⟨_, rfl⟩
  have HR := Lib.hid hr
  by_cases hz : r = 0
  · have HP : ∀ W, Calls Try.prog 82 #[.int .i64 n] W fun e w' => e = .returned (.int .i64 0) ∧ w' = W := fun W => by have := parts_any n W; rwa [← hr, hz] at this
    have HE : Hid (allE l = firstE matE l) := by
      show allE l = _
      unfold allE
      rw [HL.out, ← hr, hz]; simp
    have HPP := Lib.hid HP
    clear hz hr HP
    go_enter Try.func84, Try.ntmps84
    go_wp2_with (first
      | (go_at_call 82; refine (HPP.out _).mono ?_; rintro e w1 ⟨rfl, rfl⟩)
      | (go_at_call 86; refine (each_match H.out).mono ?_; rintro e w2 ⟨rfl, hb2⟩; have B2 := Lib.hid hb2))
    go_ret
    exact ⟨ret_int HE.out.symm, B2.out⟩
  · have HP : ∀ W, Calls Try.prog 82 #[.int .i64 n] W fun e w' => e = .returned (.int .i64 r) ∧ w' = W := fun W => by have := parts_any n W; rwa [← hr] at this
    have HE : Hid (allE l = r) := by
      show allE l = _
      unfold allE
      rw [HL.out, ← hr, if_pos hz]
    have hne : (r != 0) = true := by simpa using hz
    have HPP := Lib.hid HP
    clear hz hr HP
    go_enter Try.func84, Try.ntmps84
    go_wp2_with (first
      | (go_at_call 82; refine (HPP.out _).mono ?_; rintro e w1 ⟨rfl, rfl⟩))
    go_ret
    exact ⟨ret_int HE.out.symm, Below.refl _ _⟩

set_option maxHeartbeats 800000 in
theorem each_allOf {w : World} {R : Nat → Prop} {A : Option Addr} {n c : Nat} {l : List (List Mat)} (h : Als w R A n c l) :
    Calls Try.prog 83 #[.slice A n c, .func (.func 84) #[] #[]] w fun e w' => e = .returned (.int .i64 (firstE allE l)) ∧ Below w.heap.size w w' := by
  have hle := Rw.le h
  have hcap := Rw.cap h
  have HL := Lib.hid (Rw.len h)
  unfold maxLen at hcap
  have H := Lib.hid h
  clear h
  go_enter Try.func83, Try.ntmps83
  go_wp2
  go_loopw [10] (fun i wr => ∃ k : Nat, k ≤ n ∧ i = .int .i64 k ∧ FineTo allE l k ∧ Below w.heap.size w wr) (fun i _ => n - (intOf i).toNat)
  case atStart => exact ⟨0, Nat.zero_le _, rfl, FineTo.zero _ _, Below.refl _ _⟩
  case round =>
    obtain ⟨k, hk, rfl, hf, hb⟩ := hrel
    have HF := Lib.hid hf
    have HB := Lib.hid hb
    clear hf hb
    by_cases hlt : k < n
    · obtain ⟨b, o, x, A', n', c', rfl, hRb, hbl, hx, c0, hin⟩ := (H.out.keep (Kept.all HB.out R) (fun _ h _ => h)).at_ hlt
      have HX := Lib.hid hx
      have hinK := fun W (hb : Below wr.heap.size wr W) => Ms.keep hin (Kept.all hb R) (fun _ h _ => h)
      have hcon := fun W (hb : Below wr.heap.size wr W) => allOf_any W (hinK W hb)
      clear hx
      by_cases hz : allE x = 0
      · have HZ := Lib.hid hz
        rw [hz] at hcon
        have HC := Lib.hid hcon
        clear hz hcon
        go_wp2_with (go_at_call 84; refine (HC.out _ (Below.refl _ _)).mono ?_; rintro e w1 ⟨rfl, hb1⟩; have B1 := Lib.hid hb1)
        go_roundw
        case rel => exact ⟨k + 1, by omega, by go_num, HF.out.step HX.out HZ.out, below_step HB.out B1.out⟩
        case measure => simp [intOf]; omega
      · have HZ := Lib.hid hz
        obtain ⟨r, hr⟩ : ∃ r, r = allE x := ⟨_, rfl⟩
        have HR := Lib.hid hr
        rw [← hr] at hz hcon
        have hne : (r != 0) = true := by simpa using hz
        have HC := Lib.hid hcon
        clear hz hcon hr
        go_wp2_with (go_at_call 84; refine (HC.out _ (Below.refl _ _)).mono ?_; rintro e w1 ⟨rfl, hb1⟩; have B1 := Lib.hid hb1)
        go_ret
        exact ⟨ret_int (HR.out.trans (HF.out.err HX.out HZ.out).symm), below_step HB.out B1.out⟩
    · obtain rfl : k = n := by omega
      go_wp2
      go_ret
      exact ⟨ret_int (HF.out.all HL.out).symm, HB.out⟩

theorem anyOf_any {R : Nat → Prop} {A : Option Addr} {n c : Nat} {l : List (List Mat)} (w : World) (h : Als w R A n c l) :
    Calls Try.prog 76 #[.slice A n c] w fun e w' => e = .returned (.int .i64 (anyE l)) ∧ Below w.heap.size w w' := by
  have hle := Rw.le h
  have hcap := Rw.cap h
  have HL := Lib.hid (Rw.len h)
  unfold maxLen at hcap
  have H := Lib.hid h
  clear h
  obtain ⟨r, hr⟩ : ∃ r, r = partsE n := ⟨_, rfl⟩
  have HR := Lib.hid hr
  by_cases hz : r = 0
  · have HP : ∀ W, Calls Try.prog 82 #[.int .i64 n] W fun e w' => e = .returned (.int .i64 0) ∧ w' = W := fun W => by have := parts_any n W; rwa [← hr, hz] at this
    have HE : Hid (anyE l = firstE allE l) := by
      show anyE l = _
      unfold anyE
      rw [HL.out, ← hr, hz]; simp
    have HPP := Lib.hid HP
    clear hz hr HP
    go_enter Try.func76, Try.ntmps76
    go_wp2_with (first
      | (go_at_call 82; refine (HPP.out _).mono ?_; rintro e w1 ⟨rfl, rfl⟩)
      | (go_at_call 83; refine (each_allOf H.out).mono ?_; rintro e w2 ⟨rfl, hb2⟩; have B2 := Lib.hid hb2))
    go_ret
    exact ⟨ret_int HE.out.symm, B2.out⟩
  · have HP : ∀ W, Calls Try.prog 82 #[.int .i64 n] W fun e w' => e = .returned (.int .i64 r) ∧ w' = W := fun W => by have := parts_any n W; rwa [← hr] at this
    have HE : Hid (anyE l = r) := by
      show anyE l = _
      unfold anyE
      rw [HL.out, ← hr, if_pos hz]
    have hne : (r != 0) = true := by simpa using hz
    have HPP := Lib.hid HP
    clear hz hr HP
    go_enter Try.func76, Try.ntmps76
    go_wp2_with (first
      | (go_at_call 82; refine (HPP.out _).mono ?_; rintro e w1 ⟨rfl, rfl⟩))
    go_ret
    exact ⟨ret_int HE.out.symm, Below.refl _ _⟩

set_option maxHeartbeats 800000 in
theorem each_anyOf {w : World} {R : Nat → Prop} {A : Option Addr} {n c : Nat} {l : List (List (List Mat))} (h : Tg w R A n c l) :
    Calls Try.prog 75 #[.slice A n c, .func (.func 76) #[] #[]] w fun e w' => e = .returned (.int .i64 (firstE anyE l)) ∧ Below w.heap.size w w' := by
  have hle := Rw.le h
  have hcap := Rw.cap h
  have HL := Lib.hid (Rw.len h)
  unfold maxLen at hcap
  have H := Lib.hid h
  clear h
  go_enter Try.func75, Try.ntmps75
  go_wp2
  go_loopw [10] (fun i wr => ∃ k : Nat, k ≤ n ∧ i = .int .i64 k ∧ FineTo anyE l k ∧ Below w.heap.size w wr) (fun i _ => n - (intOf i).toNat)
  case atStart => exact ⟨0, Nat.zero_le _, rfl, FineTo.zero _ _, Below.refl _ _⟩
  case round =>
    obtain ⟨k, hk, rfl, hf, hb⟩ := hrel
    have HF := Lib.hid hf
    have HB := Lib.hid hb
    clear hf hb
    by_cases hlt : k < n
    · obtain ⟨b, o, x, A', n', c', rfl, hRb, hbl, hx, c0, hin⟩ := (H.out.keep (Kept.all HB.out R) (fun _ h _ => h)).at_ hlt
      have HX := Lib.hid hx
      have hinK := fun W (hb : Below wr.heap.size wr W) => Als.keep hin (Kept.all hb R) (fun _ h _ => h)
      have hcon := fun W (hb : Below wr.heap.size wr W) => anyOf_any W (hinK W hb)
      clear hx
      by_cases hz : anyE x = 0
      · have HZ := Lib.hid hz
        rw [hz] at hcon
        have HC := Lib.hid hcon
        clear hz hcon
        go_wp2_with (go_at_call 76; refine (HC.out _ (Below.refl _ _)).mono ?_; rintro e w1 ⟨rfl, hb1⟩; have B1 := Lib.hid hb1)
        go_roundw
        case rel => exact ⟨k + 1, by omega, by go_num, HF.out.step HX.out HZ.out, below_step HB.out B1.out⟩
        case measure => simp [intOf]; omega
      · have HZ := Lib.hid hz
        obtain ⟨r, hr⟩ : ∃ r, r = anyE x := ⟨_, rfl⟩
        have HR := Lib.hid hr
        rw [← hr] at hz hcon
        have hne : (r != 0) = true := by simpa using hz
        have HC := Lib.hid hcon
        clear hz hcon hr
        go_wp2_with (go_at_call 76; refine (HC.out _ (Below.refl _ _)).mono ?_; rintro e w1 ⟨rfl, hb1⟩; have B1 := Lib.hid hb1)
        go_ret
        exact ⟨ret_int (HR.out.trans (HF.out.err HX.out HZ.out).symm), below_step HB.out B1.out⟩
    · obtain rfl : k = n := by omega
      go_wp2
      go_ret
      exact ⟨ret_int (HF.out.all HL.out).symm, HB.out⟩

set_option maxHeartbeats 800000 in
theorem each_duty {w : World} {R : Nat → Prop} {A : Option Addr} {n c : Nat} {l : List Dut} (h : Dus w R A n c l) :
    Calls Try.prog 77 #[.slice A n c, .func (.func 78) #[] #[]] w fun e w' => e = .returned (.int .i64 (firstE dutE l)) ∧ Below w.heap.size w w' := by
  have hle := Rw.le h
  have hcap := Rw.cap h
  have HL := Lib.hid (Rw.len h)
  unfold maxLen at hcap
  have H := Lib.hid h
  clear h
  go_enter Try.func77, Try.ntmps77
  go_wp2
  go_loopw [10] (fun i wr => ∃ k : Nat, k ≤ n ∧ i = .int .i64 k ∧ FineTo dutE l k ∧ Below w.heap.size w wr) (fun i _ => n - (intOf i).toNat)
  case atStart => exact ⟨0, Nat.zero_le _, rfl, FineTo.zero _ _, Below.refl _ _⟩
  case round =>
    obtain ⟨k, hk, rfl, hf, hb⟩ := hrel
    have HF := Lib.hid hf
    have HB := Lib.hid hb
    clear hf hb
    by_cases hlt : k < n
    · obtain ⟨b, o, x, rfl, hRb, hbl, hx, hok, c0, c1, c2⟩ := (H.out.keep (Kept.all HB.out R) (fun _ h _ => h)).at_ hlt
      have HX := Lib.hid hx
      have hcon := fun W => duty_any x hok W
      clear hx
      by_cases hz : dutE x = 0
      · have HZ := Lib.hid hz
        rw [hz] at hcon
        have HC := Lib.hid hcon
        clear hz hcon
        go_wp2_with (go_at_call 78; refine (HC.out _).mono ?_; rintro e w1 ⟨rfl, hb1⟩; have B1 := Lib.hid (Below.lit hb1))
        go_roundw
        case rel => exact ⟨k + 1, by omega, by go_num, HF.out.step HX.out HZ.out, below_step HB.out B1.out⟩
        case measure => simp [intOf]; omega
      · have HZ := Lib.hid hz
        obtain ⟨r, hr⟩ : ∃ r, r = dutE x := ⟨_, rfl⟩
        have HR := Lib.hid hr
        rw [← hr] at hz hcon
        have hne : (r != 0) = true := by simpa using hz
        have HC := Lib.hid hcon
        clear hz hcon hr
        go_wp2_with (go_at_call 78; refine (HC.out _).mono ?_; rintro e w1 ⟨rfl, hb1⟩; have B1 := Lib.hid (Below.lit hb1))
        go_ret
        exact ⟨ret_int (HR.out.trans (HF.out.err HX.out HZ.out).symm), below_step HB.out B1.out⟩
    · obtain rfl : k = n := by omega
      go_wp2
      go_ret
      exact ⟨ret_int (HF.out.all HL.out).symm, HB.out⟩

theorem target_any {R : Nat → Prop} {A : Option Addr} {n c : Nat} {l : Tgt} (w : World) (h : Tg w R A n c l) :
    Calls Try.prog 62 #[.slice A n c] w fun e w' => e = .returned (.int .i64 (tgE l)) ∧ Below w.heap.size w w' := by
  have hle := Rw.le h
  have hcap := Rw.cap h
  have HL := Lib.hid (Rw.len h)
  unfold maxLen at hcap
  have H := Lib.hid h
  clear h
  by_cases h8 : 8 < n
  · have HE : Hid (tgE l = 6) := by
      show tgE l = _
      unfold tgE
      rw [HL.out, if_pos h8]
    have hb : (8 : Int) < (n : Int) := by omega
    go_enter Try.func62, Try.ntmps62
    go_wp2_with fail
    go_ret
    exact ⟨ret_int HE.out.symm, Below.refl _ _⟩
  · have HE : Hid (tgE l = firstE anyE l) := by
      show tgE l = _
      unfold tgE
      rw [HL.out, if_neg h8]
    have hb : ¬ (8 : Int) < (n : Int) := by omega
    go_enter Try.func62, Try.ntmps62
    go_wp2_with (go_at_call 75; refine (each_anyOf H.out).mono ?_; rintro e w2 ⟨rfl, hb2⟩; have B2 := Lib.hid hb2)
    go_ret
    exact ⟨ret_int HE.out.symm, B2.out⟩

theorem obls_any {R : Nat → Prop} {A : Option Addr} {n c : Nat} {l : List Dut} (w : World) (h : Dus w R A n c l) :
    Calls Try.prog 63 #[.slice A n c] w fun e w' => e = .returned (.int .i64 (obE l)) ∧ Below w.heap.size w w' := by
  have hle := Rw.le h
  have hcap := Rw.cap h
  have HL := Lib.hid (Rw.len h)
  unfold maxLen at hcap
  have H := Lib.hid h
  clear h
  by_cases h8 : 8 < n
  · have HE : Hid (obE l = 6) := by
      show obE l = _
      unfold obE
      rw [HL.out, if_pos h8]
    have hb : (8 : Int) < (n : Int) := by omega
    go_enter Try.func63, Try.ntmps63
    go_wp2_with fail
    go_ret
    exact ⟨ret_int HE.out.symm, Below.refl _ _⟩
  · have HE : Hid (obE l = firstE dutE l) := by
      show obE l = _
      unfold obE
      rw [HL.out, if_neg h8]
    have hb : ¬ (8 : Int) < (n : Int) := by omega
    go_enter Try.func63, Try.ntmps63
    go_wp2_with (go_at_call 77; refine (each_duty H.out).mono ?_; rintro e w2 ⟨rfl, hb2⟩; have B2 := Lib.hid hb2)
    go_ret
    exact ⟨ret_int HE.out.symm, B2.out⟩

end Go.Proofs.Ytincnopaclmppaa
/- What was met on the way through a policy: the map of names, the count of rules (the project's walk). -/
namespace Go.Proofs.Ytincnopaclmppaa
set_option linter.unusedVariables false
open Go.RowKit Go.Maps

/-- How often was a name met? -/
def cnt (x : ByteArray) (l : List ByteArray) : Nat := l.countP fun y => decide (y = x)
theorem cnt_snoc (x : ByteArray) (l : List ByteArray) : cnt x (l ++ [x]) = cnt x l + 1 := by simp [cnt]
theorem cnt_other {x y : ByteArray} (h : y ≠ x) (l : List ByteArray) : cnt x (l ++ [y]) = cnt x l := by simp [cnt, h]
theorem cnt_le (x : ByteArray) (l : List ByteArray) : cnt x l ≤ l.length := List.countP_le_length
theorem cnt_met (x : ByteArray) : ∀ (l : List ByteArray), (cnt x l = 0) = (metB x l = false)
  | [] => by simp [cnt, metB]
  | y :: l => by
    have := cnt_met x l
    unfold cnt metB at this ⊢
    by_cases e : y = x
    · simp [e]
    · simp only [List.countP_cons, List.any_cons, e, decide_false, Bool.false_or, if_false, Nat.add_zero, Bool.false_eq_true]
      exact this

theorem law9 : Keyed Try.prog 9 := string_keyed Try.underlying9
theorem zero3 (w : World) : (zeroValue 3).run Try.prog w = .ok (.int .i64 0) w := by kernel_rfl

/-- Block B is the map of the names that were met: how often each. -/
def MapIs (w : World) (B : Nat) (ids : List ByteArray) : Prop :=
  ∃ D : DataW Unit, w.ownsMap Try.prog 9 (plainElem Try.prog 3) B ids.length D ∧ IsMap D ∧ ∀ x : ByteArray, D.atKey (.string x.data.toList) (.lit (.int .i64 0)) = .lit (.int .i64 (cnt x ids))
theorem MapIs.lt {w : World} {B : Nat} {ids : List ByteArray} (h : MapIs w B ids) : B < w.heap.size := by obtain ⟨D, h, _⟩ := h; exact h.lt
theorem MapIs.kept {w w' : World} {B : Nat} {ids : List ByteArray} {r : Nat} (h : MapIs w B ids) (ho : Only r w w') (hr : B ≠ r) : MapIs w' B ids := by
  obtain ⟨D, h1, h2, h3⟩ := h
  exact ⟨D, h1.kept ho (fun e => hr (Option.some.inj e)), h2, h3⟩
theorem MapIs.below {w w' : World} {B : Nat} {ids : List ByteArray} (h : MapIs w B ids) (ho : Below w.heap.size w w') : MapIs w' B ids :=
  h.kept (r := w.heap.size) (Only.of_below ho) (Nat.ne_of_lt h.lt)
theorem MapIs.made (w : World) : MapIs (w.alloc (.map #[] 0)) w.heap.size [] :=
  ⟨.map [], World.ownsMap_made _ _ _ _, isMap_empty, fun x => rfl⟩
theorem text_key {x y : ByteArray} (h : x ≠ y) : (Lit.string x.data.toList) ≠ .string y.data.toList := by
  intro e
  injection e with e
  exact h (text_eq e)

set_option maxRecDepth 100000 in
set_option maxHeartbeats 800000 in
theorem fresh_any {w : World} {g B : Nat} {ids : List ByteArray} {m : Value} (id : ByteArray) (hid : id.size ≤ maxLen) (hob : Ob w g 68 #[.map (some B), m]) (hmap : MapIs w B ids) (hgB : g ≠ B) (hlen : ids.length < 1000000) :
    Calls Try.prog 59 #[.pointer (some ⟨g, 0, none⟩), .string id] w fun e w' => e = .returned (.bool (decide (Named (bl id)) && !metB id ids)) ∧ Only B w w' ∧ MapIs w' B (ids ++ [id]) := by
  obtain ⟨D, hown, hD, hat0⟩ := hmap
  have hkey : keyOf Try.prog 9 (.string id) = some (.string id.data.toList) := WideMaps.keyOf_string_mk Try.underlying9 hid
  have HN := Lib.hid (name_any id hid)
  have hc0 := hob.cell 0
  have HC := Lib.hid (cnt_le id ids)
  have HM := Lib.hid (cnt_met id ids)
  have hc := hat0 id
  have HA0 := Lib.hid hat0
  have HD := Lib.hid hD
  have HB := Lib.hid hob
  have HK := Lib.hid hkey
  have HID := Lib.hid hid
  have hck : cnt id ids < 1000000 := by have := HC.out; omega
  clear hat0 hD hob hid
  obtain ⟨k, hk⟩ : ∃ k, k = cnt id ids := ⟨_, rfl⟩
  have HKK := Lib.hid hk
  rw [← hk] at hc hck
  have HAT := Lib.hid hc
  clear hc hk
  generalize hrb : decide (Named id.data.toList) = rb at *
  have HRB := Lib.hid hrb
  clear hrb
  have hputs : IsMap (D.put (.string id.data.toList) (.lit (.int .i64 ((k : Int) + 1)))) := HD.out.put _ _
  have hsame : (D.put (.string id.data.toList) (.lit (.int .i64 ((k : Int) + 1)))).atKey (.string id.data.toList) (.lit (.int .i64 0)) = .lit (.int .i64 ((k : Int) + 1)) := atKey_put_same HD.out (law9.key HK.out) _ _
  have HSAME := Lib.hid hsame
  have HPUT := Lib.hid hputs
  have hnew : ∀ x : ByteArray, (D.put (.string id.data.toList) (.lit (.int .i64 ((k : Int) + 1)))).atKey (.string x.data.toList) (.lit (.int .i64 0)) = .lit (.int .i64 (cnt x (ids ++ [id]))) := fun x => by
    by_cases e : x = id
    · subst e
      rw [HSAME.out, cnt_snoc, ← HKK.out]; simp
    · rw [atKey_put_other (text_key e), HA0.out x, cnt_other (Ne.symm e)]
  have HNEW := Lib.hid hnew
  clear hsame hputs hnew
  by_cases h0 : k = 0
  · have HR : Hid ((decide (Named (bl id)) && !metB id ids) = rb) := by
      have hm : metB id ids = false := by rw [← HM.out, ← HKK.out]; exact h0
      show (decide (Named id.data.toList) && !metB id ids) = rb
      rw [hm, HRB.out]; simp
    subst h0
    rw [show ((0 : Nat) : Int) + 1 = 1 from rfl] at HSAME HPUT HNEW
    rw [show ((0 : Nat) : Int) = 0 from rfl] at HAT
    go_enter Try.func59, Try.ntmps59
    go_wp2_with (first
      | (at_lookup; refine wpList_lookup_own_int _ rfl _ _ 66 rfl 9 3 .i64 law9 Try.underlying66 Try.underlying3 (zero3 _) B _ _ rfl hown _ _ rfl hkey ?_; intro c hat hwc; obtain rfl : c = 0 := by (rw [HAT.out] at hat; injection hat with h1; injection h1 with h2 h3; exact h3.symm))
      | (at_lookup; refine wpList_lookup_own_int _ rfl _ _ 66 rfl 9 3 .i64 law9 Try.underlying66 Try.underlying3 (zero3 _) B _ _ rfl hown1 _ _ rfl hkey ?_; intro c hat hwc; obtain rfl : c = 1 := by (rw [HSAME.out] at hat; injection hat with h1; injection h1 with h2 h3; exact h3.symm))
      | (at_mapUpdate; refine wpList_mapUpdate_own _ rfl _ _ _ 66 rfl 9 3 law9 Try.underlying66 _ B _ _ rfl hown (by unfold maxLen; omega) _ _ _ rfl rfl hkey _ [] (plainElem_int Try.underlying3 (a := 1) (WalkArith.wf_i64 (by omega))) ?_; intro w1 hown1 hgrow1; have hc1 := (Ob.keep HB.out (Only.heap hgrow1 HB.out.lt hgB)).cell 0)
      | (go_at_call 74; refine (HN.out _).mono ?_; rintro e w2 ⟨rfl, rfl⟩))
    go_ret
    exact ⟨ret_bool HR.out.symm, hgrow1, _, by rw [List.length_append]; exact hown1, HPUT.out, HNEW.out⟩
  · have HR : Hid ((decide (Named (bl id)) && !metB id ids) = false) := by
      have hm : metB id ids = true := by
        rw [← Bool.not_eq_false, ← HM.out, ← HKK.out]; exact h0
      show (decide (Named (bl id)) && !metB id ids) = false
      rw [hm]; simp
    have hne : ((k : Int) + 1 == 1) = false := by rw [beq_eq_false_iff_ne]; omega
    have H0 := Lib.hid h0
    clear h0
    go_enter Try.func59, Try.ntmps59
    go_wp2_with (first
      | (at_lookup; refine wpList_lookup_own_int _ rfl _ _ 66 rfl 9 3 .i64 law9 Try.underlying66 Try.underlying3 (zero3 _) B _ _ rfl hown _ _ rfl hkey ?_; intro c hat hwc; obtain rfl : c = (k : Int) := by (rw [HAT.out] at hat; injection hat with h1; injection h1 with h2 h3; exact h3.symm))
      | (at_lookup; refine wpList_lookup_own_int _ rfl _ _ 66 rfl 9 3 .i64 law9 Try.underlying66 Try.underlying3 (zero3 _) B _ _ rfl hown1 _ _ rfl hkey ?_; intro c hat hwc; obtain rfl : c = ((k : Int) + 1) := by (rw [HSAME.out] at hat; injection hat with h1; injection h1 with h2 h3; exact h3.symm))
      | (at_mapUpdate; refine wpList_mapUpdate_own _ rfl _ _ _ 66 rfl 9 3 law9 Try.underlying66 _ B _ _ rfl hown (by unfold maxLen; omega) _ _ _ rfl rfl hkey _ [] (plainElem_int Try.underlying3 (a := ((k : Int) + 1)) (WalkArith.wf_i64 (by omega))) ?_; intro w1 hown1 hgrow1; have hc1 := (Ob.keep HB.out (Only.heap hgrow1 HB.out.lt hgB)).cell 0)
      | (go_at_call 74; refine (HN.out _).mono ?_; rintro e w2 ⟨rfl, rfl⟩))
    go_ret
    exact ⟨ret_bool HR.out.symm, hgrow1, _, by rw [List.length_append]; exact hown1, HPUT.out, HNEW.out⟩
end Go.Proofs.Ytincnopaclmppaa
/- cmp.Or over errors; what a policy may have as what it is (the project's fits). -/
namespace Go.Proofs.Ytincnopaclmppaa
set_option linter.unusedVariables false
open Go.RowKit

def ev (l : List Int) : List Value := l.map (Value.int .i64)
theorem or2 (a b : Int) : firstE (fun x => x) [a, b] = orE a b := by
  unfold orE; simp only [firstE]
  by_cases ha : a = 0 <;> by_cases hb : b = 0 <;> simp [ha, hb]
theorem or3 (a b c : Int) : firstE (fun x => x) [a, b, c] = orE a (orE b c) := by
  unfold orE; simp only [firstE]
  by_cases ha : a = 0 <;> by_cases hb : b = 0 <;> by_cases hc : c = 0 <;> simp [ha, hb, hc]

set_option maxHeartbeats 800000 in
theorem or_any {w : World} {B n c : Nat} {A : Option Addr} {l : List Int} (h : Sl w B A n c (ev l)) (hn : n ≤ 1000) (hB : B ≤ w.heap.size) :
    Calls Try.prog 61 #[.slice A n c] w fun e w' => e = .returned (.int .i64 (firstE (fun x => x) l)) ∧ w' = w := by
  have HL : Hid (l.length = n) := by show l.length = n; have := h.1; simpa [ev] using this
  have hle := h.le
  have hcap := h.cap
  unfold maxLen at hcap
  have H := Lib.hid h
  clear h
  go_enter Try.func61, Try.ntmps61
  go_wp2
  go_loop [8] (fun i => ∃ k : Nat, k ≤ n ∧ i = .int .i64 k ∧ FineTo (fun x : Int => x) l k) (fun i => n - (intOf i).toNat)
  case atStart => exact ⟨0, Nat.zero_le _, rfl, FineTo.zero _ _⟩
  case round =>
    obtain ⟨k, hk, rfl, hf⟩ := hrel
    have HF := Lib.hid hf
    clear hf
    by_cases hlt : k < n
    · obtain ⟨b, o, u, rfl, hb, hu, hc⟩ := H.out.at_ hlt
      have hkl : k < l.length := by have := HL.out; omega
      have hx : l[k]? = some l[k] := List.getElem?_eq_getElem hkl
      have hu' : u = .int .i64 l[k] := by
        have : (ev l)[k]? = some (.int .i64 l[k]) := by simp [ev, hkl]
        rw [this] at hu
        exact (Option.some.inj hu).symm
      subst hu'
      have HX := Lib.hid hx
      generalize l[k] = x at *
      clear hu hx
      by_cases hz : x = 0
      · subst hz
        go_wp2_with fail
        go_round
        case rel => exact ⟨k + 1, by omega, by go_num, HF.out.step HX.out rfl⟩
        case measure => simp [intOf]; omega
      · have HZ := Lib.hid hz
        have hne : (x != 0) = true := by simpa using hz
        clear hz
        go_wp2_with fail
        go_ret
        exact ⟨ret_int (HF.out.err (f := fun x : Int => x) HX.out HZ.out).symm, rfl⟩
    · obtain rfl : k = n := by omega
      go_wp2
      go_ret
      exact ⟨ret_int (HF.out.all HL.out).symm, rfl⟩

def fitsN (set : Bool) (alg : Int) (nr nk : Nat) : Bool := decide (1 ≤ alg) && decide (alg ≤ 6) && if set = true then decide (nr = 0) else decide (nk = 0) && decide (alg ≠ 4)
theorem fits_eq (p : Pol) : fitsB p = fitsN p.set p.alg p.rules.length p.kids.length := rfl
set_option maxHeartbeats 800000 in
theorem fits_any (id : ByteArray) (set : Bool) (alg : Int) (A1 A2 A3 A4 : Option Addr) (n1 n2 n3 n4 c1 c2 c3 c4 : Nat) (w : World) :
    Calls Try.prog 60 #[.agg #[.string id, .bool set, .int .i64 alg, .slice A1 n1 c1, .slice A2 n2 c2, .slice A3 n3 c3, .slice A4 n4 c4]] w fun e w' => e = .returned (.bool (fitsN set alg n2 n3)) ∧ Below w.heap.size w w' := by
  have HE : Hid (fitsN set alg n2 n3 = (decide (1 ≤ alg) && decide (alg ≤ 6) && if set = true then decide (n2 = 0) else decide (n3 = 0) && decide (alg ≠ 4))) := rfl
  generalize fitsN set alg n2 n3 = r at *
  cases set
  all_goals
    go_enter Try.func60, Try.ntmps60
    go_wp2_with fail
    all_goals
      go_ret
      refine ⟨ret_bool ?_, (Below.refl _ _).alloc (Nat.le_refl _) _⟩
      rw [HE.out]
      clear HE
      rw [Bool.eq_iff_iff]
      simp only [Bool.and_eq_true, decide_eq_true_eq, beq_iff_eq, bne_iff_ne, if_true, if_false, Bool.false_eq_true, ne_eq]
      first | omega | (simp only [false_iff]; omega)
end Go.Proofs.Ytincnopaclmppaa
/- A rule on the way through a policy (the project's walk.rule, and each over rules). -/
namespace Go.Proofs.Ytincnopaclmppaa
set_option linter.unusedVariables false
open Go.RowKit Go.Sort

/-- Only blocks g and B, and what is new, have changed. -/
def Only2 (g B : Nat) (w w' : World) : Prop := w'.os = w.os ∧ w'.tape = w.tape ∧ w'.output = w.output ∧ w.heap.size ≤ w'.heap.size ∧ ∀ k, k < w.heap.size → k ≠ g → k ≠ B → w'.heap[k]? = w.heap[k]?
section
variable {g B : Nat} {w w' w'' : World}
theorem Only2.refl : Only2 g B w w := ⟨rfl, rfl, rfl, Nat.le_refl _, fun _ _ _ _ => rfl⟩
theorem Only2.trans (h : Only2 g B w w') (k : Only2 g B w' w'') : Only2 g B w w'' :=
  ⟨k.1.trans h.1, k.2.1.trans h.2.1, k.2.2.1.trans h.2.2.1, Nat.le_trans h.2.2.2.1 k.2.2.2.1, fun i hi h1 h2 => (k.2.2.2.2 i (Nat.lt_of_lt_of_le hi h.2.2.2.1) h1 h2).trans (h.2.2.2.2 i hi h1 h2)⟩
theorem Only2.of_B (h : Only B w w') : Only2 g B w w' := ⟨h.os, h.tape, h.output, h.size, fun k hk _ h2 => h.heap hk h2⟩
theorem Only2.of_g (h : Only g w w') : Only2 g B w w' := ⟨h.os, h.tape, h.output, h.size, fun k hk h1 _ => h.heap hk h1⟩
theorem Only2.of_below (h : Below w.heap.size w w') : Only2 g B w w' := ⟨h.os, h.tape, h.output, h.size, fun k hk _ _ => h.block k hk⟩
theorem Only2.size (h : Only2 g B w w') : w.heap.size ≤ w'.heap.size := h.2.2.2.1
theorem Only2.heap (h : Only2 g B w w') {k : Nat} (hk : k < w.heap.size) (h1 : k ≠ g) (h2 : k ≠ B) : w'.heap[k]? = w.heap[k]? := h.2.2.2.2 k hk h1 h2
theorem Only2.kept (h : Only2 g B w w') {R : Nat → Prop} (hR : ∀ b, R b → b ≠ g ∧ b ≠ B) : Kept R w w' := ⟨h.size, fun b hb hl => h.heap hl (hR b hb).1 (hR b hb).2⟩
theorem Only2.below (h : Only2 g B w w') {L : Nat} (hL : L ≤ w.heap.size) (h1 : L ≤ g) (h2 : L ≤ B) : Below L w w' :=
  ⟨h.1, h.2.1, h.2.2.1, h.size, fun k hk => h.heap (by omega) (by omega) (by omega)⟩
theorem Only2.alloc (o : Obj) : Only2 g B w (w.alloc o) := Only2.of_below ((Below.refl _ _).alloc (Nat.le_refl _) _)
end

/-- What the project knows of the way so far. -/
structure Wk (w : World) (g B : Nat) (s : Seen) : Prop where
  ob : Ob w g 68 #[.map (some B), .int .i64 s.n]
  map : MapIs w B s.ids
  ne : g ≠ B
  few : s.n ≤ s.ids.length
theorem Wk.below {w w' : World} {g B : Nat} {s : Seen} (h : Wk w g B s) (hb : Below w.heap.size w w') : Wk w' g B s :=
  ⟨h.ob.below hb h.ob.lt, h.map.below hb, h.ne, h.few⟩
theorem Wk.alloc {w : World} {g B : Nat} {s : Seen} (h : Wk w g B s) (o : Obj) : Wk (w.alloc o) g B s := h.below ((Below.refl _ _).alloc (Nat.le_refl _) _)
/-- What is known of it behind a call: in an error whatever was met. -/
def WkE (w : World) (g B : Nat) (z : Int × Seen) : Prop := ∃ s, Wk w g B s ∧ (z.1 = 0 → s = z.2)
theorem WkE.ok {w : World} {g B : Nat} {z : Int × Seen} (h : WkE w g B z) (h0 : z.1 = 0) : Wk w g B z.2 := by obtain ⟨s, h1, h2⟩ := h; exact h2 h0 ▸ h1
theorem idS_some {x : ByteArray} {s : Seen} (h : (decide (Named (bl x)) && !metB x s.ids) = true) : idS x s = some ⟨s.ids ++ [x], s.n⟩ := by
  simp at h
  unfold idS
  rw [if_pos h]
theorem idS_none {x : ByteArray} {s : Seen} (h : (decide (Named (bl x)) && !metB x s.ids) = false) : idS x s = none := by
  unfold idS
  rw [if_neg]
  rintro ⟨h1, h2⟩
  simp [h1, h2] at h

set_option maxRecDepth 100000 in
set_option maxHeartbeats 3200000 in
theorem rule_any {w : World} {g B : Nat} {s : Seen} {R : Nat → Prop} {r : Rul} {A1 A2 A3 : Option Addr} {n1 k1 n2 k2 n3 k3 : Nat} (hk : Wk w g B s) (hlen : s.ids.length < 900000) (hR : ∀ b, R b → b ≠ g ∧ b ≠ B)
    (hid : r.id.size ≤ maxLen) (h1 : Tg w R A1 n1 k1 r.tg) (h2 : Nds w R A2 n2 k2 r.cond) (h3 : Dus w R A3 n3 k3 r.ob) :
    Calls Try.prog 65 #[.pointer (some ⟨g, 0, none⟩), .agg #[.string r.id, .bool r.deny, .slice A1 n1 k1, .slice A2 n2 k2, .slice A3 n3 k3]] w
      fun e w' => e = .returned (.int .i64 (ruleS r s).1) ∧ Only2 g B w w' ∧ WkE w' g B (ruleS r s) := by
  obtain ⟨id, dn, tg, cond, ob⟩ := r
  simp only at hid h1 h2 h3 ⊢
  have HW := Lib.hid hk
  have H1 := Lib.hid h1
  have H2 := Lib.hid h2
  have H3 := Lib.hid h3
  have HRR := Lib.hid hR
  have hkeep0 := hk.alloc (.cells #[.string id, .bool dn, .slice A1 n1 k1, .slice A2 n2 k2, .slice A3 n3 k3] 37)
  have HF := Lib.hid (fresh_any id hid hkeep0.ob hkeep0.map hkeep0.ne (by omega))
  have HW0 := Lib.hid hkeep0
  have hfew := hk.few
  have hgl : g < w.heap.size := hk.ob.lt
  have hBl : B < w.heap.size := hk.map.lt
  have hne := hk.ne
  clear hk hkeep0 h1 h2 h3 hR
  by_cases hfr : (decide (Named (bl id)) && !metB id s.ids) = true
  · rw [hfr] at HF
    have HE : Hid (ruleS ⟨id, dn, tg, cond, ob⟩ s = if 64 < s.n + 1 then (6, ⟨s.ids ++ [id], s.n + 1⟩) else (orE (tgE tg) (orE (exprE cond) (obE ob)), ⟨s.ids ++ [id], s.n + 1⟩)) := by
      show ruleS ⟨id, dn, tg, cond, ob⟩ s = _
      unfold ruleS
      simp only [idS_some hfr]
    clear hfr
    generalize ruleS ⟨id, dn, tg, cond, ob⟩ s = z at *
    go_enter Try.func65, Try.ntmps65
    by_cases h64 : 64 < s.n + 1
    · go_wp2_with (first
        | (go_at_call 59; refine HF.out.mono ?_; rintro e w1 ⟨rfl, hb1, hm1⟩; have O1 := Lib.hid (Ob.keep HW0.out.ob (hb1.heap HW0.out.ob.lt hne)); have c1 := O1.out.cell 1; have f1 := O1.out.frozen 1))
      go_ret
      rw [HE.out, if_pos h64]
      refine ⟨rfl, ((Only2.alloc _).trans (Only2.of_B hb1)).trans (Only2.of_g (Only.refl.setCell rfl _)), ⟨s.ids ++ [id], s.n + 1⟩, ⟨O1.out.put 1 (.int .i64 ((s.n : Int) + 1)), ?_, hne, ?_⟩, fun h => by cases h⟩
      · exact hm1.kept (Only.refl.setCell (r := g) (p := ⟨g, 1, none⟩) rfl (.int .i64 ((s.n : Int) + 1))) (Ne.symm hne)
      · show s.n + 1 ≤ (s.ids ++ [id]).length
        rw [List.length_append, List.length_singleton]; omega
    · rw [if_neg h64] at HE
      go_wp2_with (first
        | (go_at_call 59; refine HF.out.mono ?_; rintro e w1 ⟨rfl, hb1, hm1⟩; have O1 := Lib.hid (Ob.keep HW0.out.ob (hb1.heap HW0.out.ob.lt hne)); have c1 := O1.out.cell 1; have f1 := O1.out.frozen 1))
      have O3 := Lib.hid (O1.out.put 1 (.int .i64 ((s.n : Int) + 1)))
      have M3 := Lib.hid (hm1.kept (Only.refl.setCell (r := g) (p := ⟨g, 1, none⟩) rfl (.int .i64 ((s.n : Int) + 1))) (Ne.symm hne))
      have G3 := Lib.hid (((Only2.alloc (g := g) (B := B) (w := w) (.cells #[.string id, .bool dn, .slice A1 n1 k1, .slice A2 n2 k2, .slice A3 n3 k3] 37)).trans (Only2.of_B hb1)).trans (Only2.of_g (Only.refl.setCell (r := g) (p := ⟨g, 1, none⟩) rfl (.int .i64 ((s.n : Int) + 1)))))
      have X3 := Lib.hid (show Ob (w1.setCell ⟨g, 1, none⟩ (.int .i64 ((s.n : Int) + 1))) w.heap.size 37 #[.string id, .bool dn, .slice A1 n1 k1, .slice A2 n2 k2, .slice A3 n3 k3] from
        Ob.keep (Ob.keep (Ob.made w _ _) (hb1.heap (by simp) (by omega))) (Below.heap_setCell _ _ _ _ (by simp; omega)))
      clear c1 f1 O1 hb1 hm1 HF HW0
      generalize w1.setCell ⟨g, 1, none⟩ (.int .i64 ((s.n : Int) + 1)) = W3 at *
      have K3 := Lib.hid (G3.out.kept HRR.out)
      have T1 := Lib.hid (H1.out.keep K3.out (fun _ h _ => h))
      have T2 := Lib.hid (H2.out.keep K3.out (fun _ h _ => h))
      have T3 := Lib.hid (H3.out.keep K3.out (fun _ h _ => h))
      have KK := Lib.hid (below_regrown W3)
      have Q1 : Hid (∀ d os, Calls Try.prog 62 #[.slice A1 n1 k1] (grow (redrawn W3 d) os) fun e w'' => e = .returned (.int .i64 (tgE tg)) ∧ ∃ p : Regrown, w'' = grow (redrawn W3 p.d) p.os) := fun d os => Calls.regrown_of (target_any _ (T1.out.keep (Kept.all (KK.out d os) R) (fun _ h _ => h)))
      have Q2 : Hid (∀ d os, Calls Try.prog 27 #[.slice A2 n2 k2] (grow (redrawn W3 d) os) fun e w'' => e = .returned (.int .i64 (exprE cond)) ∧ ∃ p : Regrown, w'' = grow (redrawn W3 p.d) p.os) := fun d os => Calls.regrown_of (expr_any _ (T2.out.keep (Kept.all (KK.out d os) R) (fun _ h _ => h)))
      have Q3 : Hid (∀ d os, Calls Try.prog 63 #[.slice A3 n3 k3] (grow (redrawn W3 d) os) fun e w'' => e = .returned (.int .i64 (obE ob)) ∧ ∃ p : Regrown, w'' = grow (redrawn W3 p.d) p.os) := fun d os => Calls.regrown_of (obls_any _ (T3.out.keep (Kept.all (KK.out d os) R) (fun _ h _ => h)))
      have x2 := fun d os => cell_regrown (X3.out.cell 2) d os
      have x3 := fun d os => cell_regrown (X3.out.cell 3) d os
      have x4 := fun d os => cell_regrown (X3.out.cell 4) d os
      have HOR := Lib.hid (or3 (tgE tg) (exprE cond) (obE ob))
      generalize tgE tg = a1 at *
      generalize exprE cond = a2 at *
      generalize obE ob = a3 at *
      refine wp_region_below_tail 9 (by kernel_rfl) (by kernel_rfl) ?_
      simp only [List.take_succ_cons, List.take_zero, List.drop_succ_cons, List.drop_zero]
      repeat (go_big_quiet_step ((first
        | (go_at_call 62; exact Q1.out _ _)
        | (go_at_call 27; exact Q2.out _ _)
        | (go_at_call 63; exact Q3.out _ _))))
      refine wpQuiet_nil ?_
      intro _ hw'
      obtain ⟨⟨dq, osq⟩, hw''⟩ := hw'
      subst hw''
      have hbel := below_regrown W3 dq osq
      have O4 := Lib.hid (O3.out.below hbel O3.out.lt)
      have M4 := Lib.hid (M3.out.below hbel)
      have G4 := Lib.hid (G3.out.trans (Only2.of_below hbel))
      clear x2 x3 x4 hbel Q1 Q2 Q3 KK O3 M3 G3 K3 T1 T2 T3 X3
      dsimp only at O4 M4 G4 ⊢
      generalize grow (redrawn W3 dq) osq = W4 at *
      have HSL := Lib.hid (Sl.lit W4 32 (ev [a1, a2, a3]) 3 rfl (by simp [maxLen]))
      go_wp2_with (first
        | (go_at_call 61; refine (or_any (l := [a1, a2, a3]) HSL.out (by omega) (by simp)).mono ?_; rintro e w5 ⟨rfl, rfl⟩))
      go_ret
      rw [HE.out]
      refine ⟨by rw [HOR.out]; rfl, G4.out.trans (Only2.alloc _), ⟨s.ids ++ [id], s.n + 1⟩, ⟨?_, ?_, hne, ?_⟩, fun _ => rfl⟩
      · exact (O4.out.keep (Below.heap_alloc _ _ _ O4.out.lt))
      · exact M4.out.below ((Below.refl _ _).alloc (Nat.le_refl _) _)
      · show s.n + 1 ≤ (s.ids ++ [id]).length
        rw [List.length_append, List.length_singleton]; omega
  · rw [Bool.not_eq_true] at hfr
    rw [hfr] at HF
    have HE : Hid (ruleS ⟨id, dn, tg, cond, ob⟩ s = (1, s)) := by
      show ruleS ⟨id, dn, tg, cond, ob⟩ s = _
      unfold ruleS
      simp only [idS_none hfr]
    clear hfr
    generalize ruleS ⟨id, dn, tg, cond, ob⟩ s = z at *
    go_enter Try.func65, Try.ntmps65
    go_wp2_with (first
      | (go_at_call 59; refine HF.out.mono ?_; rintro e w1 ⟨rfl, hb1, hm1⟩))
    go_ret
    rw [HE.out]
    exact ⟨rfl, (Only2.alloc _).trans (Only2.of_B hb1), ⟨s.ids ++ [id], s.n⟩, ⟨HW0.out.ob.keep (hb1.heap HW0.out.ob.lt hne), hm1, hne, by show s.n ≤ (s.ids ++ [id]).length; rw [List.length_append, List.length_singleton]; omega⟩, fun h => by cases h⟩

theorem firstS_app {α : Type} (f : α → Seen → Int × Seen) : ∀ (l m : List α) (s : Seen), firstS f (l ++ m) s = if (firstS f l s).1 ≠ 0 then firstS f l s else firstS f m (firstS f l s).2
  | [], m, s => by simp [firstS]
  | x :: l, m, s => by
    simp only [List.cons_append, firstS]
    by_cases h : (f x s).1 = 0
    · simp only [h, ne_eq, not_true, if_false]
      exact firstS_app f l m (f x s).2
    · simp [h]
/-- So far without an error, and this was met. -/
def StTo {α : Type} (f : α → Seen → Int × Seen) (l : List α) (s0 : Seen) (k : Nat) (s : Seen) : Prop := firstS f (l.take k) s0 = (0, s)
section
variable {α : Type} {f : α → Seen → Int × Seen} {l : List α} {s0 s : Seen} {k : Nat} {x : α}
theorem StTo.zero (f : α → Seen → Int × Seen) (l : List α) (s0 : Seen) : StTo f l s0 0 s0 := rfl
theorem StTo.step (h : StTo f l s0 k s) (hx : l[k]? = some x) (h0 : (f x s).1 = 0) : StTo f l s0 (k + 1) (f x s).2 := by
  unfold StTo at h ⊢
  rw [take_next hx, firstS_app, h]
  simp only [ne_eq, not_true, if_false, firstS, h0]
theorem StTo.err (h : StTo f l s0 k s) (hx : l[k]? = some x) (h0 : (f x s).1 ≠ 0) : firstS f l s0 = f x s := by
  have e : firstS f (l.take (k + 1)) s0 = f x s := by
    unfold StTo at h
    rw [take_next hx, firstS_app, h]
    simp [firstS, h0]
  rw [← List.take_append_drop (k + 1) l, firstS_app, e, if_pos h0]
theorem StTo.all {n : Nat} (h : StTo f l s0 n s) (hn : l.length = n) : firstS f l s0 = (0, s) := by
  unfold StTo at h
  rwa [List.take_of_length_le (by omega)] at h
end
theorem idS_ids {x : ByteArray} {s s1 : Seen} (h : idS x s = some s1) : s1.ids.length = s.ids.length + 1 := by
  unfold idS at h
  split at h
  · obtain rfl := Option.some.inj h; simp
  · cases h
theorem ruleS_ids (r : Rul) (s : Seen) : (ruleS r s).2.ids.length ≤ s.ids.length + 1 := by
  unfold ruleS
  split
  · exact Nat.le_succ _
  · rename_i s1 h
    have := idS_ids h
    split <;> (simp only; omega)

set_option maxHeartbeats 1600000 in
theorem each_rule {w : World} {g B : Nat} {s : Seen} {R : Nat → Prop} {A : Option Addr} {n c : Nat} {l : List Rul} (hk : Wk w g B s) (hlen : s.ids.length < 800000) (hn : n ≤ 1000) (hR : ∀ b, R b → b ≠ g ∧ b ≠ B) (h : Rus w R A n c l) :
    Calls Try.prog 64 #[.slice A n c, .func (.func 65) #[.pointer (some ⟨g, 0, none⟩)] #[]] w
      fun e w' => e = .returned (.int .i64 (firstS ruleS l s).1) ∧ Only2 g B w w' ∧ WkE w' g B (firstS ruleS l s) := by
  have hle := Rw.le h
  have hcap := Rw.cap h
  have HL := Lib.hid (Rw.len h)
  unfold maxLen at hcap
  have H := Lib.hid h
  have HW := Lib.hid hk
  have HRR := Lib.hid hR
  have HGL : Hid (g < w.heap.size ∧ B < w.heap.size) := ⟨hk.ob.lt, hk.map.lt⟩
  clear h hk hR
  go_enter Try.func64, Try.ntmps64
  go_wp2
  go_loopw [10] (fun i wr => ∃ (k : Nat) (s' : Seen), k ≤ n ∧ i = .int .i64 k ∧ StTo ruleS l s k s' ∧ s'.ids.length ≤ s.ids.length + k ∧ Wk wr g B s' ∧ Only2 g B w wr) (fun i _ => n - (intOf i).toNat)
  case atStart => exact ⟨0, s, Nat.zero_le _, rfl, StTo.zero _ _ _, Nat.le_refl _, HW.out, Only2.refl⟩
  case round =>
    obtain ⟨k, s', hk, rfl, hf, hids, hw, hb⟩ := hrel
    have HF := Lib.hid hf
    have HB := Lib.hid hb
    have HW' := Lib.hid hw
    have HI := Lib.hid hids
    clear hf hb hw hids
    by_cases hlt : k < n
    · obtain ⟨b, o, x, A1, n1, k1, A2, n2, k2, A3, n3, k3, rfl, hRb, hbl, hx, hid, ⟨c0, c1, c2, c3, c4⟩, h1, h2, h3⟩ := (H.out.keep (HB.out.kept HRR.out) (fun _ h _ => h)).at_ hlt
      have HX := Lib.hid hx
      have hka := Kept.all ((Below.refl _ wr).alloc (Nat.le_refl _) (.cells #[.string x.id, .bool x.deny, .slice A1 n1 k1, .slice A2 n2 k2, .slice A3 n3 k3] 37)) R
      have hcon := rule_any (HW'.out.alloc (.cells #[.string x.id, .bool x.deny, .slice A1 n1 k1, .slice A2 n2 k2, .slice A3 n3 k3] 37)) (by have := HI.out; omega) HRR.out hid (h1.keep hka (fun _ h _ => h)) (h2.keep hka (fun _ h _ => h)) (h3.keep hka (fun _ h _ => h))
      have HIX := Lib.hid (ruleS_ids x s')
      clear hx hka h1 h2 h3
      by_cases hz : (ruleS x s').1 = 0
      · have HZ := Lib.hid hz
        rw [hz] at hcon
        have HC := Lib.hid hcon
        clear hz hcon
        go_wp2_with (go_at_call 65; refine HC.out.mono ?_; rintro e w1 ⟨rfl, hb1, hw1⟩; have B1 := Lib.hid hb1; have W1 := Lib.hid (hw1.ok HZ.out))
        go_roundw
        case rel => exact ⟨k + 1, _, by omega, by go_num, HF.out.step HX.out HZ.out, by have := HI.out; have := HIX.out; omega, W1.out, HB.out.trans ((Only2.alloc _).trans B1.out)⟩
        case measure => simp [intOf]; omega
      · have HZ := Lib.hid hz
        obtain ⟨r, hr⟩ : ∃ r, r = ruleS x s' := ⟨_, rfl⟩
        have HR := Lib.hid hr
        rw [← hr] at hz hcon
        have hne : (r.1 != 0) = true := by simpa using hz
        have HC := Lib.hid hcon
        clear hcon hr
        clear hz
        go_wp2_with (go_at_call 65; refine HC.out.mono ?_; rintro e w1 ⟨rfl, hb1, hw1⟩; have B1 := Lib.hid hb1; have W1 := Lib.hid hw1; clear hw1)
        go_ret
        rw [HF.out.err HX.out HZ.out, ← HR.out]
        exact ⟨rfl, HB.out.trans ((Only2.alloc _).trans B1.out), W1.out⟩
    · obtain rfl : k = n := by omega
      go_wp2
      go_ret
      rw [HF.out.all HL.out]
      exact ⟨rfl, HB.out, s', HW'.out, fun _ => rfl⟩
end Go.Proofs.Ytincnopaclmppaa
/- A policy and its kids, on the way through (the project's walk.policy, its closure, each over policies). -/
namespace Go.Proofs.Ytincnopaclmppaa
set_option linter.unusedVariables false
open Go.RowKit Go.Sort

/-- How many names may be met at most. -/
def idsB : Nat → Nat
  | 0 => 0
  | d + 1 => 17 + 16 * idsB d
theorem firstS_ids {α : Type} {f : α → Seen → Int × Seen} {c : Nat} (hf : ∀ x s, (f x s).2.ids.length ≤ s.ids.length + c) : ∀ (l : List α) (s : Seen), (firstS f l s).2.ids.length ≤ s.ids.length + l.length * c
  | [], s => by simp [firstS]
  | x :: l, s => by
    have h1 := hf x s
    have h2 := firstS_ids hf l (f x s).2
    simp only [firstS, List.length_cons, Nat.add_mul, Nat.one_mul]
    split <;> omega
theorem polS_ids : ∀ (d : Nat) (p : Pol) (s : Seen), (polS d p s).2.ids.length ≤ s.ids.length + idsB d
  | 0, p, s => by simp [polS, idsB]
  | d + 1, p, s => by
    simp only [polS, idsB]
    split
    · simp only; omega
    · rename_i s1 h
      have h1 := idS_ids h
      split
      · simp only; omega
      split
      · simp only; omega
      split
      · simp only; omega
      rename_i hn
      have h2 := firstS_ids (c := 1) ruleS_ids p.rules s1
      have hr : p.rules.length ≤ 16 := by omega
      have hk : p.kids.length ≤ 16 := by omega
      split
      · omega
      have h3 := firstS_ids (c := idsB d) (polS_ids d) p.kids (firstS ruleS p.rules s1).2
      have h4 : p.kids.length * idsB d ≤ 16 * idsB d := Nat.mul_le_mul_right _ hk
      omega

/-- The project's walk over a policy, at a depth of which so many are left. -/
def PolOk (d : Nat) : Prop :=
  ∀ {w : World} {g B : Nat} {s : Seen} {R : Nat → Prop} {m : Nat} {p : Pol} {A1 A2 A3 A4 : Option Addr} {n1 k1 n2 k2 n3 k3 n4 k4 : Nat}, Wk w g B s → s.ids.length + idsB d < 800000 → (∀ b, R b → b ≠ g ∧ b ≠ B) →
    p.id.size ≤ maxLen → Tg w R A1 n1 k1 p.tg → Rus w R A2 n2 k2 p.rules → Pls w R m A3 n3 k3 p.kids → Dus w R A4 n4 k4 p.ob →
    Calls Try.prog 43 #[.pointer (some ⟨g, 0, none⟩), .agg #[.string p.id, .bool p.set, .int .i64 p.alg, .slice A1 n1 k1, .slice A2 n2 k2, .slice A3 n3 k3, .slice A4 n4 k4], .int .i64 (5 - (d : Int))] w
      fun e w' => e = .returned (.int .i64 (polS d p s).1) ∧ Only2 g B w w' ∧ WkE w' g B (polS d p s)

theorem pol_zero : PolOk 0 := by
  intro w g B s R m p A1 A2 A3 A4 n1 k1 n2 k2 n3 k3 n4 k4 hk _ _ _ _ _ _ _
  go_enter Try.func43, Try.ntmps43
  go_wp2_with fail
  go_ret
  exact ⟨rfl, ((Only2.alloc _).trans (Only2.alloc _)).trans (Only2.alloc _), s, ((hk.alloc _).alloc _).alloc _, fun h => by cases h⟩

set_option maxHeartbeats 800000 in
/-- The closure that goes one deeper. -/
theorem deeper_any {d : Nat} (ih : PolOk d) {w : World} {g B h3 h5 : Nat} {s : Seen} {R : Nat → Prop} {m : Nat} {p : Pol} {A1 A2 A3 A4 : Option Addr} {n1 k1 n2 k2 n3 k3 n4 k4 : Nat} (hd : d ≤ 4) (hk : Wk w g B s) (hlen : s.ids.length + idsB d < 800000) (hR : ∀ b, R b → b ≠ g ∧ b ≠ B)
    (hid : p.id.size ≤ maxLen) (h1 : Tg w R A1 n1 k1 p.tg) (h2 : Rus w R A2 n2 k2 p.rules) (h3' : Pls w R m A3 n3 k3 p.kids) (h4 : Dus w R A4 n4 k4 p.ob)
    (hp : Ob w h3 106 #[.pointer (some ⟨g, 0, none⟩)]) (hi : Ob w h5 3 #[.int .i64 (4 - (d : Int))]) :
    Calls Try.prog 67 #[.agg #[.string p.id, .bool p.set, .int .i64 p.alg, .slice A1 n1 k1, .slice A2 n2 k2, .slice A3 n3 k3, .slice A4 n4 k4], .pointer (some ⟨h3, 0, none⟩), .pointer (some ⟨h5, 0, none⟩)] w
      fun e w' => e = .returned (.int .i64 (polS d p s).1) ∧ Only2 g B w w' ∧ WkE w' g B (polS d p s) := by
  have c3 := hp.cell 0
  have c5 := hi.cell 0
  have l3 := hp.lt
  have l5 := hi.lt
  have hka := Kept.all ((Below.refl _ w).alloc (Nat.le_refl _) (.cells #[.string p.id, .bool p.set, .int .i64 p.alg, .slice A1 n1 k1, .slice A2 n2 k2, .slice A3 n3 k3, .slice A4 n4 k4] 31)) R
  have hcon := ih (hk.alloc (.cells #[.string p.id, .bool p.set, .int .i64 p.alg, .slice A1 n1 k1, .slice A2 n2 k2, .slice A3 n3 k3, .slice A4 n4 k4] 31)) hlen hR hid (h1.keep hka (fun _ h _ => h)) (h2.keep hka (fun _ h _ => h)) (h3'.keep hka (fun _ h _ => h)) (h4.keep hka (fun _ h _ => h))
  have hdd : (4 - (d : Int)) + 1 = 5 - (d : Int) := by omega
  have hd2 : -10 ≤ (4 - (d : Int)) ∧ (4 - (d : Int)) ≤ 4 := by omega
  rw [← hdd] at hcon
  have HC := Lib.hid hcon
  clear hcon hka hk hlen hR hid h1 h2 h3' h4 hp hi hdd ih
  generalize 4 - (d : Int) = q at *
  go_enter Try.func67, Try.ntmps67
  go_wp2_with (go_at_call 43; refine HC.out.mono ?_; rintro e w1 ⟨rfl, hb1, hw1⟩)
  go_ret
  exact ⟨rfl, (Only2.alloc _).trans hb1, hw1⟩

set_option maxHeartbeats 1600000 in
theorem each_pol {d : Nat} (ih : PolOk d) {w : World} {g B h3 h5 : Nat} {s : Seen} {R : Nat → Prop} {m : Nat} {A : Option Addr} {n c : Nat} {l : List Pol} (hd : d ≤ 4) (hk : Wk w g B s) (hlen : s.ids.length + n * idsB d < 800000) (hR : ∀ b, R b → b ≠ g ∧ b ≠ B)
    (hp : Ob w h3 106 #[.pointer (some ⟨g, 0, none⟩)]) (hi : Ob w h5 3 #[.int .i64 (4 - (d : Int))]) (hh : (h3 ≠ g ∧ h3 ≠ B) ∧ h5 ≠ g ∧ h5 ≠ B) (h : Pls w R m A n c l) :
    Calls Try.prog 66 #[.slice A n c, .func (.func 67) #[] #[.pointer (some ⟨h3, 0, none⟩), .pointer (some ⟨h5, 0, none⟩)]] w
      fun e w' => e = .returned (.int .i64 (firstS (polS d) l s).1) ∧ Only2 g B w w' ∧ WkE w' g B (firstS (polS d) l s) := by
  have hle := Rw.le h
  have hcap := Rw.cap h
  have HL := Lib.hid (Rw.len h)
  unfold maxLen at hcap
  have H := Lib.hid h
  have HW := Lib.hid hk
  have HRR := Lib.hid hR
  have HP := Lib.hid hp
  have HII := Lib.hid hi
  have HH := Lib.hid hh
  have HLEN := Lib.hid hlen
  clear h hk hR hp hi hh hlen
  go_enter Try.func66, Try.ntmps66
  go_wp2
  go_loopw [10] (fun i wr => ∃ (k : Nat) (s' : Seen), k ≤ n ∧ i = .int .i64 k ∧ StTo (polS d) l s k s' ∧ s'.ids.length ≤ s.ids.length + k * idsB d ∧ Wk wr g B s' ∧ Only2 g B w wr) (fun i _ => n - (intOf i).toNat)
  case atStart => exact ⟨0, s, Nat.zero_le _, rfl, StTo.zero _ _ _, by omega, HW.out, Only2.refl⟩
  case round =>
    obtain ⟨k, s', hk, rfl, hf, hids, hw, hb⟩ := hrel
    have HF := Lib.hid hf
    have HB := Lib.hid hb
    have HW' := Lib.hid hw
    have HI := Lib.hid hids
    clear hf hb hw hids
    by_cases hlt : k < n
    · obtain ⟨b, o, x, m', A1, n1, k1, A2, n2, k2, A3, n3, k3, A4, n4, k4, rfl, hRb, hbl, hx, hm, ⟨hid, halg⟩, ⟨c0, c1, c2, c3, c4, c5, c6⟩, h1, h2, h3', h4⟩ := (H.out.keep (HB.out.kept HRR.out) (fun _ h _ => h)).at_ hlt
      have HX := Lib.hid hx
      have hbel := (Below.refl _ wr).alloc (Nat.le_refl _) (.cells #[.string x.id, .bool x.set, .int .i64 x.alg, .slice A1 n1 k1, .slice A2 n2 k2, .slice A3 n3 k3, .slice A4 n4 k4] 31)
      have hka := Kept.all hbel R
      have hp' := (HP.out.keep (HB.out.heap HP.out.lt HH.out.1.1 HH.out.1.2))
      have hi' := (HII.out.keep (HB.out.heap HII.out.lt HH.out.2.1 HH.out.2.2))
      have hlen' : s'.ids.length + idsB d < 800000 := by
        have e1 := HI.out
        have e2 := HLEN.out
        have e3 : (k + 1) * idsB d ≤ n * idsB d := Nat.mul_le_mul_right _ hlt
        rw [Nat.add_mul, Nat.one_mul] at e3
        omega
      have hcon := deeper_any ih hd (HW'.out.alloc (.cells #[.string x.id, .bool x.set, .int .i64 x.alg, .slice A1 n1 k1, .slice A2 n2 k2, .slice A3 n3 k3, .slice A4 n4 k4] 31)) hlen' HRR.out hid (h1.keep hka (fun _ h _ => h)) (h2.keep hka (fun _ h _ => h)) (h3'.keep hka (fun _ h _ => h)) (h4.keep hka (fun _ h _ => h))
        (hp'.below hbel hp'.lt) (hi'.below hbel hi'.lt)
      have HIX := Lib.hid (polS_ids d x s')
      have HRel : Hid ((k + 1) * idsB d = k * idsB d + idsB d) := by show (k + 1) * idsB d = _; rw [Nat.add_mul, Nat.one_mul]
      clear hx hka h1 h2 h3' h4 hbel hp' hi' hlen' halg hid hm
      by_cases hz : (polS d x s').1 = 0
      · have HZ := Lib.hid hz
        rw [hz] at hcon
        have HC := Lib.hid hcon
        clear hz hcon
        go_wp2_with (go_at_call 67; refine HC.out.mono ?_; rintro e w1 ⟨rfl, hb1, hw1⟩; have B1 := Lib.hid hb1; have W1 := Lib.hid (hw1.ok HZ.out))
        go_roundw
        case rel => exact ⟨k + 1, _, by omega, by go_num, HF.out.step HX.out HZ.out, by have := HI.out; have := HIX.out; have := HRel.out; omega, W1.out, HB.out.trans ((Only2.alloc _).trans B1.out)⟩
        case measure => simp [intOf]; omega
      · have HZ := Lib.hid hz
        obtain ⟨r, hr⟩ : ∃ r, r = polS d x s' := ⟨_, rfl⟩
        have HR := Lib.hid hr
        rw [← hr] at hz hcon
        have hne : (r.1 != 0) = true := by simpa using hz
        have HC := Lib.hid hcon
        clear hcon hr
        clear hz
        go_wp2_with (go_at_call 67; refine HC.out.mono ?_; rintro e w1 ⟨rfl, hb1, hw1⟩; have B1 := Lib.hid hb1; have W1 := Lib.hid hw1; clear hw1)
        go_ret
        rw [HF.out.err HX.out HZ.out, ← HR.out]
        exact ⟨rfl, HB.out.trans ((Only2.alloc _).trans B1.out), W1.out⟩
    · obtain rfl : k = n := by omega
      go_wp2
      go_ret
      rw [HF.out.all HL.out]
      exact ⟨rfl, HB.out, s', HW'.out, fun _ => rfl⟩
end Go.Proofs.Ytincnopaclmppaa
/- A policy, one depth more (the project's walk.policy); Right, Rules. -/
namespace Go.Proofs.Ytincnopaclmppaa
set_option linter.unusedVariables false
open Go.RowKit Go.Sort

theorem each_len {a b d n2 n3 l : Nat} (h : a + (16 + 16 * d) < 800000) (h1 : b ≤ a + l * 1) (hl : l = n2) (h2 : n2 ≤ 16) (h3 : n3 ≤ 16) : b + n3 * d < 800000 := by
  have : n3 * d ≤ 16 * d := Nat.mul_le_mul_right _ h3
  omega
set_option maxRecDepth 100000 in
set_option maxHeartbeats 3200000 in
theorem pol_succ {d : Nat} (ih : PolOk d) (hd : d ≤ 3) : PolOk (d + 1) := by
  intro w g B s R m p A1 A2 A3 A4 n1 k1 n2 k2 n3 k3 n4 k4 hk hlen hR hid h1 h2 h3 h4
  have e5 : (5 : Int) - ((d + 1 : Nat) : Int) = 4 - (d : Int) := by omega
  rw [e5]
  have hdd : 1 ≤ (4 - (d : Int)) ∧ (4 - (d : Int)) ≤ 4 := by omega
  have HW := Lib.hid hk
  have H1 := Lib.hid h1
  have H2 := Lib.hid h2
  have H3 := Lib.hid h3
  have H4 := Lib.hid h4
  have HRR := Lib.hid hR
  have HLEN := Lib.hid hlen
  have HN : Hid (p.rules.length = n2 ∧ p.kids.length = n3) := ⟨Rw.len h2, Rw.len h3⟩
  have HC23 : Hid ((n2 ≤ k2 ∧ k2 ≤ maxLen) ∧ n3 ≤ k3 ∧ k3 ≤ maxLen) := ⟨⟨Rw.le h2, Rw.cap h2⟩, Rw.le h3, Rw.cap h3⟩
  obtain ⟨q, hq⟩ : ∃ q, q = 4 - (d : Int) := ⟨_, rfl⟩
  rw [← hq] at hdd ⊢
  have HQ := Lib.hid hq
  clear hq e5
  have hkeep0 := ((hk.alloc (.cells #[.pointer (some ⟨g, 0, none⟩)] 106)).alloc (.cells #[.string p.id, .bool p.set, .int .i64 p.alg, .slice A1 n1 k1, .slice A2 n2 k2, .slice A3 n3 k3, .slice A4 n4 k4] 31)).alloc (.cells #[.int .i64 q] 3)
  have hl : s.ids.length < 1000000 := by omega
  have HF := Lib.hid (fresh_any p.id hid hkeep0.ob hkeep0.map hkeep0.ne hl)
  have hgl : g < w.heap.size := hk.ob.lt
  have hBl : B < w.heap.size := hk.map.lt
  have hne := hk.ne
  have HFT := Lib.hid (fun W => fits_any p.id p.set p.alg A1 A2 A3 A4 n1 n2 n3 n4 k1 k2 k3 k4 W)
  have HFE : Hid (fitsB p = fitsN p.set p.alg n2 n3) := by
    show fitsB p = fitsN p.set p.alg n2 n3
    rw [fits_eq, HN.out.1, HN.out.2]
  have PA : Hid (Ob (((w.alloc (.cells #[.pointer (some ⟨g, 0, none⟩)] 106)).alloc (.cells #[.string p.id, .bool p.set, .int .i64 p.alg, .slice A1 n1 k1, .slice A2 n2 k2, .slice A3 n3 k3, .slice A4 n4 k4] 31)).alloc (.cells #[.int .i64 q] 3)) w.heap.size 106 #[.pointer (some ⟨g, 0, none⟩)]) :=
    ((Ob.made w _ _).keep (Below.heap_alloc _ _ _ (by simp))).keep (Below.heap_alloc _ _ _ (by simp; omega))
  have XA : Hid (Ob (((w.alloc (.cells #[.pointer (some ⟨g, 0, none⟩)] 106)).alloc (.cells #[.string p.id, .bool p.set, .int .i64 p.alg, .slice A1 n1 k1, .slice A2 n2 k2, .slice A3 n3 k3, .slice A4 n4 k4] 31)).alloc (.cells #[.int .i64 q] 3)) (w.heap.size + 1) 31 #[.string p.id, .bool p.set, .int .i64 p.alg, .slice A1 n1 k1, .slice A2 n2 k2, .slice A3 n3 k3, .slice A4 n4 k4]) := by
    have := Ob.made (w.alloc (.cells #[.pointer (some ⟨g, 0, none⟩)] 106)) 31 #[.string p.id, .bool p.set, .int .i64 p.alg, .slice A1 n1 k1, .slice A2 n2 k2, .slice A3 n3 k3, .slice A4 n4 k4]
    rw [size_al] at this
    exact this.keep (Below.heap_alloc _ _ _ (by simp))
  have IA : Hid (Ob (((w.alloc (.cells #[.pointer (some ⟨g, 0, none⟩)] 106)).alloc (.cells #[.string p.id, .bool p.set, .int .i64 p.alg, .slice A1 n1 k1, .slice A2 n2 k2, .slice A3 n3 k3, .slice A4 n4 k4] 31)).alloc (.cells #[.int .i64 q] 3)) (w.heap.size + 1 + 1) 3 #[.int .i64 q]) := by
    have := Ob.made ((w.alloc (.cells #[.pointer (some ⟨g, 0, none⟩)] 106)).alloc (.cells #[.string p.id, .bool p.set, .int .i64 p.alg, .slice A1 n1 k1, .slice A2 n2 k2, .slice A3 n3 k3, .slice A4 n4 k4] 31)) 3 #[.int .i64 q]
    rw [size_al, size_al] at this
    exact this
  have GA : Hid (Only2 g B w (((w.alloc (.cells #[.pointer (some ⟨g, 0, none⟩)] 106)).alloc (.cells #[.string p.id, .bool p.set, .int .i64 p.alg, .slice A1 n1 k1, .slice A2 n2 k2, .slice A3 n3 k3, .slice A4 n4 k4] 31)).alloc (.cells #[.int .i64 q] 3))) := ((Only2.alloc _).trans (Only2.alloc _)).trans (Only2.alloc _)
  clear hk hkeep0 h1 h2 h3 h4 hR hlen hl hid
  by_cases hfr : (decide (Named (bl p.id)) && !metB p.id s.ids) = true
  · rw [hfr] at HF
    have HE : Hid (polS (d + 1) p s = (if fitsB p = false then (1, ⟨s.ids ++ [p.id], s.n⟩)
        else if orE (tgE p.tg) (obE p.ob) ≠ 0 then (orE (tgE p.tg) (obE p.ob), ⟨s.ids ++ [p.id], s.n⟩)
        else if 16 < n2 ∨ 16 < n3 then (6, ⟨s.ids ++ [p.id], s.n⟩)
        else if (firstS ruleS p.rules ⟨s.ids ++ [p.id], s.n⟩).1 ≠ 0 then firstS ruleS p.rules ⟨s.ids ++ [p.id], s.n⟩
        else firstS (polS d) p.kids (firstS ruleS p.rules ⟨s.ids ++ [p.id], s.n⟩).2)) := by
      show polS (d + 1) p s = _
      simp only [polS, idS_some hfr, HN.out.1, HN.out.2]
    have HS1 : Hid ((⟨s.ids ++ [p.id], s.n⟩ : Seen).ids.length = s.ids.length + 1) := by simp [Hid]
    clear hfr
    generalize polS (d + 1) p s = z at *
    by_cases hfit : fitsN p.set p.alg n2 n3 = false
    · rw [hfit] at HFE HFT
      rw [HFE.out, if_pos rfl] at HE
      clear hfit
      go_enter Try.func43, Try.ntmps43
      go_wp2_with (first
        | (go_at_call 59; refine HF.out.mono ?_; rintro e w1 ⟨rfl, hb1, hm1⟩; have X1 := Lib.hid (XA.out.keep (hb1.heap XA.out.lt (by omega))); have x0 := X1.out.cell 0; have x1 := X1.out.cell 1; have x2 := X1.out.cell 2; have x3 := X1.out.cell 3; have x4 := X1.out.cell 4; have x5 := X1.out.cell 5; have x6 := X1.out.cell 6)
        | (go_at_call 60; refine (HFT.out _).mono ?_; rintro e w2 ⟨rfl, hb2⟩))
      go_ret
      rw [HE.out]
      refine ⟨rfl, (GA.out.trans (Only2.of_B hb1)).trans (Only2.of_below hb2), ⟨s.ids ++ [p.id], s.n⟩, ?_, fun h => by cases h⟩
      have o0 : Ob w1 g 68 #[.map (some B), .int .i64 s.n] := (((HW.out.alloc _).alloc _).alloc _).ob.keep (hb1.heap (((HW.out.alloc _).alloc _).alloc _).ob.lt hne)
      exact ⟨o0.below hb2 o0.lt, hm1.below hb2, hne, by have := HW.out.few; show s.n ≤ (s.ids ++ [p.id]).length; simp; omega⟩
    · rw [Bool.not_eq_false] at hfit
      rw [hfit] at HFE HFT
      rw [HFE.out, if_neg (by simp)] at HE
      clear hfit
      go_enter Try.func43, Try.ntmps43
      go_wp2_with (first
        | (go_at_call 59; refine HF.out.mono ?_; rintro e w1 ⟨rfl, hb1, hm1⟩; have X1 := Lib.hid (XA.out.keep (hb1.heap XA.out.lt (by omega))); have x0 := X1.out.cell 0; have x1 := X1.out.cell 1; have x2 := X1.out.cell 2; have x3 := X1.out.cell 3; have x4 := X1.out.cell 4; have x5 := X1.out.cell 5; have x6 := X1.out.cell 6)
        | (go_at_call 60; refine (HFT.out _).mono ?_; rintro e w2 ⟨rfl, hb2⟩))
      have hB2 := (below_step hb2 (Below.refl _ _))
      have W2 : Hid (Wk w2 g B ⟨s.ids ++ [p.id], s.n⟩) := by
        have o0 : Ob w1 g 68 #[.map (some B), .int .i64 s.n] := (((HW.out.alloc _).alloc _).alloc _).ob.keep (hb1.heap (((HW.out.alloc _).alloc _).alloc _).ob.lt hne)
        exact ⟨o0.below hb2 o0.lt, hm1.below hb2, hne, by have := HW.out.few; show s.n ≤ (s.ids ++ [p.id]).length; simp; omega⟩
      have X2 := Lib.hid (X1.out.below hb2 X1.out.lt)
      have P2 : Hid (Ob w2 w.heap.size 106 #[.pointer (some ⟨g, 0, none⟩)]) := by
        have o0 := PA.out.keep (hb1.heap PA.out.lt (by omega))
        exact o0.below hb2 o0.lt
      have I2 : Hid (Ob w2 (w.heap.size + 1 + 1) 3 #[.int .i64 q]) := by
        have o0 := IA.out.keep (hb1.heap IA.out.lt (by omega))
        exact o0.below hb2 o0.lt
      have G2 : Hid (Only2 g B w w2) := (GA.out.trans (Only2.of_B hb1)).trans (Only2.of_below hb2)
      clear x0 x1 x2 x3 x4 x5 x6 hb1 hm1 hb2 hB2 X1 HF HFT PA XA IA GA
      have T1 := Lib.hid (H1.out.keep (G2.out.kept HRR.out) (fun _ h _ => h))
      have T4 := Lib.hid (H4.out.keep (G2.out.kept HRR.out) (fun _ h _ => h))
      have KK := Lib.hid (below_regrown w2)
      have Q1 : Hid (∀ d os, Calls Try.prog 62 #[.slice A1 n1 k1] (grow (redrawn w2 d) os) fun e w'' => e = .returned (.int .i64 (tgE p.tg)) ∧ ∃ p : Regrown, w'' = grow (redrawn w2 p.d) p.os) := fun d os => Calls.regrown_of (target_any _ (T1.out.keep (Kept.all (KK.out d os) R) (fun _ h _ => h)))
      have Q4 : Hid (∀ d os, Calls Try.prog 63 #[.slice A4 n4 k4] (grow (redrawn w2 d) os) fun e w'' => e = .returned (.int .i64 (obE p.ob)) ∧ ∃ p : Regrown, w'' = grow (redrawn w2 p.d) p.os) := fun d os => Calls.regrown_of (obls_any _ (T4.out.keep (Kept.all (KK.out d os) R) (fun _ h _ => h)))
      have y3 := fun d os => cell_regrown (X2.out.cell 3) d os
      have y6 := fun d os => cell_regrown (X2.out.cell 6) d os
      have HOR := Lib.hid (or2 (tgE p.tg) (obE p.ob))
      generalize tgE p.tg = a1 at *
      generalize obE p.ob = a3 at *
      refine wp_region_below_tail 6 (by kernel_rfl) (by kernel_rfl) ?_
      simp only [List.take_succ_cons, List.take_zero, List.drop_succ_cons, List.drop_zero]
      repeat (go_big_quiet_step ((first
        | (go_at_call 62; exact Q1.out _ _)
        | (go_at_call 63; exact Q4.out _ _))))
      refine wpQuiet_nil ?_
      intro _ hw'
      obtain ⟨⟨dq, osq⟩, hw''⟩ := hw'
      subst hw''
      have hbel := below_regrown w2 dq osq
      have W4 := Lib.hid (W2.out.below hbel)
      have X4 := Lib.hid (X2.out.below hbel X2.out.lt)
      have P4 := Lib.hid (P2.out.below hbel P2.out.lt)
      have I4 := Lib.hid (I2.out.below hbel I2.out.lt)
      have G4 := Lib.hid (G2.out.trans (Only2.of_below hbel))
      clear y3 y6 hbel Q1 Q4 KK W2 X2 P2 I2 G2 T1 T4
      dsimp only at W4 X4 P4 I4 G4 ⊢
      generalize grow (redrawn w2 dq) osq = w4 at *
      have HSL := Lib.hid (Sl.lit w4 32 (ev [a1, a3]) 2 rfl (by simp [maxLen]))
      have HOA := Lib.hid (or_any (l := [a1, a3]) HSL.out (by omega) (by simp))
      rw [HOR.out] at HOA
      obtain ⟨r, hr⟩ : ∃ r, r = orE a1 a3 := ⟨_, rfl⟩
      rw [← hr] at HOA HE
      have L4 : Hid (Below w4.heap.size w4 (w4.alloc (.cells (ev [a1, a3]).toArray 32))) := (Below.refl _ _).alloc (Nat.le_refl _) _
      have W5 := Lib.hid (W4.out.below L4.out)
      have X5 := Lib.hid (X4.out.below L4.out X4.out.lt)
      have P5 := Lib.hid (P4.out.below L4.out P4.out.lt)
      have I5 := Lib.hid (I4.out.below L4.out I4.out.lt)
      have G5 := Lib.hid (G4.out.trans (Only2.of_below L4.out))
      clear hr HOR W4 X4 P4 I4 G4 HSL
      by_cases hor : r = 0
      · subst hor
        rw [if_neg (by simp)] at HE
        by_cases hn : 16 < n2 ∨ 16 < n3
        · rw [if_pos hn] at HE
          by_cases hn2 : 16 < n2
          · have hz2 : (16 : Int) < (n2 : Int) := by omega
            clear hn
            go_wp2_with (first
              | (go_at_call 61; refine HOA.out.mono ?_; rintro e w5 ⟨rfl, hw5⟩; rw [← hw5] at W5 X5 P5 I5 G5; clear hw5; have x4 := X5.out.cell 4; have x5 := X5.out.cell 5))
            go_ret
            rw [HE.out]
            exact ⟨rfl, G5.out, _, W5.out, fun h => by cases h⟩
          · have hz2 : ¬ (16 : Int) < (n2 : Int) := by omega
            have hz3 : (16 : Int) < (n3 : Int) := by omega
            clear hn
            go_wp2_with (first
              | (go_at_call 61; refine HOA.out.mono ?_; rintro e w5 ⟨rfl, hw5⟩; rw [← hw5] at W5 X5 P5 I5 G5; clear hw5; have x4 := X5.out.cell 4; have x5 := X5.out.cell 5))
            go_ret
            rw [HE.out]
            exact ⟨rfl, G5.out, _, W5.out, fun h => by cases h⟩
        · rw [if_neg hn] at HE
          have hz2 : ¬ (16 : Int) < (n2 : Int) := by omega
          have hz3 : ¬ (16 : Int) < (n3 : Int) := by omega
          have HN16 : Hid (n2 ≤ 16 ∧ n3 ≤ 16) := ⟨by omega, by omega⟩
          clear hn
          have hl1 : (⟨s.ids ++ [p.id], s.n⟩ : Seen).ids.length + (16 + 16 * idsB d) < 800000 := by
            have e1 := HLEN.out
            have e3 : idsB (d + 1) = 17 + 16 * idsB d := rfl
            show (s.ids ++ [p.id]).length + (16 + 16 * idsB d) < 800000
            rw [List.length_append, List.length_singleton]
            omega
          have HL1 := Lib.hid hl1
          have R5 := Lib.hid (H2.out.keep (G5.out.kept HRR.out) (fun _ h _ => h))
          have HER := Lib.hid (each_rule W5.out (by have := HL1.out; omega) (by have := HN16.out; omega) HRR.out R5.out)
          have HRI := Lib.hid (firstS_ids (c := 1) ruleS_ids p.rules ⟨s.ids ++ [p.id], s.n⟩)
          have HGL : Hid ((w.heap.size < (w4.alloc (.cells (ev [a1, a3]).toArray 32)).heap.size) ∧ w.heap.size + 1 + 1 < (w4.alloc (.cells (ev [a1, a3]).toArray 32)).heap.size) := ⟨P5.out.lt, I5.out.lt⟩
          clear hl1
          generalize (⟨s.ids ++ [p.id], s.n⟩ : Seen) = s1 at *
          obtain ⟨r1, hr1⟩ : ∃ r1, r1 = firstS ruleS p.rules s1 := ⟨_, rfl⟩
          rw [← hr1] at HER HE HRI
          clear hr1
          by_cases hrz : r1.1 = 0
          · have HRZ := Lib.hid hrz
            rw [hrz] at HER HE
            rw [if_neg (by simp)] at HE
            clear hrz
            have HHH : Hid ((w.heap.size ≠ g ∧ w.heap.size ≠ B) ∧ w.heap.size + 1 + 1 ≠ g ∧ w.heap.size + 1 + 1 ≠ B) := ⟨⟨by omega, by omega⟩, by omega, by omega⟩
            have HD4 : Hid (d ≤ 4) := Nat.le_succ_of_le hd
            have HEL := Lib.hid (each_len HL1.out HRI.out HN.out.1 HN16.out.1 HN16.out.2)
            have I5' := I5.out
            rw [HQ.out] at I5'
            have J5 := Lib.hid I5'
            clear I5'
            go_wp2_with (first
              | (go_at_call 61; refine HOA.out.mono ?_; rintro e w5 ⟨rfl, hw5⟩; rw [← hw5] at W5 X5 P5 I5 G5 HER HGL J5; clear hw5; have x4 := X5.out.cell 4; have x5 := X5.out.cell 5; have p5 := P5.out.cell 0)
              | (go_at_call 64; refine HER.out.mono ?_; rintro e w6 ⟨rfl, hb6, hw6⟩; have B6 := Lib.hid hb6; have W6 := Lib.hid (hw6.ok HRZ.out); have X6 := Lib.hid (X5.out.keep (hb6.heap X5.out.lt (by omega) (by omega))); have P6 := Lib.hid (P5.out.keep (hb6.heap P5.out.lt (by omega) (by omega))); have I6 := Lib.hid (J5.out.keep (hb6.heap J5.out.lt (by omega) (by omega))); have y5 := X6.out.cell 5; have K6 := Lib.hid (H3.out.keep ((G5.out.trans hb6).kept HRR.out) (fun _ h _ => h)); clear hb6 hw6 x4 x5 p5)
              | (go_at_call 66; refine (each_pol ih HD4.out W6.out HEL.out HRR.out P6.out I6.out HHH.out K6.out).mono ?_; rintro e w7 ⟨rfl, hb7, hw7⟩))
            go_ret
            rw [HE.out]
            exact ⟨rfl, (G5.out.trans B6.out).trans hb7, hw7⟩
          · have hne1 : (r1.1 != 0) = true := by simpa using hrz
            rw [if_pos hrz] at HE
            have HRZ := Lib.hid hrz
            clear hrz
            go_wp2_with (first
              | (go_at_call 61; refine HOA.out.mono ?_; rintro e w5 ⟨rfl, hw5⟩; rw [← hw5] at W5 X5 P5 I5 G5 HER HGL; clear hw5; have x4 := X5.out.cell 4; have x5 := X5.out.cell 5; have p5 := P5.out.cell 0)
              | (go_at_call 64; refine HER.out.mono ?_; rintro e w6 ⟨rfl, hb6, hw6⟩; have B6 := Lib.hid hb6; have W6 := Lib.hid hw6; clear hw6))
            go_ret
            rw [HE.out]
            exact ⟨rfl, G5.out.trans B6.out, W6.out⟩
      · have hne0 : (r != 0) = true := by simpa using hor
        rw [if_pos hor] at HE
        have HOZ := Lib.hid hor
        clear hor
        go_wp2_with (first
          | (go_at_call 61; refine HOA.out.mono ?_; rintro e w5 ⟨rfl, rfl⟩))
        go_ret
        rw [HE.out]
        exact ⟨rfl, G5.out, _, W5.out, fun h => absurd h HOZ.out⟩
  · rw [Bool.not_eq_true] at hfr
    rw [hfr] at HF
    have HE : Hid (polS (d + 1) p s = (1, s)) := by
      show polS (d + 1) p s = _
      simp only [polS, idS_none hfr]
    clear hfr
    generalize polS (d + 1) p s = z at *
    go_enter Try.func43, Try.ntmps43
    go_wp2_with (first
      | (go_at_call 59; refine HF.out.mono ?_; rintro e w1 ⟨rfl, hb1, hm1⟩))
    go_ret
    rw [HE.out]
    have o0 : Ob w1 g 68 #[.map (some B), .int .i64 s.n] := (((HW.out.alloc _).alloc _).alloc _).ob.keep (hb1.heap (((HW.out.alloc _).alloc _).alloc _).ob.lt hne)
    exact ⟨rfl, (((Only2.alloc _).trans (Only2.alloc _)).trans (Only2.alloc _)).trans (Only2.of_B hb1), ⟨s.ids ++ [p.id], s.n⟩, ⟨o0, hm1, hne, by have := HW.out.few; show s.n ≤ (s.ids ++ [p.id]).length; simp; omega⟩, fun h => by cases h⟩
end Go.Proofs.Ytincnopaclmppaa
/- Right, Rules (the project's), over any policy. -/
namespace Go.Proofs.Ytincnopaclmppaa
set_option linter.unusedVariables false
open Go.RowKit Go.Sort

theorem pol_four : PolOk 4 := pol_succ (pol_succ (pol_succ (pol_succ pol_zero (by omega)) (by omega)) (by omega)) (by omega)

theorem walk_ret2 {fn : Func} {p u : Tmp} {tmps : Array Value} {w : World} {g : Nat} {a b v : Value} (h : fn.results = #[.cell p 68, .tmp u]) (hp : tmps.getD p undef = .pointer (some ⟨g, 0, none⟩)) (hu : tmps.getD u undef = v) (hg : Ob w g 68 #[a, b]) :
    (results fn tmps).run Try.prog w = .ok (.tuple #[.agg #[a, b], v]) w := by
  rw [results_cell_tmp h, hp, hu]
  have hl := run_loadVar_row (P := Try.prog) w g 68 _ _ (0, 0) _ hg Try.underlying68 rfl (by kernel_rfl)
  simp [asAddr, hl, Result.andThen]

/-- A policy's cells, all there. -/
def PolIn (w : World) (R : Nat → Prop) (p : Pol) (A1 : Option Addr) (n1 k1 : Nat) (A2 : Option Addr) (n2 k2 : Nat) (A3 : Option Addr) (n3 k3 : Nat) (A4 : Option Addr) (n4 k4 : Nat) : Prop :=
  (p.id.size ≤ maxLen ∧ InI p.alg) ∧ Tg w R A1 n1 k1 p.tg ∧ Rus w R A2 n2 k2 p.rules ∧ (∃ m, Pls w R m A3 n3 k3 p.kids) ∧ Dus w R A4 n4 k4 p.ob
section
variable {w w' : World} {R R' : Nat → Prop} {p : Pol} {A1 A2 A3 A4 : Option Addr} {n1 k1 n2 k2 n3 k3 n4 k4 : Nat}
theorem PolIn.keep (h : PolIn w R p A1 n1 k1 A2 n2 k2 A3 n3 k3 A4 n4 k4) (hk : Kept R w w') (hR : ∀ b, R b → b < w.heap.size → R' b) : PolIn w' R' p A1 n1 k1 A2 n2 k2 A3 n3 k3 A4 n4 k4 := by
  obtain ⟨h0, h1, h2, ⟨m, h3⟩, h4⟩ := h
  exact ⟨h0, h1.keep hk hR, h2.keep hk hR, ⟨m, h3.keep hk hR⟩, h4.keep hk hR⟩
theorem PolIn.low (h : PolIn w R p A1 n1 k1 A2 n2 k2 A3 n3 k3 A4 n4 k4) : PolIn w (fun b => b < w.heap.size) p A1 n1 k1 A2 n2 k2 A3 n3 k3 A4 n4 k4 := h.keep (Kept.refl _ _) fun _ _ h => h
theorem PolIn.then_ (h : PolIn w R p A1 n1 k1 A2 n2 k2 A3 n3 k3 A4 n4 k4) (hb : Below w.heap.size w w') : PolIn w' R p A1 n1 k1 A2 n2 k2 A3 n3 k3 A4 n4 k4 := h.keep (Kept.all hb R) fun _ h _ => h

set_option maxRecDepth 100000 in
set_option maxHeartbeats 1600000 in
theorem through_any (h : PolIn w R p A1 n1 k1 A2 n2 k2 A3 n3 k3 A4 n4 k4) :
    Calls Try.prog 26 #[.agg #[.string p.id, .bool p.set, .int .i64 p.alg, .slice A1 n1 k1, .slice A2 n2 k2, .slice A3 n3 k3, .slice A4 n4 k4]] w
      fun e w' => ∃ (B n : Nat), e = .returned (.tuple #[.agg #[.map (some B), .int .i64 n], .int .i64 (rightE p)]) ∧ (rightE p = 0 → n = rulesN p) ∧ Below w.heap.size w w' := by
  have hmm := @run_makeMap Try.prog
  have h' := h.low
  have HP := Lib.hid h'
  obtain ⟨⟨hid, halg⟩, _⟩ := h
  have HID := Lib.hid hid
  clear h' hid halg
  have W0 : Hid (Wk ((((w.alloc (.cells #[.string p.id, .bool p.set, .int .i64 p.alg, .slice A1 n1 k1, .slice A2 n2 k2, .slice A3 n3 k3, .slice A4 n4 k4] 31)).alloc (.cells #[.map none, .int .i64 0] 68)).alloc (.map #[] 0)).alloc (.cells #[.map (some (w.heap.size + 1 + 1)), .int .i64 0] 68)) (w.heap.size + 1 + 1 + 1) (w.heap.size + 1 + 1) ⟨[], 0⟩) := by
    refine ⟨?_, ?_, by omega, Nat.le_refl _⟩
    · have := Ob.made (((w.alloc (.cells #[.string p.id, .bool p.set, .int .i64 p.alg, .slice A1 n1 k1, .slice A2 n2 k2, .slice A3 n3 k3, .slice A4 n4 k4] 31)).alloc (.cells #[.map none, .int .i64 0] 68)).alloc (.map #[] 0)) 68 #[.map (some (w.heap.size + 1 + 1)), .int .i64 0]
      rwa [size_al, size_al, size_al] at this
    · have := (MapIs.made ((w.alloc (.cells #[.string p.id, .bool p.set, .int .i64 p.alg, .slice A1 n1 k1, .slice A2 n2 k2, .slice A3 n3 k3, .slice A4 n4 k4] 31)).alloc (.cells #[.map none, .int .i64 0] 68))).below ((Below.refl _ (((w.alloc (.cells #[.string p.id, .bool p.set, .int .i64 p.alg, .slice A1 n1 k1, .slice A2 n2 k2, .slice A3 n3 k3, .slice A4 n4 k4] 31)).alloc (.cells #[.map none, .int .i64 0] 68)).alloc (.map #[] 0))).alloc (Nat.le_refl _) (.cells #[.map (some (w.heap.size + 1 + 1)), .int .i64 0] 68))
      rwa [size_al, size_al] at this
  have R0 : Hid (Ob ((((w.alloc (.cells #[.string p.id, .bool p.set, .int .i64 p.alg, .slice A1 n1 k1, .slice A2 n2 k2, .slice A3 n3 k3, .slice A4 n4 k4] 31)).alloc (.cells #[.map none, .int .i64 0] 68)).alloc (.map #[] 0)).alloc (.cells #[.map (some (w.heap.size + 1 + 1)), .int .i64 0] 68)) (w.heap.size + 1) 68 #[.map none, .int .i64 0]) := by
    have h0 := Ob.made (w.alloc (.cells #[.string p.id, .bool p.set, .int .i64 p.alg, .slice A1 n1 k1, .slice A2 n2 k2, .slice A3 n3 k3, .slice A4 n4 k4] 31)) 68 #[.map none, .int .i64 0]
    rw [size_al] at h0
    have h1 := h0.keep (Below.heap_alloc ((w.alloc (.cells #[.string p.id, .bool p.set, .int .i64 p.alg, .slice A1 n1 k1, .slice A2 n2 k2, .slice A3 n3 k3, .slice A4 n4 k4] 31)).alloc (.cells #[.map none, .int .i64 0] 68)) (.map #[] 0) _ (by simp))
    exact h1.keep (Below.heap_alloc _ _ _ (by first | (simp; done) | (simp; omega)))
  have D0 : Hid (Below w.heap.size w ((((w.alloc (.cells #[.string p.id, .bool p.set, .int .i64 p.alg, .slice A1 n1 k1, .slice A2 n2 k2, .slice A3 n3 k3, .slice A4 n4 k4] 31)).alloc (.cells #[.map none, .int .i64 0] 68)).alloc (.map #[] 0)).alloc (.cells #[.map (some (w.heap.size + 1 + 1)), .int .i64 0] 68))) := ((((Below.refl _ w).alloc (Nat.le_refl _) _).alloc (by simp) _).alloc (by first | (simp; done) | (simp; omega)) _).alloc (by first | (simp; done) | (simp; omega)) _
  have HIN := Lib.hid (HP.out.keep (Kept.below D0.out (R := fun b => b < w.heap.size) (fun _ h _ => h)) (fun _ h _ => h))
  have HC : Hid (Calls Try.prog 43 #[.pointer (some ⟨w.heap.size + 1 + 1 + 1, 0, none⟩), .agg #[.string p.id, .bool p.set, .int .i64 p.alg, .slice A1 n1 k1, .slice A2 n2 k2, .slice A3 n3 k3, .slice A4 n4 k4], .int .i64 1] ((((w.alloc (.cells #[.string p.id, .bool p.set, .int .i64 p.alg, .slice A1 n1 k1, .slice A2 n2 k2, .slice A3 n3 k3, .slice A4 n4 k4] 31)).alloc (.cells #[.map none, .int .i64 0] 68)).alloc (.map #[] 0)).alloc (.cells #[.map (some (w.heap.size + 1 + 1)), .int .i64 0] 68))
      fun e w' => e = .returned (.int .i64 (polS 4 p ⟨[], 0⟩).1) ∧ Only2 (w.heap.size + 1 + 1 + 1) (w.heap.size + 1 + 1) ((((w.alloc (.cells #[.string p.id, .bool p.set, .int .i64 p.alg, .slice A1 n1 k1, .slice A2 n2 k2, .slice A3 n3 k3, .slice A4 n4 k4] 31)).alloc (.cells #[.map none, .int .i64 0] 68)).alloc (.map #[] 0)).alloc (.cells #[.map (some (w.heap.size + 1 + 1)), .int .i64 0] 68)) w' ∧ WkE w' (w.heap.size + 1 + 1 + 1) (w.heap.size + 1 + 1) (polS 4 p ⟨[], 0⟩)) := by
    obtain ⟨h0, h1, h2, ⟨m, h3⟩, h4⟩ := HIN.out
    exact pol_four W0.out (by simp [idsB]) (fun b hb => ⟨by omega, by omega⟩) h0.1 h1 h2 h3 h4
  have HE : Hid (rightE p = (polS 4 p ⟨[], 0⟩).1 ∧ rulesN p = (polS 4 p ⟨[], 0⟩).2.n) := ⟨rfl, rfl⟩
  generalize polS 4 p ⟨[], 0⟩ = z at *
  go_enter Try.func26, Try.ntmps26
  go_wp2_with (first
    | (go_at_call 43; refine HC.out.mono ?_; rintro e w1 ⟨rfl, hb1, s', hs', hz'⟩; have S1 := Lib.hid hs'; have O1 := hs'.ob; have Z1 := Lib.hid hz'; have D1 := Lib.hid (D0.out.trans (hb1.below D0.out.size (by omega) (by omega))); have c0 := O1.cell 0; have c1 := O1.cell 1; have R1 := Lib.hid (R0.out.keep (hb1.heap R0.out.lt (by omega) (by omega))); have d0 := R1.out.cell 0; have d1 := R1.out.cell 1; have f0 := R1.out.frozen 0; have f1 := R1.out.frozen 1; clear hb1 hs' hz' O1))
  try simp only [Exit.inBlock, Exit.then]
  refine bodyPost_ret (walk_ret2 (a := .map (some (w.heap.size + 1 + 1))) (b := .int .i64 (s'.n : Int)) rfl rfl rfl (by simpa using (R1.out.put 0 (.map (some (w.heap.size + 1 + 1)))).put 1 (.int .i64 (s'.n : Int)))) rfl ?_
  refine ⟨w.heap.size + 1 + 1, s'.n, by rw [HE.out.1]; rfl, fun h => ?_, (D1.out.setCell (p := ⟨w.heap.size + 1, 0, none⟩) (by simp) _).setCell (p := ⟨w.heap.size + 1, 1, none⟩) (by simp) _⟩
  rw [Z1.out (by rw [← HE.out.1]; exact h), HE.out.2]

theorem right_pol (h : PolIn w R p A1 n1 k1 A2 n2 k2 A3 n3 k3 A4 n4 k4) :
    Calls Try.prog 11 #[.agg #[.string p.id, .bool p.set, .int .i64 p.alg, .slice A1 n1 k1, .slice A2 n2 k2, .slice A3 n3 k3, .slice A4 n4 k4]] w
      fun e w' => e = .returned (.int .i64 (rightE p)) ∧ Below w.heap.size w w' := by
  have HC := Lib.hid (through_any (h.then_ ((Below.refl _ w).alloc (Nat.le_refl _) (.cells #[.string p.id, .bool p.set, .int .i64 p.alg, .slice A1 n1 k1, .slice A2 n2 k2, .slice A3 n3 k3, .slice A4 n4 k4] 31))))
  clear h
  generalize rightE p = r at *
  go_enter Try.func11, Try.ntmps11
  go_wp2_with (first
    | (go_at_call 26; refine HC.out.mono ?_; rintro e w1 ⟨B, n, rfl, hn, hb1⟩; have D1 := Lib.hid (Below.lit hb1); clear hb1 hn))
  go_ret
  exact ⟨rfl, D1.out.alloc D1.out.size _⟩
end
end Go.Proofs.Ytincnopaclmppaa
/- Rows that are laid as literals. -/
namespace Go.Proofs.Ytincnopaclmppaa
set_option linter.unusedVariables false
open Go.RowKit

theorem flat_at {α : Type} {f : α → List Value} {k : Nat} : ∀ {l : List α} {j : Nat} {x : α} {i : Nat} {v : Value}, (∀ y ∈ l, (f y).length = k) → l[j]? = some x → (f x)[i]? = some v → (l.flatMap f)[j * k + i]? = some v
  | [], _, _, _, _, _, hx, _ => by simp at hx
  | y :: l, 0, x, i, v, hk, hx, hv => by
    simp at hx
    subst hx
    rw [List.flatMap_cons, Nat.zero_mul, Nat.zero_add, List.getElem?_append_left (by rw [List.getElem?_eq_some_iff] at hv; exact hv.1)]
    exact hv
  | y :: l, j + 1, x, i, v, hk, hx, hv => by
    have hy := hk y (by simp)
    rw [List.flatMap_cons, List.getElem?_append_right (by rw [hy, Nat.add_mul]; omega), hy, show (j + 1) * k + i - k = j * k + i by rw [Nat.add_mul]; omega]
    exact flat_at (fun y h => hk y (by simp [h])) (by simpa using hx) hv
theorem Rw.lit {α : Type} {k : Nat} {P : List Value → α → Prop} {R : Nat → Prop} (w : World) (t : TypeId) (f : α → List Value) (l : List α) {n : Nat} (hn : l.length = n) (hc : n ≤ 1000000) (hR : R w.heap.size) (hk : ∀ x ∈ l, (f x).length = k) (hP : ∀ x ∈ l, P (f x) x) :
    Rw k P (w.alloc (.cells (l.flatMap f).toArray t)) R (some ⟨w.heap.size, 0, none⟩) n n l := by
  refine ⟨hn, Nat.le_refl _, ⟨by simp [maxLen]; omega, by omega⟩, .inr ⟨w.heap.size, 0, rfl, hR, by simp, fun j x hx => ⟨f x, hk x (List.mem_of_getElem? hx), fun i v hv => ?_, hP x (List.mem_of_getElem? hx)⟩⟩⟩
  have := (Ob.made w t (l.flatMap f).toArray).cell (j * k + i)
  rw [Nat.zero_add, this, List.getElem?_toArray]
  exact flat_at hk hx hv
theorem Nds.lit (w : World) {R : Nat → Prop} (l : List Nod) {n : Nat} (hn : l.length = n) (hc : n ≤ 1000000) (hR : R w.heap.size) (hok : ∀ x ∈ l, x.ok) : Nds (w.alloc (.cells (l.flatMap Nod.cells).toArray 72)) R (some ⟨w.heap.size, 0, none⟩) n n l :=
  Rw.lit w _ Nod.cells l hn hc hR (fun _ _ => rfl) fun x hx => ⟨rfl, hok x hx⟩
theorem Dus.lit (w : World) {R : Nat → Prop} (l : List Dut) {n : Nat} (hn : l.length = n) (hc : n ≤ 1000000) (hR : R w.heap.size) (hok : ∀ x ∈ l, x.ok) : Dus (w.alloc (.cells (l.flatMap Dut.cells).toArray 121)) R (some ⟨w.heap.size, 0, none⟩) n n l :=
  Rw.lit w _ Dut.cells l hn hc hR (fun _ _ => rfl) fun x hx => ⟨rfl, hok x hx⟩
end Go.Proofs.Ytincnopaclmppaa
