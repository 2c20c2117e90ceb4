/- ExprSums: the walk. -/
import Derived.Test.YtmpldpfgnakbkaaExpC
namespace Go.Proofs.Ytmpldpfgnakbkaa
set_option linter.unusedVariables false
open Go.RowKit Go.Sort

/-- A number as a node. -/
def litN (x : Int) : Nod := ⟨1, ⟨2, x, ⟨#[]⟩⟩, ⟨0, ⟨#[]⟩, false⟩⟩
def opO (f : Int) : Nod := ⟨f, ⟨0, 0, ⟨#[]⟩⟩, ⟨0, ⟨#[]⟩, false⟩⟩
def numP (x : Int) : Prt := ⟨[], numV x, 0⟩
theorem num_right (x : Int) : (numV x).right := .inr (.inl ⟨rfl, rfl⟩)
theorem lit_holds (x : Int) : holdsB (litN x) = true := by
  have : (⟨2, x, ⟨#[]⟩⟩ : Vl).right := num_right x
  simp [holdsB, litN, this]
  rfl
theorem lit_step (x : Int) (s : List Bool) : stepX (litN x) s = some (false :: s) := by
  unfold stepX
  rw [if_pos (lit_holds x)]
  rfl
theorem opO_step {f : Int} (h1 : f ≠ 1) (h2 : f ≠ 2) (s : List Bool) : stepX (opO f) s = popX f s := by
  have h : holdsB (opO f) = true := holds_opN h1 h2
  unfold stepX
  rw [if_pos h]
  rfl
theorem nums_right (a b : Int) : allR [numV a, numV b] = true := allR_iff.2 fun v hv => by
  simp at hv
  rcases hv with rfl | rfl <;> exact num_right _
theorem made_lit (ask : List Giv) (x : Int) (of : List Prt) : madeP ask (litN x) of = numP x := rfl
theorem made_two {ask : List Giv} {f a b : Int} (hf : f = 6 ∨ f = 7 ∨ f = 8 ∨ f = 9 ∨ f = 10) : madeP ask (opO f) [numP a, numP b] = ⟨[], (callTwo f (numV a) (numV b)).1, (callTwo f (numV a) (numV b)).2⟩ := by
  have hc : callV f [numV a, numV b] = callTwo f (numV a) (numV b) := call_ok (nums_right a b) (by omega) (by unfold needs; rw [if_neg (by omega)]; rfl)
  rw [← hc]
  rcases hf with rfl | rfl | rfl | rfl | rfl <;> rfl
theorem made_num {ask : List Giv} {f a b : Int} (hf : f = 8 ∨ f = 9 ∨ f = 10) (h : In64 (opF f a b)) : madeP ask (opO f) [numP a, numP b] = numP (opF f a b) := by
  rw [made_two (by omega)]
  have : callTwo f (numV a) (numV b) = (numV (opF f a b), 0) := by
    have e1 : callTwo f (numV a) (numV b) = reckV f (numV a) (numV b) := by
      unfold callTwo
      rw [if_neg (by omega), if_neg (by omega), if_neg (by omega)]
    rw [e1]
    unfold reckV
    rw [if_pos ⟨rfl, rfl⟩, show (numV a).n = a from rfl, show (numV b).n = b from rfl, fits_in h]
    rfl
  rw [this]
  rfl
theorem made_over {ask : List Giv} {a b : Int} (h : ¬ In64 (a * b)) : madeP ask (opO 10) [numP a, numP b] = ⟨[], noneV, 3⟩ := by
  rw [made_two (by omega)]
  have : callTwo 10 (numV a) (numV b) = (noneV, 3) := by
    show reckV 10 (numV a) (numV b) = _
    unfold reckV
    rw [if_pos ⟨rfl, rfl⟩, show opF 10 (numV a).n (numV b).n = a * b from rfl, fits_out h]
    rfl
  rw [this]
theorem made_same {ask : List Giv} {a : Int} : madeP ask (opO 6) [numP a, numP a] = ⟨[], truthV true, 0⟩ := by
  rw [made_two (by omega)]
  have : callTwo 6 (numV a) (numV a) = (truthV true, 0) := by
    show sameV (numV a) (numV a) = _
    unfold sameV
    rw [if_pos rfl, veq_true rfl]
  rw [this]
theorem step_lit (ask : List Giv) (x : Int) (st : List Prt) : stepP ask st (litN x) = st ++ [numP x] := by
  unfold stepP
  rw [show takesN (litN x).op = 0 from rfl, Nat.sub_zero, List.take_length, made_lit]
theorem step_two {ask : List Giv} {f : Int} (hf : takesN f = 2) (st : List Prt) (p q : Prt) : stepP ask (st ++ [p, q]) (opO f) = st ++ [madeP ask (opO f) [p, q]] := by
  unfold stepP
  rw [show (opO f).op = f from rfl, hf]
  have e : (st ++ [p, q]).length - 2 = st.length := by simp
  rw [e, List.take_left, List.drop_left]

theorem sums_expr1 (a b c : Int) : exprE [litN a, litN b, opO 10, litN c, opO 8] = 0 := by
  unfold exprE
  simp only [runX, lit_step, opO_step (show (10 : Int) ≠ 1 by decide) (show (10 : Int) ≠ 2 by decide), opO_step (show (8 : Int) ≠ 1 by decide) (show (8 : Int) ≠ 2 by decide)]
  rfl
theorem sums_expr2 (a b c p : Int) : exprE ([litN a, litN b, opO 10, litN c, opO 8] ++ [litN c, opO 9, litN p, opO 6]) = 0 := by
  unfold exprE
  simp only [List.cons_append, List.nil_append, runX, lit_step, opO_step (show (10 : Int) ≠ 1 by decide) (show (10 : Int) ≠ 2 by decide), opO_step (show (8 : Int) ≠ 1 by decide) (show (8 : Int) ≠ 2 by decide), opO_step (show (9 : Int) ≠ 1 by decide) (show (9 : Int) ≠ 2 by decide), opO_step (show (6 : Int) ≠ 1 by decide) (show (6 : Int) ≠ 2 by decide)]
  rfl
theorem sums_expr3 (a b : Int) : exprE [litN a, litN b, opO 10] = 0 := by
  unfold exprE
  simp only [runX, lit_step, opO_step (show (10 : Int) ≠ 1 by decide) (show (10 : Int) ≠ 2 by decide)]
  rfl
theorem sums_run1 {a b c : Int} (h1 : In64 (a * b)) (h2 : In64 (a * b + c)) : runP [] [litN a, litN b, opO 10, litN c, opO 8] [] = [numP (a * b + c)] := by
  have m1 : madeP [] (opO 10) [numP a, numP b] = numP (a * b) := made_num (.inr (.inr rfl)) h1
  have m2 : madeP [] (opO 8) [numP (a * b), numP c] = numP (a * b + c) := made_num (.inl rfl) h2
  simp only [runP_cons, runP_nil, step_lit, List.nil_append, List.cons_append]
  have s1 := step_two (ask := []) (f := 10) rfl [] (numP a) (numP b)
  have s2 := step_two (ask := []) (f := 8) rfl [] (numP (a * b)) (numP c)
  simp only [List.nil_append] at s1 s2
  rw [s1, m1]
  simp only [List.cons_append, List.nil_append]
  rw [s2, m2]
theorem sums_val1 {a b c : Int} (h1 : In64 (a * b)) (h2 : In64 (a * b + c)) : valP [] [litN a, litN b, opO 10, litN c, opO 8] = (⟨2, a * b + c, ⟨#[]⟩⟩, 0) :=
  val_of (sums_expr1 a b c) (by simp) (sums_run1 h1 h2)
theorem sums_val2 {a b c : Int} (h1 : In64 (a * b)) (h2 : In64 (a * b + c)) : valP [] ([litN a, litN b, opO 10, litN c, opO 8] ++ [litN c, opO 9, litN (a * b), opO 6]) = (⟨1, 1, ⟨#[]⟩⟩, 0) := by
  refine val_of (p := ⟨[], truthV true, 0⟩) (sums_expr2 a b c (a * b)) (by simp) ?_
  have m3 : madeP [] (opO 9) [numP (a * b + c), numP c] = numP (a * b) := by
    have e : opF 9 (a * b + c) c = a * b := by show a * b + c - c = a * b; omega
    have := made_num (ask := []) (f := 9) (a := a * b + c) (b := c) (.inr (.inl rfl)) (by rw [e]; exact h1)
    rwa [e] at this
  have m4 : madeP [] (opO 6) [numP (a * b), numP (a * b)] = ⟨[], truthV true, 0⟩ := made_same
  rw [runP_app, sums_run1 h1 h2]
  simp only [runP_cons, runP_nil, step_lit, List.nil_append, List.cons_append]
  have s3 := step_two (ask := []) (f := 9) rfl [] (numP (a * b + c)) (numP c)
  have s4 := step_two (ask := []) (f := 6) rfl [] (numP (a * b)) (numP (a * b))
  simp only [List.nil_append] at s3 s4
  rw [s3, m3]
  simp only [List.cons_append, List.nil_append]
  rw [s4, m4]
theorem sums_val3 {a b : Int} (h : ¬ In64 (a * b)) : valP [] [litN a, litN b, opO 10] = (⟨0, 0, ⟨#[]⟩⟩, 3) := by
  refine val_of (p := ⟨[], noneV, 3⟩) (sums_expr3 a b) (by simp) ?_
  simp only [runP_cons, runP_nil, step_lit, List.nil_append, List.cons_append]
  have s1 := step_two (ask := []) (f := 10) rfl [] (numP a) (numP b)
  simp only [List.nil_append] at s1
  rw [s1, made_over h]
theorem litN_ok {x : Int} (h : InI x) : (litN x).ok := ⟨ini1, ⟨ini2, h, (by decide : (⟨#[]⟩ : ByteArray).size ≤ maxLen)⟩, ⟨ini0, (by decide : (⟨#[]⟩ : ByteArray).size ≤ maxLen)⟩⟩
theorem opO_ok {f : Int} (h : InI f) : (opO f).ok := ⟨h, ⟨ini0, ini0, (by decide : (⟨#[]⟩ : ByteArray).size ≤ maxLen)⟩, ⟨ini0, (by decide : (⟨#[]⟩ : ByteArray).size ≤ maxLen)⟩⟩
theorem small_prod {a b : Int} (ha : -524288 ≤ a ∧ a ≤ 524288) (hb : -524288 ≤ b ∧ b ≤ 524288) : -274877906944 ≤ a * b ∧ a * b ≤ 274877906944 := by
  have h : (a * b).natAbs = a.natAbs * b.natAbs := Int.natAbs_mul a b
  have h3 : a.natAbs * b.natAbs ≤ 524288 * 524288 := Nat.mul_le_mul (by omega) (by omega)
  omega

set_option maxRecDepth 100000 in
set_option maxHeartbeats 6400000 in
theorem exprSums_walk (m0 : Int) (hm0 : (Lit.int .i64 m0).wf = true) (n0 : Int) (hn0 : (Lit.int .i64 n0).wf = true) (k0 : Int) (hk0 : (Lit.int .i64 k0).wf = true) (w : World) :
    Calls Try.prog 8 #[.int .i64 m0, .int .i64 n0, .int .i64 k0] w fun e w' => e = .returned (.bool true) ∧ Below w.heap.size w w' := by
  clear hm0 hn0 hk0
  have k1 := Lib.hid (fun w => within_any (n := m0) (lo := 0) (hi := 1048576) (w := w) (by omega) (by omega) (by omega))
  have k2 := Lib.hid (fun w => within_any (n := n0) (lo := 0) (hi := 1048576) (w := w) (by omega) (by omega) (by omega))
  have k3 := Lib.hid (fun w => within_any (n := k0) (lo := 0) (hi := 1048576) (w := w) (by omega) (by omega) (by omega))
  have k4 := Lib.hid (fun w => within_any (n := m0) (lo := 0) (hi := 99) (w := w) (by omega) (by omega) (by omega))
  have l1 := within_le (n := m0) (lo := 0) (hi := 1048576) (by omega)
  have l2 := within_le (n := n0) (lo := 0) (hi := 1048576) (by omega)
  have l3 := within_le (n := k0) (lo := 0) (hi := 1048576) (by omega)
  have l4 := within_le (n := m0) (lo := 0) (hi := 99) (by omega)
  generalize withinOf m0 0 1048576 = u1 at *
  generalize withinOf n0 0 1048576 = u2 at *
  generalize withinOf k0 0 1048576 = u3 at *
  generalize withinOf m0 0 99 = u4 at *
  obtain ⟨a, ha⟩ : ∃ a, u1 - 524288 = a := ⟨_, rfl⟩
  obtain ⟨b, hb⟩ : ∃ b, u2 - 524288 = b := ⟨_, rfl⟩
  obtain ⟨c, hc⟩ : ∃ c, u3 - 524288 = c := ⟨_, rfl⟩
  obtain ⟨k, hk⟩ : ∃ k, 2 + u4 = k := ⟨_, rfl⟩
  have wa : IntKind.i64.wrap (u1 - 524288) = a := by rw [ha]; exact wrap_in (by unfold In64; omega)
  have wb : IntKind.i64.wrap (u2 - 524288) = b := by rw [hb]; exact wrap_in (by unfold In64; omega)
  have wc : IntKind.i64.wrap (u3 - 524288) = c := by rw [hc]; exact wrap_in (by unfold In64; omega)
  have wk : IntKind.i64.wrap (2 + u4) = k := by rw [hk]; exact wrap_in (by unfold In64; omega)
  have hp := small_prod (a := a) (b := b) (by omega) (by omega)
  have v1 := Lib.hid (sums_val1 (a := a) (b := b) (c := c) (by unfold In64; omega) (by unfold In64; omega))
  have v2 := Lib.hid (sums_val2 (a := a) (b := b) (c := c) (by unfold In64; omega) (by unfold In64; omega))
  have v3 := Lib.hid (sums_val3 (a := 4611686018427387904) (b := k) (by unfold In64; omega))
  have okL : Hid ((InI a ∧ InI b) ∧ InI c ∧ InI (a * b) ∧ InI k) := ⟨⟨by unfold InI; omega, by unfold InI; omega⟩, by unfold InI; omega, by unfold InI; omega, by unfold InI; omega⟩
  obtain ⟨p, hpp⟩ : ∃ p, a * b = p := ⟨_, rfl⟩
  have wp : IntKind.i64.wrap (a * b) = p := by rw [hpp]; exact wrap_in (by unfold In64; omega)
  rw [hpp] at v1 v2 okL hp
  obtain ⟨q, hq⟩ : ∃ q, p + c = q := ⟨_, rfl⟩
  have wq : IntKind.i64.wrap (p + c) = q := by rw [hq]; exact wrap_in (by unfold In64; omega)
  rw [hq] at v1
  have ok1 : Hid (∀ x ∈ [litN a, litN b, opO 10, litN c, opO 8], x.ok) := by
    show ∀ x ∈ _, _
    intro x hx
    have := okL.out
    simp at hx
    rcases hx with rfl | rfl | rfl | rfl | rfl
    all_goals first | exact litN_ok this.1.1 | exact litN_ok this.1.2 | exact litN_ok this.2.1 | exact litN_ok this.2.2.1 | exact litN_ok this.2.2.2 | exact opO_ok (by decide)
  have ok2 : Hid (∀ x ∈ [litN c, opO 9, litN p, opO 6], x.ok) := by
    show ∀ x ∈ _, _
    intro x hx
    have := okL.out
    simp at hx
    rcases hx with rfl | rfl | rfl | rfl
    all_goals first | exact litN_ok this.1.1 | exact litN_ok this.1.2 | exact litN_ok this.2.1 | exact litN_ok this.2.2.1 | exact litN_ok this.2.2.2 | exact opO_ok (by decide)
  have ok3 : Hid (∀ x ∈ [litN 4611686018427387904, litN k, opO 10], x.ok) := by
    show ∀ x ∈ _, _
    intro x hx
    have := okL.out
    simp at hx
    rcases hx with rfl | rfl | rfl
    all_goals first | exact litN_ok this.2.2.2 | exact litN_ok (by decide) | exact opO_ok (by decide)
  have wa := wa
  clear hp ha hb hc hk hpp hq l1 l2 l3 l4
  go_enter Try.func8, Try.ntmps8
  go_wp2_with fail
  refine (k1.out _).mono ?_
  rintro e w' ⟨rfl, rfl⟩
  go_wp2_with fail
  refine (k2.out _).mono ?_
  rintro e w' ⟨rfl, rfl⟩
  go_wp2_with fail
  refine (k3.out _).mono ?_
  rintro e w' ⟨rfl, rfl⟩
  go_wp2_with fail
  refine (lnum_any a _).mono ?_
  rintro e x1 ⟨rfl, hb⟩
  have B := Lib.hid (hb)
  clear hb
  go_wp2_with fail
  refine (llit_any 2 a ⟨#[]⟩ _).mono ?_
  rintro e x2 ⟨rfl, hb⟩
  have B := Lib.hid (below_step B.out hb)
  clear hb
  go_wp2_with fail
  refine (lnum_any b _).mono ?_
  rintro e x3 ⟨rfl, hb⟩
  have B := Lib.hid (below_step B.out hb)
  clear hb
  go_wp2_with fail
  refine (llit_any 2 b ⟨#[]⟩ _).mono ?_
  rintro e x4 ⟨rfl, hb⟩
  have B := Lib.hid (below_step B.out hb)
  clear hb
  go_wp2_with fail
  refine (lop_any 10 _).mono ?_
  rintro e x5 ⟨rfl, hb⟩
  have B := Lib.hid (below_step B.out hb)
  clear hb
  go_wp2_with fail
  refine (lnum_any c _).mono ?_
  rintro e x6 ⟨rfl, hb⟩
  have B := Lib.hid (below_step B.out hb)
  clear hb
  go_wp2_with fail
  refine (llit_any 2 c ⟨#[]⟩ _).mono ?_
  rintro e x7 ⟨rfl, hb⟩
  have B := Lib.hid (below_step B.out hb)
  clear hb
  go_wp2_with fail
  refine (lop_any 8 _).mono ?_
  rintro e x8 ⟨rfl, hb⟩
  have B := Lib.hid (below_step B.out hb)
  clear hb
  have X : Hid (Nds (x8.alloc (.cells #[.int .i64 1, .int .i64 2, .int .i64 a, .string ⟨#[]⟩, .int .i64 0, .string ⟨#[]⟩, .bool false, .int .i64 1, .int .i64 2, .int .i64 b, .string ⟨#[]⟩, .int .i64 0, .string ⟨#[]⟩, .bool false, .int .i64 10, .int .i64 0, .int .i64 0, .string ⟨#[]⟩, .int .i64 0, .string ⟨#[]⟩, .bool false, .int .i64 1, .int .i64 2, .int .i64 c, .string ⟨#[]⟩, .int .i64 0, .string ⟨#[]⟩, .bool false, .int .i64 8, .int .i64 0, .int .i64 0, .string ⟨#[]⟩, .int .i64 0, .string ⟨#[]⟩, .bool false] 51)) (fun _ => True) (some ⟨x8.heap.size, 0, none⟩) 5 5 [litN a, litN b, opO 10, litN c, opO 8]) := nds_lit x8 [litN a, litN b, opO 10, litN c, opO 8] (by simp) ok1.out
  go_wp2_with fail
  refine (eval_is v1.out (X.out.up (Below.refl ((x8.alloc (.cells #[.int .i64 1, .int .i64 2, .int .i64 a, .string ⟨#[]⟩, .int .i64 0, .string ⟨#[]⟩, .bool false, .int .i64 1, .int .i64 2, .int .i64 b, .string ⟨#[]⟩, .int .i64 0, .string ⟨#[]⟩, .bool false, .int .i64 10, .int .i64 0, .int .i64 0, .string ⟨#[]⟩, .int .i64 0, .string ⟨#[]⟩, .bool false, .int .i64 1, .int .i64 2, .int .i64 c, .string ⟨#[]⟩, .int .i64 0, .string ⟨#[]⟩, .bool false, .int .i64 8, .int .i64 0, .int .i64 0, .string ⟨#[]⟩, .int .i64 0, .string ⟨#[]⟩, .bool false] 51))).heap.size (x8.alloc (.cells #[.int .i64 1, .int .i64 2, .int .i64 a, .string ⟨#[]⟩, .int .i64 0, .string ⟨#[]⟩, .bool false, .int .i64 1, .int .i64 2, .int .i64 b, .string ⟨#[]⟩, .int .i64 0, .string ⟨#[]⟩, .bool false, .int .i64 10, .int .i64 0, .int .i64 0, .string ⟨#[]⟩, .int .i64 0, .string ⟨#[]⟩, .bool false, .int .i64 1, .int .i64 2, .int .i64 c, .string ⟨#[]⟩, .int .i64 0, .string ⟨#[]⟩, .bool false, .int .i64 8, .int .i64 0, .int .i64 0, .string ⟨#[]⟩, .int .i64 0, .string ⟨#[]⟩, .bool false] 51)))) (gvs_nil _) short_nil).mono ?_
  rintro e x9 ⟨rfl, hb⟩
  have B := Lib.hid (below_step B.out (Below.lit hb))
  have KX := Lib.hid (hb)
  clear hb
  have RA := Lib.hid (Bx.made x9 2 q ⟨#[]⟩)
  have SB := Lib.hid ((below_al (o := (.cells #[.int .i64 2, .int .i64 q, .string ⟨#[]⟩] 42)) B.out)).size
  have SX := Lib.hid ((below_al (o := (.cells #[.int .i64 2, .int .i64 q, .string ⟨#[]⟩] 42)) KX.out)).size
  have SA := Lib.hid ((Below.refl ((x9.alloc (.cells #[.int .i64 2, .int .i64 q, .string ⟨#[]⟩] 42))).heap.size (x9.alloc (.cells #[.int .i64 2, .int .i64 q, .string ⟨#[]⟩] 42)))).size
  obtain ⟨A5, c5, x10, r, hb, o5⟩ := nds_copy (X.out.up (below_al (o := (.cells #[.int .i64 2, .int .i64 q, .string ⟨#[]⟩] 42)) KX.out)) (by decide)
  have RR46 := Lib.hid ((by rw [size_al] at r; exact r))
  have O5 := Lib.hid (o5)
  have S5 := Lib.hid (hb.size)
  have B := Lib.hid (below_step B.out (Below.lit hb))
  have KX := Lib.hid (below_step KX.out (Below.lit hb))
  have KA := Lib.hid (hb)
  clear hb r
  clear o5
  go_wp2_with (at_builtin; refine wpList_append_run (o := ⟨some 46, _, _, _, _, _⟩) rfl _ _ _ _ rfl rfl rfl RR46.out ?_)
  refine (lnum_any c _).mono ?_
  rintro e x11 ⟨rfl, hb⟩
  have B := Lib.hid (below_step B.out hb)
  have KX := Lib.hid (below_step KX.out hb)
  have KA := Lib.hid (below_step KA.out hb)
  have K6 := Lib.hid (hb)
  clear hb
  go_wp2_with fail
  refine (llit_any 2 c ⟨#[]⟩ _).mono ?_
  rintro e x12 ⟨rfl, hb⟩
  have B := Lib.hid (below_step B.out hb)
  have KX := Lib.hid (below_step KX.out hb)
  have KA := Lib.hid (below_step KA.out hb)
  have K6 := Lib.hid (below_step K6.out hb)
  clear hb
  go_wp2_with fail
  refine (lop_any 9 _).mono ?_
  rintro e x13 ⟨rfl, hb⟩
  have B := Lib.hid (below_step B.out hb)
  have KX := Lib.hid (below_step KX.out hb)
  have KA := Lib.hid (below_step KA.out hb)
  have K6 := Lib.hid (below_step K6.out hb)
  clear hb
  go_wp2_with fail
  refine (lnum_any p _).mono ?_
  rintro e x14 ⟨rfl, hb⟩
  have B := Lib.hid (below_step B.out hb)
  have KX := Lib.hid (below_step KX.out hb)
  have KA := Lib.hid (below_step KA.out hb)
  have K6 := Lib.hid (below_step K6.out hb)
  clear hb
  go_wp2_with fail
  refine (llit_any 2 p ⟨#[]⟩ _).mono ?_
  rintro e x15 ⟨rfl, hb⟩
  have B := Lib.hid (below_step B.out hb)
  have KX := Lib.hid (below_step KX.out hb)
  have KA := Lib.hid (below_step KA.out hb)
  have K6 := Lib.hid (below_step K6.out hb)
  clear hb
  go_wp2_with fail
  refine (lop_any 6 _).mono ?_
  rintro e x16 ⟨rfl, hb⟩
  have B := Lib.hid (below_step B.out hb)
  have KX := Lib.hid (below_step KX.out hb)
  have KA := Lib.hid (below_step KA.out hb)
  have K6 := Lib.hid (below_step K6.out hb)
  clear hb
  obtain ⟨A6, c6, x17, r, hb, n6⟩ := nds_more (w := x16) O5.out S5.out K6.out rfl ok1.out [litN c, opO 9, litN p, opO 6] ok2.out (by simp)
  have RR58 := Lib.hid (r)
  have N6 := Lib.hid (n6)
  have B := Lib.hid (B.out.trans (hb.mono SB.out))
  have KX := Lib.hid (KX.out.trans (hb.mono SX.out))
  have KA := Lib.hid (KA.out.trans (hb.mono SA.out))
  clear hb r
  clear n6
  go_wp2_with (at_builtin; refine wpList_append_run (o := ⟨some 58, _, _, _, _, _⟩) rfl _ _ _ _ rfl rfl rfl RR58.out ?_)
  refine (eval_is v2.out N6.out (gvs_nil _) short_nil).mono ?_
  rintro e x18 ⟨rfl, hb⟩
  have B := Lib.hid (below_step B.out hb)
  have KX := Lib.hid (below_step KX.out hb)
  have KA := Lib.hid (below_step KA.out hb)
  clear hb
  have RB := Lib.hid (Bx.made x18 1 1 ⟨#[]⟩)
  go_wp2_with fail
  refine (lnum_any 4611686018427387904 _).mono ?_
  rintro e x19 ⟨rfl, hb⟩
  have B := Lib.hid (below_step B.out (Below.lit hb))
  have KX := Lib.hid (below_step KX.out (Below.lit hb))
  have KA := Lib.hid (below_step KA.out (Below.lit hb))
  have KB := Lib.hid (hb)
  clear hb
  go_wp2_with fail
  refine (llit_any 2 4611686018427387904 ⟨#[]⟩ _).mono ?_
  rintro e x20 ⟨rfl, hb⟩
  have B := Lib.hid (below_step B.out hb)
  have KX := Lib.hid (below_step KX.out hb)
  have KA := Lib.hid (below_step KA.out hb)
  have KB := Lib.hid (below_step KB.out hb)
  clear hb
  go_wp2_with fail
  refine (k4.out _).mono ?_
  rintro e w' ⟨rfl, rfl⟩
  go_wp2_with fail
  refine (lnum_any k _).mono ?_
  rintro e x21 ⟨rfl, hb⟩
  have B := Lib.hid (below_step B.out hb)
  have KX := Lib.hid (below_step KX.out hb)
  have KA := Lib.hid (below_step KA.out hb)
  have KB := Lib.hid (below_step KB.out hb)
  clear hb
  go_wp2_with fail
  refine (llit_any 2 k ⟨#[]⟩ _).mono ?_
  rintro e x22 ⟨rfl, hb⟩
  have B := Lib.hid (below_step B.out hb)
  have KX := Lib.hid (below_step KX.out hb)
  have KA := Lib.hid (below_step KA.out hb)
  have KB := Lib.hid (below_step KB.out hb)
  clear hb
  go_wp2_with fail
  refine (lop_any 10 _).mono ?_
  rintro e x23 ⟨rfl, hb⟩
  have B := Lib.hid (below_step B.out hb)
  have KX := Lib.hid (below_step KX.out hb)
  have KA := Lib.hid (below_step KA.out hb)
  have KB := Lib.hid (below_step KB.out hb)
  clear hb
  go_wp2_with fail
  refine (eval_is v3.out (nds_lit x23 [litN 4611686018427387904, litN k, opO 10] (by simp) ok3.out) (gvs_nil _) short_nil).mono ?_
  rintro e x24 ⟨rfl, hb⟩
  have B := Lib.hid (below_step B.out (Below.lit hb))
  have KX := Lib.hid (below_step KX.out (Below.lit hb))
  have KA := Lib.hid (below_step KA.out (Below.lit hb))
  have KB := Lib.hid (below_step KB.out (Below.lit hb))
  clear hb
  have RA := Lib.hid (RA.out.then_ (below_al (o := (.cells #[.int .i64 0, .int .i64 0, .string ⟨#[]⟩] 42)) KA.out))
  have RB := Lib.hid (RB.out.then_ (below_al (o := (.cells #[.int .i64 0, .int .i64 0, .string ⟨#[]⟩] 42)) KB.out))
  have BB := Lib.hid ((below_al (o := (.cells #[.int .i64 0, .int .i64 0, .string ⟨#[]⟩] 42)) B.out))
  go_upto_region 6 with fail
  generalize hWZ : (x24.alloc (.cells #[.int .i64 0, .int .i64 0, .string ⟨#[]⟩] 42)) = WZ at *
  clear hWZ
  obtain ⟨x00, x01, x02⟩ := RA.out.grown
  obtain ⟨x10, x11, x12⟩ := RB.out.grown
  have Q0 := Lib.hid (fun d os => Calls.regrown_of (w := WZ) (d := d) (os := os) (lnum_any q _))
  have Q1 := Lib.hid (fun d os => Calls.regrown_of (w := WZ) (d := d) (os := os) (ltruth_t _))
  have Q2 := Lib.hid (fun d os => Calls.regrown_of (w := WZ) (d := d) (os := os) (eruns_any _))
  have e0 := fun W => (val_eq 2 q 2 q ⟨#[]⟩ ⟨#[]⟩ W).trans (by rw [veq_true rfl])
  have e1 := fun W => (val_eq 1 1 1 1 ⟨#[]⟩ ⟨#[]⟩ W).trans (by rw [veq_true rfl])
  refine wp_region_quiet_below (by kernel_rfl) (by kernel_rfl) ?_
  repeat (go_big_quiet_step (first | (go_at_call 30; with_reducible exact Q0.out _ _) | (go_at_call 32; with_reducible exact Q1.out _ _) | (go_at_call 5; with_reducible exact Q2.out _ _)))
  refine wpQuiet_nil ?_
  intro _ hw'
  obtain ⟨⟨dq, osq⟩, hw''⟩ := hw'
  subst hw''
  go_wp2_with fail
  go_ret
  exact ⟨rfl, below_step BB.out (below_regrown WZ dq osq)⟩
end Go.Proofs.Ytmpldpfgnakbkaa
