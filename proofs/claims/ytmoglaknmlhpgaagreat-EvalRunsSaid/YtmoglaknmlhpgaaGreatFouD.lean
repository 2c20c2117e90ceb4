/- Several texts in one: ExprMade, ExprOk, HTail, ExprVal, ExprCond, MarkIndets, EvalRule, CombAll, EvalParts, OperApp, EvalDec, EvalPol, LexMath, ParMath, Parse1, Parse2, Parse3. -/
import Derived.Test.YtmoglaknmlhpgaaGreatFouC
import Derived.StillTail
import Derived.OrdersHeld
import Derived.RegionTactic
import Derived.Test.YtmoglaknmlhpgaaGreatFouA
import Derived.Deep.CutRange
import Derived.Test.YtmoglaknmlhpgaaGreatFouB
import Derived.Laws.ResultCell
import Derived.StillTailTactics
/- made: what a node makes of what stands ahead. -/
namespace Go.Proofs.YtmoglaknmlhpgaaGreat
set_option linter.unusedVariables false
open Go.RowKit Go.Sort

/-- What comes back: the part's cells; its bag lies in new memory. -/
def MadeTo (w : World) (p : Prt) (e : Ending) (w' : World) : Prop := ∃ A n c, e = .returned (.agg #[.slice A n c, .int .i64 p.v.k, .int .i64 p.v.n, .string p.v.s, .int .i64 p.e]) ∧ Below w.heap.size w w' ∧ Vls w' (fun b => w.heap.size ≤ b) A n c p.bag
theorem MadeTo.nobag {w w' : World} {p : Prt} {k n e : Int} {s : ByteArray} (h : p = ⟨[], ⟨k, n, s⟩, e⟩) (hb : Below w.heap.size w w') : MadeTo w p (.returned (.agg #[.slice none 0 0, .int .i64 k, .int .i64 n, .string s, .int .i64 e])) w' := by
  subst h
  exact ⟨none, 0, 0, rfl, hb, Rw.nil_ _ _ _ _⟩
theorem made_1 {ask : List Giv} {n : Nod} {of : List Prt} (h : n.op = 1) : madeP ask n of = ⟨[], n.v, 0⟩ := if_pos h
theorem made_2 {ask : List Giv} {n : Nod} {of : List Prt} (h : n.op = 2) : madeP ask n of = ⟨getR ask n.a, noneV, getE ask n.a⟩ := by unfold madeP; rw [if_neg (by omega), if_pos h]
theorem made_dec {ask : List Giv} {n : Nod} {of : List Prt} (h1 : n.op ≠ 1) (h2 : n.op ≠ 2) (h : decB n.op of = true) : madeP ask n of = ⟨[], decV n.op, 0⟩ := by unfold madeP; rw [if_neg h1, if_neg h2, if_pos h]; rfl
theorem made_err {ask : List Giv} {n : Nod} {of : List Prt} (h1 : n.op ≠ 1) (h2 : n.op ≠ 2) (h : decB n.op of = false) (he : errL of ≠ 0) : madeP ask n of = ⟨[], noneV, errL of⟩ := by unfold madeP; rw [if_neg h1, if_neg h2, if_neg (by simp [h]), if_pos he]
theorem made_reck {ask : List Giv} {n : Nod} {of : List Prt} (h1 : n.op ≠ 1) (h2 : n.op ≠ 2) (h : decB n.op of = false) (he : errL of = 0) : madeP ask n of = ⟨[], (reckP n.op of).1, (reckP n.op of).2⟩ := by unfold madeP; rw [if_neg h1, if_neg h2, if_neg (by simp [h]), if_neg (by simp [he])]
/-- The box of the node and that of what comes back. -/
def W0 (w : World) (n : Nod) : World := (w.alloc (.cells #[.int .i64 n.op, .int .i64 n.v.k, .int .i64 n.v.n, .string n.v.s, .int .i64 n.a.cat, .string n.a.name, .bool n.a.must] 58)).alloc (.cells #[.slice none 0 0, .int .i64 0, .int .i64 0, .string ⟨#[]⟩, .int .i64 0] 148)
theorem W0.below (w : World) (n : Nod) : Below w.heap.size w (W0 w n) := below2 _ _ _
theorem W0.part (w : World) (n : Nod) : Ob (W0 w n) (w.heap.size + 1) 148 #[.slice none 0 0, .int .i64 0, .int .i64 0, .string ⟨#[]⟩, .int .i64 0] := by
  have := Ob.made (w.alloc (.cells #[.int .i64 n.op, .int .i64 n.v.k, .int .i64 n.v.n, .string n.v.s, .int .i64 n.a.cat, .string n.a.name, .bool n.a.must] 58)) 148 #[.slice none 0 0, .int .i64 0, .int .i64 0, .string ⟨#[]⟩, .int .i64 0]
  rwa [size_al] at this
theorem W0.node (w : World) (n : Nod) : Ob (W0 w n) w.heap.size 58 #[.int .i64 n.op, .int .i64 n.v.k, .int .i64 n.v.n, .string n.v.s, .int .i64 n.a.cat, .string n.a.name, .bool n.a.must] :=
  (Ob.made w _ _).keep (Below.heap_alloc _ _ _ (by rw [size_al]; omega))
theorem W0.size (w : World) (n : Nod) : (W0 w n).heap.size = w.heap.size + 2 := by unfold W0; rw [size_al, size_al]
set_option maxRecDepth 100000 in
set_option maxHeartbeats 3200000 in
theorem emade_1 (ask : List Giv) (n : Nod) (h1 : n.op = 1) (hs : n.v.s.size ≤ 1000000) (of : List Prt) (A : Option Addr) (m c : Nat) (A2 : Option Addr) (n2 c2 : Nat) (w : World) :
    Calls Tryz.prog 81 #[n.val, .slice A m c, .slice A2 n2 c2] w (MadeTo w (madeP ask n of)) := by
  have HL := Lib.hid (fun W => eliteral_any n.v hs W)
  have HM := Lib.hid (made_1 (ask := ask) (of := of) h1)
  have HB := Lib.hid (W0.below w n)
  have HP := Lib.hid (W0.part w n)
  have HZ := Lib.hid (W0.size w n)
  generalize madeP ask n of = pp at *
  obtain ⟨op, ⟨k, nn, s⟩, ⟨ac, an, am⟩⟩ := n
  simp only at h1 HL HM HP
  subst h1
  unfold Nod.val
  go_enter Tryz.func81, Tryz.ntmps81
  go_wp2_with (go_at_call 105; refine (HL.out _).mono ?_; rintro e w1 ⟨rfl, hb1⟩
               have O1 := Lib.hid (HP.out.below hb1 (by rw [size_al, size_al]; omega))
               have D1 := Lib.hid (below_step HB.out hb1)
               have o0 := O1.out.cell
               have g0 := O1.out.frozen
               clear hb1)
  try simp only [Exit.inBlock, Exit.then]
  refine bodyPost_ret (part_ret rfl rfl (ob_put5 O1.out _ _ _ _ _)) rfl ?_
  exact MadeTo.nobag HM.out (below_put5 D1.out (by omega) _ _ _ _ _)
set_option maxRecDepth 100000 in
set_option maxHeartbeats 3200000 in
theorem emade_2 {ask : List Giv} (n : Nod) (h2 : n.op = 2) (of : List Prt) (A : Option Addr) (m c : Nat) {A2 : Option Addr} {n2 c2 : Nat} {R2 : Nat → Prop} (w : World) (hA : Gvs w R2 A2 n2 c2 ask) (hs : ShortG ask) :
    Calls Tryz.prog 81 #[n.val, .slice A m c, .slice A2 n2 c2] w (MadeTo w (madeP ask n of)) := by
  have HG := Lib.hid (fun W (hW : Below w.heap.size w W) => aget_any n.a (hA.keep (Kept.all hW R2) (fun _ h _ => h)) hs)
  have HM := Lib.hid (made_2 (ask := ask) (of := of) h2)
  have HB := Lib.hid (W0.below w n)
  have HP := Lib.hid (W0.part w n)
  have HZ := Lib.hid (W0.size w n)
  clear hA hs
  generalize madeP ask n of = pp at *
  obtain ⟨op, ⟨k, nn, s⟩, ⟨ac, an, am⟩⟩ := n
  simp only at h2 HG HM HP
  subst h2
  unfold Nod.val
  generalize getR ask ⟨ac, an, am⟩ = rr at *
  generalize getE ask ⟨ac, an, am⟩ = ee at *
  go_enter Tryz.func81, Tryz.ntmps81
  go_wp2_with (go_at_call 106; refine (HG.out _ HB.out).mono ?_; rintro e w1 ⟨A3, n3, c3, rfl, hb1, hv1⟩
               have O1 := Lib.hid (HP.out.below hb1 (by rw [HZ.out]; omega))
               have D1 := Lib.hid (below_step HB.out hb1)
               have V1 := Lib.hid hv1
               have Z1 := Lib.hid hb1.size
               have o0 := O1.out.cell
               have g0 := O1.out.frozen
               clear hb1 hv1)
  try simp only [Exit.inBlock, Exit.then]
  refine bodyPost_ret (part_ret rfl rfl (ob_put5 O1.out _ _ _ _ _)) rfl ?_
  have hm := HM.out
  subst hm
  refine ⟨A3, n3, c3, rfl, below_put5 D1.out (by omega) _ _ _ _ _, ?_⟩
  have hz := HZ.out
  refine V1.out.keep ⟨by simp [World.setCell], fun b hb _ => ?_⟩ (fun b hb _ => ?_)
  · have hb' : (W0 w _).heap.size ≤ b := hb
    rw [hz] at hb'
    rw [Below.heap_setCell _ _ _ _ (by show b ≠ w.heap.size + 1; omega), Below.heap_setCell _ _ _ _ (by show b ≠ w.heap.size + 1; omega), Below.heap_setCell _ _ _ _ (by show b ≠ w.heap.size + 1; omega), Below.heap_setCell _ _ _ _ (by show b ≠ w.heap.size + 1; omega), Below.heap_setCell _ _ _ _ (by show b ≠ w.heap.size + 1; omega)]
  · have hb' : (W0 w _).heap.size ≤ b := hb
    rw [hz] at hb'
    show w.heap.size ≤ b
    omega
theorem decB_no {op : Int} {of : List Prt} (h1 : op ≠ 12) (h2 : op ≠ 13) : decB op of = false := by
  unfold decB
  split
  · simp [h1, h2]
  · rfl
theorem two_prt {l : List Prt} (h : l.length = 2) : ∃ a b, l = [a, b] := by
  match l, h with
  | [a, b], _ => exact ⟨a, b, rfl⟩
/-- decided, of what stands ahead. -/
theorem edec_any {op : Int} {w : World} {R : Nat → Prop} {A : Option Addr} {m c : Nat} {of : List Prt} (h : Prts w R A m c of) (hm : m = takesN op) :
    Calls Tryz.prog 107 #[.int .i64 op, .slice A m c] w fun e w' => e = .returned (.tuple #[.agg #[.int .i64 (if decB op of = true then 1 else 0), .int .i64 (if decB op of = true then truthN (decide (op = 13)) else 0), .string ⟨#[]⟩], .bool (decB op of)]) ∧ Below w.heap.size w w' := by
  by_cases h12 : op = 12 ∨ op = 13
  · obtain rfl : m = 2 := by rcases h12 with rfl | rfl <;> exact hm
    obtain ⟨p, q, rfl⟩ := two_prt (Rw.len h)
    exact edecided_two h12 h
  · have e1 : op ≠ 12 := fun e => h12 (.inl e)
    have e2 : op ≠ 13 := fun e => h12 (.inr e)
    have := edecided_no e1 e2 A m c w
    rw [decB_no e1 e2]
    exact this
theorem ereck {op : Int} {w : World} {R : Nat → Prop} {A : Option Addr} {m c : Nat} {of : List Prt} (h : Prts w R A m c of) (hm : m = takesN op) (h1 : op ≠ 1) (h2 : op ≠ 2) :
    Calls Tryz.prog 108 #[.int .i64 op, .slice A m c] w fun e w' => e = .returned (.tuple #[(reckP op of).1.val, .int .i64 (reckP op of).2]) ∧ Below w.heap.size w w' := by
  by_cases h3 : op = 3
  · subst h3; exact ereck_3 h (by rw [hm]; decide)
  by_cases h4 : op = 4
  · subst h4; exact ereck_4 h (by rw [hm]; decide)
  by_cases h5 : op = 5
  · subst h5; exact ereck_5 h (by rw [hm]; decide)
  refine ereck_any h3 h4 h5 h ?_
  rw [hm]
  unfold takesN
  repeat' split
  all_goals omega
theorem errL_take {of : List Prt} : ∀ {k : Nat} {p : Prt}, errL (of.take k) = 0 → of[k]? = some p → errL (of.take (k + 1)) = p.e := by
  induction of with
  | nil => intro k p _ h; simp at h
  | cons x r ih =>
    intro k p h0 hx
    cases k with
    | zero =>
      simp at hx
      subst hx
      simp [errL]
      intro e
      exact e.symm
    | succ k =>
      simp only [List.take_succ_cons, errL] at h0 ⊢
      by_cases he : x.e = 0
      · simp only [he, ne_eq, not_true, if_false] at h0 ⊢
        exact ih h0 (by simpa using hx)
      · simp only [ne_eq, he, not_false_eq_true, if_true] at h0
theorem errL_hit {of : List Prt} : ∀ {k : Nat} {p : Prt}, errL (of.take k) = 0 → of[k]? = some p → p.e ≠ 0 → errL of = p.e := by
  induction of with
  | nil => intro k p _ h; simp at h
  | cons x r ih =>
    intro k p h0 hx hne
    cases k with
    | zero =>
      simp at hx
      subst hx
      simp [errL, hne]
    | succ k =>
      simp only [List.take_succ_cons, errL] at h0 ⊢
      by_cases he : x.e = 0
      · simp only [he, ne_eq, not_true, if_false] at h0 ⊢
        exact ih h0 (by simpa using hx) hne
      · simp only [ne_eq, he, not_false_eq_true, if_true] at h0
set_option maxRecDepth 100000 in
set_option maxHeartbeats 3200000 in
theorem emade_dec {ask : List Giv} (n : Nod) (h1 : n.op ≠ 1) (h2 : n.op ≠ 2) {of : List Prt} {R : Nat → Prop} {A : Option Addr} {m c : Nat} (A2 : Option Addr) (n2 c2 : Nat) (w : World) (h : Prts w R A m c of) (hm : m = takesN n.op) (hd : decB n.op of = true) :
    Calls Tryz.prog 81 #[n.val, .slice A m c, .slice A2 n2 c2] w (MadeTo w (madeP ask n of)) := by
  have HB := Lib.hid (W0.below w n)
  have HP := Lib.hid (W0.part w n)
  have HZ := Lib.hid (W0.size w n)
  have HDC := Lib.hid (edec_any (h.up HB.out) hm)
  rw [hd] at HDC
  simp only [if_true] at HDC
  have HM := Lib.hid (made_dec (ask := ask) h1 h2 hd)
  clear h hm hd
  generalize madeP ask n of = pp at *
  obtain ⟨op, ⟨k, nn, s⟩, ⟨ac, an, am⟩⟩ := n
  simp only at h1 h2 HM HP HDC
  have b1 : (op == 1) = false := by rw [beq_eq_false_iff_ne]; exact h1
  have b2 : (op == 2) = false := by rw [beq_eq_false_iff_ne]; exact h2
  clear h1 h2
  have HMM : Hid (pp = ⟨[], ⟨1, truthN (decide (op = 13)), ⟨#[]⟩⟩, 0⟩) := HM
  generalize truthN (decide (op = 13)) = tn at *
  unfold Nod.val
  go_enter Tryz.func81, Tryz.ntmps81
  go_wp2_with (go_at_call 107; refine HDC.out.mono ?_; rintro e w1 ⟨rfl, hb1⟩
               have O1 := Lib.hid ((HP.out.below hb1 (by rw [HZ.out]; omega)).keep (w' := w1.alloc (.cells #[.int .i64 1, .int .i64 tn, .string ⟨#[]⟩] 40)) (Below.heap_alloc _ _ _ (by have := hb1.size; have := HZ.out; omega)))
               have D1 := Lib.hid ((below_step HB.out hb1).alloc (below_step HB.out hb1).size (.cells #[.int .i64 1, .int .i64 tn, .string ⟨#[]⟩] 40))
               have o0 := O1.out.cell
               have g0 := O1.out.frozen
               have k0 := (Bx.made w1 1 tn ⟨#[]⟩).c3
               clear hb1)
  try simp only [Exit.inBlock, Exit.then]
  refine bodyPost_ret (part_ret rfl rfl (ob_put5 O1.out _ _ _ _ _)) rfl ?_
  exact MadeTo.nobag HMM.out (below_put5 D1.out (by omega) _ _ _ _ _)
set_option maxRecDepth 100000 in
set_option maxHeartbeats 3200000 in
theorem emade_rest {ask : List Giv} (n : Nod) (h1 : n.op ≠ 1) (h2 : n.op ≠ 2) {of : List Prt} {R : Nat → Prop} {A : Option Addr} {m c : Nat} (A2 : Option Addr) (n2 c2 : Nat) (w : World) (h : Prts w R A m c of) (hm : m = takesN n.op) (hd : decB n.op of = false) :
    Calls Tryz.prog 81 #[n.val, .slice A m c, .slice A2 n2 c2] w (MadeTo w (madeP ask n of)) := by
  have HB := Lib.hid (W0.below w n)
  have HP := Lib.hid (W0.part w n)
  have HN := Lib.hid (W0.node w n)
  have HZ := Lib.hid (W0.size w n)
  have HDC := Lib.hid (edec_any (h.up HB.out) hm)
  rw [hd] at HDC
  simp only [Bool.false_eq_true, if_false] at HDC
  have HME := Lib.hid (fun he => made_err (ask := ask) h1 h2 hd he)
  have HMR := Lib.hid (fun he => made_reck (ask := ask) h1 h2 hd he)
  have HRK := Lib.hid (fun W (hW : Below w.heap.size w W) => ereck (h.up hW) hm h1 h2)
  have H := Lib.hid h
  have hle := Rw.le h
  have hcap := Rw.cap h
  have HL := Lib.hid (Rw.len h)
  unfold maxLen at hcap
  have hbig := Rw.big h
  clear h hm hd
  generalize madeP ask n of = pp at *
  obtain ⟨op, ⟨k, nn, s⟩, ⟨ac, an, am⟩⟩ := n
  simp only at h1 h2 HME HMR HRK HP HN HDC
  have b1 : (op == 1) = false := by rw [beq_eq_false_iff_ne]; exact h1
  have b2 : (op == 2) = false := by rw [beq_eq_false_iff_ne]; exact h2
  clear h1 h2
  obtain ⟨⟨⟨rk, rn, rs⟩, re⟩, hp⟩ : ∃ q, q = reckP op of := ⟨_, rfl⟩
  rw [← hp] at HMR HRK
  clear hp
  unfold Nod.val
  go_enter Tryz.func81, Tryz.ntmps81
  go_wp2_with (go_at_call 107; refine HDC.out.mono ?_; rintro e w1 ⟨rfl, hb1⟩
               have O1 := Lib.hid ((HP.out.below hb1 (by rw [HZ.out]; omega)).keep (w' := w1.alloc (.cells #[.int .i64 0, .int .i64 0, .string ⟨#[]⟩] 40)) (Below.heap_alloc _ _ _ (by have := hb1.size; have := HZ.out; omega)))
               have N1 := Lib.hid ((HN.out.below hb1 (by rw [HZ.out]; omega)).keep (w' := w1.alloc (.cells #[.int .i64 0, .int .i64 0, .string ⟨#[]⟩] 40)) (Below.heap_alloc _ _ _ (by have := hb1.size; have := HZ.out; omega)))
               have D1 := Lib.hid ((below_step HB.out hb1).alloc (below_step HB.out hb1).size (.cells #[.int .i64 0, .int .i64 0, .string ⟨#[]⟩] 40))
               clear hb1)
  generalize w1.alloc (.cells #[.int .i64 0, .int .i64 0, .string ⟨#[]⟩] 40) = W1 at *
  go_loopw [46] (fun i wr => ∃ k : Nat, k ≤ m ∧ i = .int .i64 k ∧ errL (of.take k) = 0 ∧ Below W1.heap.size W1 wr) (fun i _ => m - (intOf i).toNat)
  case atStart => exact ⟨0, Nat.zero_le _, rfl, rfl, Below.refl _ _⟩
  case round =>
    obtain ⟨k, hk, rfl, he, hb⟩ := hrel
    have HE := Lib.hid he
    have HW := Lib.hid hb
    have O2 := Lib.hid (O1.out.below hb O1.out.lt)
    have N2 := Lib.hid (N1.out.below hb N1.out.lt)
    have D2 := Lib.hid (below_step D1.out hb)
    clear he hb
    by_cases hlt : k < m
    · obtain ⟨b, o, p, Ap, np, cp, rfl, hRb, hbl, hx, hok, ⟨x0, x1, x2, x3, x4⟩, hin⟩ := (H.out.up D2.out).at_ hlt
      have HT := Lib.hid (errL_take HE.out hx)
      have HH := Lib.hid (errL_hit HE.out hx)
      obtain ⟨pb, ⟨pk, pn, ps⟩, pe⟩ := p
      simp only at x0 x1 x2 x3 x4 HT HH
      have q4 := (Ob.made wr 148 #[.slice Ap np cp, .int .i64 pk, .int .i64 pn, .string ps, .int .i64 pe]).cell 4
      clear hx hok hin hRb
      by_cases hpe : pe = 0
      · subst hpe
        go_wp2_with fail
        go_roundw
        case rel => exact ⟨k + 1, by omega, by go_num, HT.out, HW.out.alloc HW.out.size _⟩
        case measure => simp [intOf]; omega
      · have hne : (pe != 0) = true := by rw [bne_iff_ne]; exact hpe
        have HM := Lib.hid (HME.out (by rw [HH.out hpe]; exact hpe))
        have HHE := Lib.hid (HH.out hpe)
        clear hpe
        have O3 := Lib.hid (O2.out.keep (w' := wr.alloc (.cells #[.slice Ap np cp, .int .i64 pk, .int .i64 pn, .string ps, .int .i64 pe] 148)) (Below.heap_alloc _ _ _ O2.out.lt))
        have o0 := O3.out.cell
        have g0 := O3.out.frozen
        go_wp2_with fail
        try simp only [Exit.inBlock, Exit.then]
        refine bodyPost_ret (part_ret rfl rfl (ob_put5 O3.out _ _ _ _ _)) rfl ?_
        exact MadeTo.nobag (by rw [HM.out, HHE.out]; rfl) (below_put5 (D2.out.alloc D2.out.size _) (by omega) _ _ _ _ _)
    · obtain rfl : k = m := by omega
      have hT := HE.out
      rw [List.take_of_length_le (by have := HL.out; omega)] at hT
      have HM := Lib.hid (HMR.out hT)
      have n0 := N2.out.cell 0
      clear hT
      go_wp2_with (go_at_call 108; refine (HRK.out _ D2.out).mono ?_; rintro e w3 ⟨rfl, hb3⟩
                   have O4 := Lib.hid ((O2.out.below hb3 O2.out.lt).keep (w' := w3.alloc (.cells #[.int .i64 rk, .int .i64 rn, .string rs] 40)) (Below.heap_alloc _ _ _ (Nat.lt_of_lt_of_le O2.out.lt hb3.size)))
                   have D4 := Lib.hid ((below_step D2.out hb3).alloc (below_step D2.out hb3).size (.cells #[.int .i64 rk, .int .i64 rn, .string rs] 40))
                   have o0 := O4.out.cell
                   have g0 := O4.out.frozen
                   have k0 := (Bx.made w3 rk rn rs).c3
                   simp only [Vl.val]
                   clear hb3)
      try simp only [Exit.inBlock, Exit.then]
      refine bodyPost_ret (part_ret rfl rfl (ob_put5 O4.out _ _ _ _ _)) rfl ?_
      exact MadeTo.nobag HM.out (below_put5 D4.out (by omega) _ _ _ _ _)
/-- made, of what a node takes. -/
theorem emade_any {ask : List Giv} (n : Nod) (hs : n.op = 1 → n.v.s.size ≤ 1000000) {of : List Prt} {R R2 : Nat → Prop} {A A2 : Option Addr} {m c n2 c2 : Nat} (w : World) (h : Prts w R A m c of) (hm : m = takesN n.op) (hA : Gvs w R2 A2 n2 c2 ask) (hG : ShortG ask) :
    Calls Tryz.prog 81 #[n.val, .slice A m c, .slice A2 n2 c2] w (MadeTo w (madeP ask n of)) := by
  by_cases h1 : n.op = 1
  · exact emade_1 ask n h1 (hs h1) of A m c A2 n2 c2 w
  by_cases h2 : n.op = 2
  · exact emade_2 n h2 of A m c w hA hG
  cases hd : decB n.op of with
  | true => exact emade_dec n h1 h2 A2 n2 c2 w h hm hd
  | false => exact emade_rest n h1 h2 A2 n2 c2 w h hm hd
end Go.Proofs.YtmoglaknmlhpgaaGreat
/- What a node makes is a value that memory bears; a right expression at each of its nodes. Plain. -/
namespace Go.Proofs.YtmoglaknmlhpgaaGreat
set_option linter.unusedVariables false
open Go.RowKit

theorem truthV_ok (b : Bool) : (truthV b).ok := by cases b <;> decide
theorem noneV_ok : noneV.ok := by decide
theorem ini0 : InI 0 := by decide
theorem ini1 : InI 1 := by decide
theorem ini2 : InI 2 := by decide
theorem ini3 : InI 3 := by decide
theorem ini4 : InI 4 := by decide
theorem numV_ok {n : Int} (h : InI n) : (numV n).ok := ⟨ini2, h, (by decide : (⟨#[]⟩ : ByteArray).size ≤ maxLen)⟩
/-- A value that is told, and an error, as they may be. -/
def OkR (p : Vl × Int) : Prop := p.1.ok ∧ InI p.2
theorem okR_none {e : Int} (h : InI e) : OkR (noneV, e) := ⟨noneV_ok, h⟩
theorem okR_truth (b : Bool) : OkR (truthV b, 0) := ⟨truthV_ok b, ini0⟩
theorem lessOf_err (a b : Vl) : (lessOf a b).2 = 0 ∨ (lessOf a b).2 = 1 ∨ (lessOf a b).2 = 2 := by
  unfold lessOf
  repeat' split
  all_goals simp
theorem callV_ok (op : Int) (l : List Vl) : OkR (callV op l) := by
  unfold callV
  split
  · match l with
    | [] => exact okR_none (by decide)
    | [a] =>
      show OkR (notV a)
      unfold notV
      split
      · exact okR_truth _
      · exact okR_none (by decide)
    | [a, b] =>
      show OkR (callTwo op a b)
      unfold callTwo
      split
      · unfold sameV; split
        · exact okR_truth _
        · exact okR_none (by decide)
      · split
        · unfold lessV; split
          · exact okR_truth _
          · rcases lessOf_err a b with h | h | h <;> rw [h] <;> exact okR_none (by decide)
        · split
          · unfold bothV; split
            · exact okR_truth _
            · exact okR_none (by decide)
          · unfold reckV; split
            · by_cases h2 : In64 (opF op a.n b.n)
              · rw [fits_in h2]
                exact ⟨numV_ok h2, ini0⟩
              · rw [fits_out h2]
                exact okR_none ini3
            · exact okR_none (by decide)
    | _ :: _ :: _ :: _ => exact okR_none (by decide)
  · exact okR_none (by decide)
def OkP (p : Prt) : Prop := (p.v.ok ∧ InI p.e) ∧ (∀ v ∈ p.bag, v.ok) ∧ p.bag.length ≤ 140737488351232
theorem single_ok {l : List Vl} (h : ∀ v ∈ l, v.ok) : OkR (singleV l) := by
  match l, h with
  | [], _ => exact okR_none ini4
  | [v], h => exact ⟨h v (by simp), ini0⟩
  | _ :: _ :: _, _ => exact okR_none ini4
theorem reckP_ok (op : Int) {of : List Prt} (h : ∀ p ∈ of, OkP p) : OkR (reckP op of) := by
  unfold reckP
  split
  · match of, h with
    | [], _ => exact okR_none ini0
    | p :: _, h => exact single_ok (h p (by simp)).2.1
  · split
    · match of, h with
      | [], _ => exact okR_none ini0
      | p :: _, h =>
        have hp := (h p (by simp)).2.2
        exact ⟨numV_ok (by unfold InI; omega), ini0⟩
    · split
      · match of with
        | [] => exact okR_none ini0
        | [_] => exact okR_none ini0
        | _ :: _ :: _ => exact okR_truth _
      · exact callV_ok op _
theorem errL_ok {of : List Prt} (h : ∀ p ∈ of, OkP p) : InI (errL of) := by
  induction of with
  | nil => exact ini0
  | cons p r ih =>
    unfold errL
    split
    · exact (h p (by simp)).1.2
    · exact ih fun q hq => h q (by simp [hq])
theorem getE_ok (ask : List Giv) (a : Atr) : InI (getE ask a) := by
  unfold getE
  split
  · exact ini4
  · exact ini0
theorem madeP_ok {ask : List Giv} {n : Nod} {of : List Prt} (hn : n.v.ok) (h : ∀ p ∈ of, OkP p) : (madeP ask n of).v.ok ∧ InI (madeP ask n of).e := by
  unfold madeP
  split
  · exact ⟨hn, ini0⟩
  · split
    · exact ⟨noneV_ok, getE_ok _ _⟩
    · split
      · exact ⟨truthV_ok _, ini0⟩
      · split
        · exact ⟨noneV_ok, errL_ok h⟩
        · exact reckP_ok _ h
theorem Prts.oks {w : World} {R : Nat → Prop} {A : Option Addr} {n c : Nat} {l : List Prt} (h : Prts w R A n c l) : ∀ p ∈ l, OkP p := by
  intro p hp
  obtain ⟨j, hj, rfl⟩ := List.getElem_of_mem hp
  obtain ⟨b, o, x, A', n', c', e, _, _, hx, hok, _, hin⟩ := h.at_ (j := j) (by have := Rw.len h; omega)
  rw [List.getElem?_eq_getElem hj] at hx
  injection hx with hx
  subst hx
  exact ⟨hok, hin.oks, by rw [Rw.len hin]; exact Rw.big hin⟩

theorem runX_take : ∀ {l : List Nod} {s s' : List Bool} {k : Nat} {n : Nod}, runX l s = some s' → l[k]? = some n → ∃ u u', runX (l.take k) s = some u ∧ stepX n u = some u' ∧ runX (l.take (k + 1)) s = some u'
  | [], _, _, _, _, _, h => by simp at h
  | x :: l, s, s', 0, n, h, hn => by
    simp at hn
    subst hn
    simp only [runX] at h
    cases hs : stepX x s with
    | none => rw [hs] at h; cases h
    | some u => exact ⟨s, u, rfl, hs, by simp [runX, hs]⟩
  | x :: l, s, s', k + 1, n, h, hn => by
    simp only [runX] at h
    cases hs : stepX x s with
    | none => rw [hs] at h; cases h
    | some u =>
      rw [hs] at h
      obtain ⟨a, b, h1, h2, h3⟩ := runX_take h (by simpa using hn)
      refine ⟨a, b, ?_, h2, ?_⟩
      · simp only [List.take_succ_cons, runX, hs]; exact h1
      · simp only [List.take_succ_cons, runX, hs]; exact h3
theorem right_size {v : Vl} (h : v.right) : v.s.size ≤ 64 := by
  have e : v.s.size = v.l.length := by unfold Vl.l; rfl
  rw [e]
  unfold Vl.right RightV Named at h
  rcases h with ⟨_, h, _⟩ | ⟨_, h⟩ | ⟨_, _, h⟩ | ⟨_, h, _⟩ | ⟨_, _, h, _⟩
  all_goals first | (rw [h]; simp) | omega
/-- At each node of a right expression there stands enough, and a literal isn't long. -/
theorem run_at {ask : List Giv} {l : List Nod} (h : exprE l = 0) {k : Nat} {n : Nod} (hn : l[k]? = some n) :
    takesN n.op ≤ (runP ask (l.take k) []).length ∧ runP ask (l.take (k + 1)) [] = stepP ask (runP ask (l.take k) []) n ∧ (n.op = 1 → n.v.s.size ≤ 1000000) ∧ (runP ask (l.take k) []).length ≤ k := by
  have hne : l ≠ [] := by rintro rfl; simp at hn
  obtain ⟨_, hr⟩ := exprE_ok h hne
  obtain ⟨u, u', h1, h2, h3⟩ := runX_take hr hn
  have hf := (runP_frame (ask := ask) (t := []) (st := []) h1 rfl).2
  obtain ⟨a, b, c⟩ := stepX_len h2
  refine ⟨by omega, ?_, fun h1 => ?_, ?_⟩
  · rw [take_next hn, runP_app]; rfl
  · unfold holdsB at c
    rw [if_pos h1] at c
    simp at c
    have := right_size c.1
    omega
  · have : ∀ (m : List Nod) (s : List Prt), (runP ask m s).length ≤ s.length + m.length := by
      intro m
      induction m with
      | nil => intro s; simp [runP]
      | cons x m ih =>
        intro s
        rw [runP_cons]
        have h1 := ih (stepP ask s x)
        have h2 : (stepP ask s x).length ≤ s.length + 1 := by unfold stepP; rw [List.length_append, List.length_take]; simp
        simp; omega
    have := this (l.take k) []
    rw [List.length_take] at this
    simp at this
    omega
theorem run_end {ask : List Giv} {l : List Nod} (h : exprE l = 0) (hn : l ≠ []) : ∃ p, runP ask l [] = [p] ∧ valP ask l = (p.v, p.e) := by
  obtain ⟨p, h1, h2⟩ := run_right (ask := ask) h hn
  exact ⟨p, h1 [], h2⟩
theorem valP_bad {ask : List Giv} {l : List Nod} (h : l = [] ∨ exprE l ≠ 0) : valP ask l = (noneV, 1) := if_pos h
end Go.Proofs.YtmoglaknmlhpgaaGreat
/- A region that draws its order: its head, in whatever order, under a condition on the world (loads that it tells are taken first); and a forced tail, that may break the condition. -/
namespace Go.Proofs.YtmoglaknmlhpgaaGreat
open Go Go.RowKit

section
variable {P : Program} {ops : Array Oper} {md : Region.Mode} {Q : Exit → Act → World → Prop} {S : World → Prop} {L : Array Bool → Act → World → Prop} {n : Nat}

/-- Whatever order is picked among the first n, till L; S holds behind each. -/
def HeadS (P : Program) (md : Region.Mode) (ops : Array Oper) (Q : Exit → Act → World → Prop) (S : World → Prop) (n : Nat) (L : Array Bool → Act → World → Prop) : Nat → Array Bool → Act → World → Prop
  | 0, listed, a, w => L listed a w
  | f + 1, listed, a, w => Region.ready md ops listed ≠ [] ∧ ∀ i ∈ Region.ready md ops listed, i < n ∧ wpOp P ops Q i (fun a' w' => S w' ∧ HeadS P md ops Q S n L f (listed.setIfInBounds i true) a' w') a w

theorem HeadS.any {g : Nat} (hL : ∀ listed a w, L listed a w → wpAny P md ops Q g listed a w) :
    ∀ (f : Nat) (listed : Array Bool) (a : Act) (w : World), HeadS P md ops Q S n L f listed a w → wpAny P md ops Q (f + g) listed a w
  | 0, _, _, _, h => by rw [Nat.zero_add]; exact hL _ _ _ h
  | f + 1, _, _, _, h => by
    rw [show f + 1 + g = (f + g) + 1 by omega]
    exact ⟨fun h0 => absurd h0 h.1, fun i hi => wpOp_mono (fun a' w' h' => HeadS.any hL f _ a' w' h'.2) (h.2 i hi).2⟩

theorem HeadS.first {i : Nat} {oi : Oper} {v : Value} (hi : ops[i]? = some oi) (hsel : ∀ (j : Nat) (o : Oper) cs b, ops[j]? = some o → o.op ≠ .select cs b)
    (hQ : ∀ c a w, Q (.panic c) (a.put oi.dst v) w → Q (.panic c) a w)
    (hs : Region.sinkB md ops n = true) (hc : Region.chainB md ops n = true) (hn : n < ops.size) (hin : i < n) (hdone : ∀ listed a w, L listed a w → ∀ j ∈ Region.ready md ops listed, n ≤ j) :
    ∀ (f : Nat) (listed : Array Bool) (a : Act) (w : World), HeadInv md ops n listed →
      (∀ j oj, ops[j]? = some oj → j ≠ i → listed.getD j true = false → (∀ e ∈ oj.after, Region.binds md e = true → e.on ≠ i) → oi.apart ops oj = true) →
      i ∈ Region.ready md ops listed → YieldsIf P ops S oi v a → S w → HeadS P md ops Q S n L f (listed.setIfInBounds i true) (a.put oi.dst v) w → HeadS P md ops Q S n L (f + 1) listed a w := by
  intro f
  induction f with
  | zero =>
    intro listed a w inv _ hr hy hS H
    refine ⟨fun h => (by rw [h] at hr; cases hr), fun j hj => ?_⟩
    have hjn : j < n := Nat.lt_of_not_le fun h => tail_waits hs hc hn inv _ i rfl hin (mem_ready.1 hr).1 j h hj
    refine ⟨hjn, ?_⟩
    by_cases hji : j = i
    · subst hji; exact hy.wpOp hi hS ⟨hS, H⟩
    · have := hdone _ _ _ H j (ready_mono hj hji)
      omega
  | succ f ih =>
    intro listed a w inv hfree hr hy hS H
    have hun := (mem_ready.1 hr).1
    refine ⟨fun h => (by rw [h] at hr; cases hr), fun j hj => ?_⟩
    have hjn : j < n := Nat.lt_of_not_le fun h => tail_waits hs hc hn inv _ i rfl hin hun j h hj
    refine ⟨hjn, ?_⟩
    by_cases hji : j = i
    · subst hji; exact hy.wpOp hi hS ⟨hS, H⟩
    · have h1 := (H.2 j (ready_mono hj hji)).2
      obtain ⟨hjun, oj, hoj, hall⟩ := mem_ready.1 hj
      have hnot : ∀ e ∈ oj.after, Region.binds md e = true → e.on ≠ i := fun e he hb heq => by
        have h1 := hall e he hb
        rw [heq, getD_both hun] at h1
        cases h1
      have h2 := wpOp_putIf hoj (hfree j oj hoj hji hjun hnot) (fun cs b => hsel i oi cs b hi) (fun cs b => hsel j oj cs b hoj) hQ hy h1
      have hfree' : ∀ k ok, ops[k]? = some ok → k ≠ i → (listed.setIfInBounds j true).getD k true = false →
          (∀ e ∈ ok.after, Region.binds md e = true → e.on ≠ i) → oi.apart ops ok = true := fun k ok hk hki hun' hno => by
        refine hfree k ok hk hki ?_ hno
        by_cases hjk : j = k
        · subst hjk; exact hjun
        · rw [getD_set_ne true hjk] at hun'; exact hun'
      refine wpOp_mono (fun a' w' h3 => ⟨h3.2.1, ih (listed.setIfInBounds j true) a' w' (inv.set hj hjn) hfree' (ready_mono hr (Ne.symm hji)) h3.1 h3.2.1 ?_⟩) h2
      rw [Array.setIfInBounds_comm _ _ hji]
      exact h3.2.2

/-- In a state that can be. -/
def HeadW (P : Program) (md : Region.Mode) (ops : Array Oper) (Q : Exit → Act → World → Prop) (S : World → Prop) (n : Nat) (L : Array Bool → Act → World → Prop) (f : Nat) (listed : Array Bool) (a : Act) (w : World) : Prop :=
  HeadInv md ops n listed → HeadS P md ops Q S n L f listed a w
/-- What is known of the region. -/
def HeadG (md : Region.Mode) (ops : Array Oper) (n : Nat) (L : Array Bool → Act → World → Prop) : Prop :=
  Region.noSelect ops = true ∧ Region.sinkB md ops n = true ∧ Region.chainB md ops n = true ∧ n < ops.size ∧ ∀ listed a w, L listed a w → ∀ j ∈ Region.ready md ops listed, n ≤ j

theorem HeadW_take {i : Nat} {oi : Oper} {v : Value} {f : Nat} {listed : Array Bool} {a : Act} {w : World} (G : HeadG md ops n L) (hi : ops[i]? = some oi)
    (hin : Nat.blt i n = true) (hf : Region.free md ops listed i = true) (hr : (Region.ready md ops listed).contains i = true)
    (hQ : ∀ c a w, Q (.panic c) (a.put oi.dst v) w → Q (.panic c) a w) (hy : YieldsIf P ops S oi v a) (hS : S w)
    (h : HeadW P md ops Q S n L f (listed.setIfInBounds i true) (a.put oi.dst v) w) : HeadW P md ops Q S n L (f + 1) listed a w := fun inv => by
  have hin' : i < n := by simpa using hin
  have hr' : i ∈ Region.ready md ops listed := by simpa using hr
  exact HeadS.first hi (Region.noSelect_spec G.1) hQ G.2.1 G.2.2.1 G.2.2.2.1 hin' G.2.2.2.2 f listed a w inv (Region.free_spec hi hf) hr' hy hS (h (inv.set hr' hin'))

/-- Each of these comes up next. -/
def AllW (P : Program) (md : Region.Mode) (ops : Array Oper) (Q : Exit → Act → World → Prop) (S : World → Prop) (n : Nat) (L : Array Bool → Act → World → Prop) (f : Nat) (listed : Array Bool) (a : Act) (w : World) (rs : List Nat) : Prop :=
  ∀ i ∈ rs, wpOp P ops Q i (fun a' w' => S w' ∧ HeadW P md ops Q S n L f (listed.setIfInBounds i true) a' w') a w
theorem AllW.nil {f : Nat} {listed : Array Bool} {a : Act} {w : World} : AllW P md ops Q S n L f listed a w [] := fun _ h => by cases h
theorem AllW.cons {f : Nat} {listed : Array Bool} {a : Act} {w : World} {i : Nat} {o : Oper} {rs : List Nat} (ho : ops[i]? = some o)
    (h : ∀ K' : Act → World → Prop, (∀ a w, S w → HeadW P md ops Q S n L f (listed.setIfInBounds i true) a w → K' a w) → if Region.wanted o (yielded ops a.tmps) = true then Oper.wp P o a w K' Q else K' (a.put o.dst undef) w)
    (hs : AllW P md ops Q S n L f listed a w rs) : AllW P md ops Q S n L f listed a w (i :: rs) := fun j hj => by
  rcases List.mem_cons.1 hj with rfl | hj
  · exact wpOp_step ho fun K' hK => h K' fun a w h1 h2 => hK a w ⟨h1, h2⟩
  · exact hs j hj
theorem HeadW_ready {rs : List Nat} {f : Nat} {listed : Array Bool} {a : Act} {w : World} (hr : Region.ready md ops listed = rs) (hne : rs.isEmpty = false) (hin : rs.all (fun i => Nat.blt i n) = true)
    (h : AllW P md ops Q S n L f listed a w rs) : HeadW P md ops Q S n L (f + 1) listed a w := fun inv => by
  subst hr
  refine ⟨fun h0 => (by rw [h0] at hne; cases hne), fun i hi => ?_⟩
  have hin' : i < n := by simpa using List.all_eq_true.1 hin i hi
  exact ⟨hin', wpOp_mono (fun a' w' h' => ⟨h'.1, h'.2 (inv.set hi hin')⟩) (h i hi)⟩

/-- What is left: the tail, one behind the other. -/
def TailL (P : Program) (ops : Array Oper) (Q : Exit → Act → World → Prop) (n g : Nat) (r : List Oper) (listed : Array Bool) (a : Act) (w : World) : Prop := Region.seqB .any ops g n listed = true ∧ wpList P ops Q r a w

theorem wp_region_held_tail {id : Nat} {a : Act} {w : World} {l : List Oper} (S : World → Prop) (n : Nat) (hm : P.follows .mixedOrders = true)
    (hB : (Region.noSelect l.toArray && Nat.blt n l.length && Region.sinkB .any l.toArray n && Region.chainB .any l.toArray n) = true)
    (h : HeadG .any l.toArray n (TailL P l.toArray Q n (l.length - n) (l.drop n)) → HeadW P .any l.toArray Q S n (TailL P l.toArray Q n (l.length - n) (l.drop n)) n (Array.replicate l.toArray.size false) a { w with drawn := w.drawn + 1 }) :
    (Code.region id l.toArray true).wp P Q a w := by
  simp only [Bool.and_eq_true] at hB
  obtain ⟨⟨⟨hsel, hn⟩, hs⟩, hc⟩ := hB
  have hn' : n < l.length := by simpa using hn
  have hdl : (l.drop n).length = l.toArray.size - n := by simp
  have inv0 : HeadInv .any l.toArray n (Array.replicate l.toArray.size false) :=
    ⟨by simp, fun j oj _ hl => (by rw [getD_replicate_false] at hl; cases hl), fun t _ ht => getD_in (by simpa using ht) (getD_replicate_false _ _)⟩
  have H := h ⟨hsel, hs, hc, by simpa using hn', fun listed a w hL => seqB_ready hL.1⟩ inv0
  refine wp_region_any hm ?_
  have := HeadS.any (g := l.toArray.size - n) (fun listed a' w' hL => by
    have := wpAny_of_seq (md := .any) (Q' := Q) (l.drop n) n listed a' w' (fun j => by simp [List.getElem?_drop]) (by rw [hdl]; simpa using hL.1) hL.2
    rwa [hdl] at this) _ _ _ _ H
  rw [show n + (l.toArray.size - n) = l.toArray.size by simp; omega] at this
  exact this
end
end Go.Proofs.YtmoglaknmlhpgaaGreat
/- expr.Value. -/
namespace Go.Proofs.YtmoglaknmlhpgaaGreat
set_option linter.unusedVariables false
open Go.RowKit Go.Sort

theorem Gr.prts {w : World} {base n c : Nat} {A : Option Addr} {l : List Prt} (h : Gr 5 PartAt w base 148 A n c l) (hn : n ≤ 1000000) : Prts w (fun b => base ≤ b) A n c l := Gr.rw keeps_part h (by omega)
/-- One round: the stack behind the node. -/
theorem round_part {ask : List Giv} {wr w1 : World} {base h c : Nat} {A A1 : Option Addr} {n1 c1 : Nat} {st : List Prt} {n : Nod} (G : Gr 5 PartAt wr base 148 A h c st) (hh : h ≤ 1000) (ht : takesN n.op ≤ h) (hn : n.v.ok)
    (hb : Below wr.heap.size wr w1) {lo : Nat} (hlo : wr.heap.size ≤ lo) (hv : Vls w1 (fun b => lo ≤ b) A1 n1 c1 (madeP ask n (st.drop (h - takesN n.op))).bag) :
    ∃ A' c' w', (Builtin.append_ #[145, 145] 145 #[.slice A (h - takesN n.op) c, .slice (some ⟨w1.heap.size, 0, none⟩) 1 1]).run Tryz.prog (w1.alloc (.cells #[.slice A1 n1 c1, .int .i64 (madeP ask n (st.drop (h - takesN n.op))).v.k, .int .i64 (madeP ask n (st.drop (h - takesN n.op))).v.n, .string (madeP ask n (st.drop (h - takesN n.op))).v.s, .int .i64 (madeP ask n (st.drop (h - takesN n.op))).e] 148)) = .ok (.slice A' (h - takesN n.op + 1) c') w' ∧
      Gr 5 PartAt w' base 148 A' (h - takesN n.op + 1) c' (stepP ask st n) ∧ Below base wr w' := by
  have hlen : st.length = h := Gr.len G
  have hok := madeP_ok (ask := ask) (of := st.drop (h - takesN n.op)) hn (fun p hp => (G.prts (by omega)).oks p (List.mem_of_mem_drop hp))
  have G1 := (Gr.below keeps_part G hb).take keeps_part (j := h - takesN n.op) (by omega)
  obtain ⟨A', c', w', r, g, b⟩ := push_part (p := madeP ask n (st.drop (h - takesN n.op))) G1 hok (hv.keep (Kept.refl _ _) (fun b hb' _ => by
    have := G.apart b (Nat.le_trans hlo hb')
    exact ⟨this.1, by rw [own_block A _ h c c]; exact this.2⟩)) (by omega)
  refine ⟨A', c', w', r, ?_, (hb.mono G.2).trans b⟩
  have : stepP ask st n = st.take (h - takesN n.op) ++ [madeP ask n (st.drop (h - takesN n.op))] := by unfold stepP; rw [hlen]
  rw [this]
  exact g

set_option maxRecDepth 100000 in
set_option maxHeartbeats 3200000 in
theorem eval_bad {ask : List Giv} {w : World} {R : Nat → Prop} {A : Option Addr} {n c : Nat} {l : List Nod} (h : Nds w R A n c l) (A2 : Option Addr) (n2 c2 : Nat) (hb : l = [] ∨ exprE l ≠ 0) :
    Calls Tryz.prog 47 #[.slice A n c, .slice A2 n2 c2] w fun e w' => e = .returned (.tuple #[(valP ask l).1.val, .int .i64 (valP ask l).2]) ∧ Below w.heap.size w w' := by
  have hle := Rw.le h
  have hcap := Rw.cap h
  unfold maxLen at hcap
  have HQ := Lib.hid (valP_bad (ask := ask) hb)
  have HX := Lib.hid (fun W (hW : Below w.heap.size w W) => expr_any W (h.keep (Kept.all hW R) (fun _ h _ => h)))
  have hlen := Rw.len h
  by_cases h0 : n = 0
  · subst h0
    clear h hb hlen HX
    go_enter Tryz.func47, Tryz.ntmps47
    go_wp2_with fail
    try simp only [Exit.inBlock, Exit.then]
    refine bodyPost_ret (box_ret2 rfl rfl rfl (Bx.made _ _ _ _)) rfl ?_
    exact ⟨eret_pair (v := noneV) HQ.out, below1 _ _⟩
  · have hz : ((n : Int) == 0) = false := by rw [beq_eq_false_iff_ne]; omega
    have he : exprE l ≠ 0 := hb.elim (fun e => absurd (by rw [← hlen, e]; rfl) h0) id
    have hne : (exprE l != 0) = true := by rw [bne_iff_ne]; exact he
    generalize exprE l = xe at *
    have HD := Lib.hid (below1 w (.cells #[.int .i64 0, .int .i64 0, .string ⟨#[]⟩] 40))
    clear h hb hlen he
    go_enter Tryz.func47, Tryz.ntmps47
    go_wp2_with (go_at_call 79; refine (HX.out _ HD.out).mono ?_; rintro e w1 ⟨rfl, hb1⟩
                 have R1 := Lib.hid ((Bx.made w 0 0 ⟨#[]⟩).then_ hb1)
                 have D1 := Lib.hid (Below.lit hb1)
                 have c0 := R1.out.c3
                 have f0 := R1.out.fz
                 clear hb1)
    try simp only [Exit.inBlock, Exit.then]
    refine bodyPost_ret (box_ret2 rfl rfl rfl (R1.out.put _ _ _)) rfl ?_
    exact ⟨eret_pair (v := noneV) HQ.out, below_put D1.out (Nat.le_refl _) _ _ _⟩
set_option maxRecDepth 100000 in
set_option maxHeartbeats 6400000 in
theorem eval_good {ask : List Giv} {w : World} {R R2 : Nat → Prop} {A A2 : Option Addr} {n c n2 c2 : Nat} {l : List Nod} (h : Nds w R A n c l) (hA : Gvs w R2 A2 n2 c2 ask) (hG : ShortG ask) (h0 : l ≠ []) (he : exprE l = 0) :
    Calls Tryz.prog 47 #[.slice A n c, .slice A2 n2 c2] w fun e w' => e = .returned (.tuple #[(valP ask l).1.val, .int .i64 (valP ask l).2]) ∧ Below w.heap.size w w' := by
  have hle := Rw.le h
  have hcap := Rw.cap h
  unfold maxLen at hcap
  have hl32 := (exprE_ok he h0).1
  have HL := Lib.hid (Rw.len h)
  have hn32 : n ≤ 32 := by have := HL.out; omega
  have HX := Lib.hid (fun W (hW : Below w.heap.size w W) => expr_any W (h.keep (Kept.all hW R) (fun _ h _ => h)))
  have hz : ((n : Int) == 0) = false := by rw [beq_eq_false_iff_ne]; have : l.length ≠ 0 := fun e => h0 (List.eq_nil_of_length_eq_zero e); have := HL.out; omega
  obtain ⟨pz, hpz, hvz⟩ := run_end (ask := ask) he h0
  have HEND := Lib.hid hpz
  have HV := Lib.hid hvz
  have HRUN := Lib.hid (fun (k : Nat) (x : Nod) (hx : l[k]? = some x) => run_at (ask := ask) he hx)
  have HND := Lib.hid (fun W (hW : Below w.heap.size w W) => h.keep (Kept.all hW R) (fun _ h _ => h))
  have HGV := Lib.hid (fun W (hW : Below w.heap.size w W) => hA.keep (Kept.all hW R2) (fun _ h _ => h))
  have HG := Lib.hid hG
  rw [he] at HX
  have HD := Lib.hid (below1 w (.cells #[.int .i64 0, .int .i64 0, .string ⟨#[]⟩] 40))
  generalize valP ask l = rr at *
  clear h hA hG h0 he hpz hvz hl32
  go_enter Tryz.func47, Tryz.ntmps47
  go_wp2_with (go_at_call 79; refine (HX.out _ HD.out).mono ?_; rintro e w1 ⟨rfl, hb1⟩
               have R1 := Lib.hid ((Bx.made w 0 0 ⟨#[]⟩).then_ hb1)
               have D1 := Lib.hid (Below.lit hb1)
               have Z1 := Lib.hid (Nat.lt_of_lt_of_le (Nat.lt_succ_self _) (size_al w (.cells #[.int .i64 0, .int .i64 0, .string ⟨#[]⟩] 40) ▸ hb1.size))
               clear hb1)
  go_loopw [6, 21] (fun out i wr => ∃ (k h : Nat) (A' : Option Addr) (c' : Nat), k ≤ n ∧ i = .int .i64 k ∧ out = .slice A' h c' ∧ Gr 5 PartAt wr (w.heap.size + 1) 148 A' h c' (runP ask (l.take k) []) ∧ Below (w.heap.size + 1) w1 wr) (fun out i _ => n - (intOf i).toNat)
  case atStart => exact ⟨0, 0, none, 0, Nat.zero_le _, rfl, rfl, Gr.nil _ _ Z1.out, Below.refl _ _⟩
  case round =>
    obtain ⟨k, hh, A', c', hk, rfl, rfl, hgr, hb⟩ := hrel
    have HGR := Lib.hid hgr
    have HB := Lib.hid hb
    have HW := Lib.hid (D1.out.trans (hb.mono (Nat.le_succ _)))
    have R2 := Lib.hid (R1.out.below hb (Nat.lt_succ_self _))
    clear hgr hb
    by_cases hlt : k < n
    · obtain ⟨b, o, x, rfl, hRb, hbl, hx, hok, c0, c1, c2', c3, c4, c5, c6⟩ := (HND.out wr HW.out).at_ hlt
      obtain ⟨ht, hst, hsx, hhk⟩ := HRUN.out k x hx
      have hlen : (runP ask (l.take k) []).length = hh := Gr.len HGR.out
      rw [hlen] at ht hhk
      generalize runP ask (l.take k) [] = st at *
      have HST := Lib.hid hst
      have HOK := Lib.hid hok
      have hhc : hh ≤ c' := Rw.le (HGR.out.prts (by omega))
      have hcm : c' ≤ maxLen := Rw.cap (HGR.out.prts (by omega))
      unfold maxLen at hcm
      have HTK := Lib.hid (etakes_any x.op)
      have d1 : Below wr.heap.size wr (wr.alloc (.cells #[.int .i64 x.op, .int .i64 x.v.k, .int .i64 x.v.n, .string x.v.s, .int .i64 x.a.cat, .string x.a.name, .bool x.a.must] 58)) := below1 _ _
      have hpr := (HGR.out.prts (by omega)).up d1
      have ND := Lib.hid (Ob.made wr 58 #[.int .i64 x.op, .int .i64 x.v.k, .int .i64 x.v.n, .string x.v.s, .int .i64 x.a.cat, .string x.a.name, .bool x.a.must])
      have DD := Lib.hid d1
      have HM := Lib.hid (fun W (hW : Below (wr.alloc (.cells #[.int .i64 x.op, .int .i64 x.v.k, .int .i64 x.v.n, .string x.v.s, .int .i64 x.a.cat, .string x.a.name, .bool x.a.must] 58)).heap.size (wr.alloc (.cells #[.int .i64 x.op, .int .i64 x.v.k, .int .i64 x.v.n, .string x.v.s, .int .i64 x.a.cat, .string x.a.name, .bool x.a.must] 58)) W) =>
        emade_any (ask := ask) x hsx W ((hpr.up hW).drop (m := hh - takesN x.op) (by omega)) (by omega) (HGV.out W (HW.out.trans ((DD.out.trans (hW.mono DD.out.size)).mono HW.out.size))) HG.out)
      have HR := Lib.hid (fun w1 (hb : Below wr.heap.size wr w1) A1 n1 c1 lo hlo hv => round_part (ask := ask) (n := x) HGR.out (by omega) ht hok.2.1 hb (A1 := A1) (n1 := n1) (c1 := c1) (lo := lo) hlo hv)
      obtain ⟨pm, hpm⟩ : ∃ pm, pm = madeP ask x (st.drop (hh - takesN x.op)) := ⟨_, rfl⟩
      rw [← hpm] at HM HR
      obtain ⟨tk, htk⟩ : ∃ tk, tk = takesN x.op := ⟨_, rfl⟩
      rw [← htk] at HTK HM HR ht
      obtain ⟨xo, ⟨xk, xn, xs⟩, ⟨xc, xm, xu⟩⟩ := x
      simp only at c0 c1 c2' c3 c4 c5 c6 HTK ND DD HM
      unfold Nod.val at HM
      simp only at HM
      have hsub : IntKind.i64.wrap ((hh : Int) - (tk : Int)) = ((hh - tk : Nat) : Int) := by rw [IntKind.wrap_i64]; omega
      clear hpr d1 hx hok hst hsx hlen hRb hpm htk
      go_upto_region 8 with (go_at_call 80; refine (HTK.out _).mono ?_; rintro e w2 ⟨rfl, rfl⟩)
      generalize wr.alloc (.cells #[.int .i64 xo, .int .i64 xk, .int .i64 xn, .string xs, .int .i64 xc, .string xm, .bool xu] 58) = W1 at *
      have hjh : hh - tk ≤ hh := by omega
      generalize hh - tk = jj at *
      have q0 : (0 : Int) ≤ (jj : Int) := by omega
      have q1 : (jj : Int) ≤ (c' : Int) := by omega
      have q2 : (jj : Int) ≤ (hh : Int) := by omega
      generalize hAq : (if c' = jj then A' else A'.map (·.add (jj * 5))) = Aq at *
      have KN : Hid (∀ W, Below W1.heap.size W1 W → Ob W wr.heap.size 58 #[.int .i64 xo, .int .i64 xk, .int .i64 xn, .string xs, .int .i64 xc, .string xm, .bool xu]) := by
        show ∀ W, _ → _
        intro W hb
        exact ND.out.below hb ND.out.lt
      refine wp_region_held_tail (fun w' => Below W1.heap.size W1 w') 10 (by kernel_rfl) (by kernel_rfl) ?_
      intro G
      change HeadW _ _ _ _ _ _ _ _ _ _ (W1.drewN 1)
      have S0 := Lib.hid (below_drewN (Below.refl W1.heap.size W1) 1)
      generalize W1.drewN 1 = v0 at *
      refine HeadW_take (i := 0) (v := ?_) G rfl (by kernel_rfl) (by kernel_rfl) (by kernel_rfl) (fun _ _ _ h => h) (Or.inl ⟨by rfl, ?_⟩) S0.out ?_
      rotate_left
      · intro wz hS
        go_simp
        try with_reducible rfl
      refine HeadW_take (i := 1) (v := ?_) G rfl (by kernel_rfl) (by kernel_rfl) (by kernel_rfl) (fun _ _ _ h => h) (Or.inl ⟨by rfl, ?_⟩) S0.out ?_
      rotate_left
      · intro wz hS
        go_simp
        try with_reducible rfl
      refine HeadW_take (i := 2) (v := ?_) G rfl (by kernel_rfl) (by kernel_rfl) (by kernel_rfl) (fun _ _ _ h => h) (Or.inl ⟨by rfl, ?_⟩) S0.out ?_
      rotate_left
      · intro wz hS
        go_simp
        try with_reducible rfl
      refine HeadW_take (i := 3) (v := ?_) G rfl (by kernel_rfl) (by kernel_rfl) (by kernel_rfl) (fun _ _ _ h => h) (Or.inl ⟨by rfl, ?_⟩) S0.out ?_
      rotate_left
      · intro wz hS
        have hk0 := (KN.out _ hS).cell 0
        have hk1 := (KN.out _ hS).cell 1
        have hk2 := (KN.out _ hS).cell 2
        have hk3 := (KN.out _ hS).cell 3
        have hk4 := (KN.out _ hS).cell 4
        have hk5 := (KN.out _ hS).cell 5
        have hk6 := (KN.out _ hS).cell 6
        go_simp
        try with_reducible rfl
      refine HeadW_take (i := 4) (v := ?_) G rfl (by kernel_rfl) (by kernel_rfl) (by kernel_rfl) (fun _ _ _ h => h) (Or.inl ⟨by rfl, ?_⟩) S0.out ?_
      rotate_left
      · intro wz hS
        go_simp
        try with_reducible rfl
      refine HeadW_take (i := 5) (v := ?_) G rfl (by kernel_rfl) (by kernel_rfl) (by kernel_rfl) (fun _ _ _ h => h) (Or.inl ⟨by rfl, ?_⟩) S0.out ?_
      rotate_left
      · intro wz hS
        go_simp
        try with_reducible rfl
      refine HeadW_take (i := 6) (v := ?_) G rfl (by kernel_rfl) (by kernel_rfl) (by kernel_rfl) (fun _ _ _ h => h) (Or.inl ⟨by rfl, ?_⟩) S0.out ?_
      rotate_left
      · intro wz hS
        go_simp
        try rw [hAq]
        try with_reducible rfl
      refine HeadW_take (i := 7) (v := ?_) G rfl (by kernel_rfl) (by kernel_rfl) (by kernel_rfl) (fun _ _ _ h => h) (Or.inl ⟨by rfl, ?_⟩) S0.out ?_
      rotate_left
      · intro wz hS
        go_simp
        try with_reducible rfl
      refine HeadW_ready (rs := [8]) (by kernel_rfl) rfl rfl ?_
      refine AllW.cons rfl (fun K hK => ?_) AllW.nil
      go_simp
      refine (HM.out _ S0.out).mono ?_
      rintro e v2 ⟨A3, n3, c3, rfl, hb, hv⟩
      have S2 := Lib.hid (S0.out.trans (hb.mono S0.out.size))
      have hwv : Below wr.heap.size wr v2 := DD.out.trans (S2.out.mono DD.out.size)
      obtain ⟨A4, c4, v4, r4, g4, b4⟩ := HR.out v2 hwv A3 n3 c3 _ (Nat.le_trans DD.out.size S0.out.size) hv
      have R4 := Lib.hid r4
      have G4 := Lib.hid g4
      have B4 := Lib.hid (HB.out.trans b4)
      refine hK _ _ S2.out ?_
      clear hK K hb hv hwv r4 g4 b4
      refine HeadW_ready (rs := [9]) (by kernel_rfl) rfl rfl ?_
      refine AllW.cons rfl (fun K hK => ?_) AllW.nil
      go_simp
      refine hK _ _ (S2.out.alloc S2.out.size _) ?_
      clear hK K
      intro _
      refine ⟨by kernel_rfl, ?_⟩
      simp only [List.drop_succ_cons, List.drop_zero]
      at_builtin
      refine wpList_append_run rfl _ _ _ _ rfl rfl rfl R4.out ?_
      go_wp2_with fail
      go_roundw
      case rel => exact ⟨k + 1, jj + 1, A4, c4, by omega, by go_num, rfl, by rw [HST.out]; exact G4.out, B4.out⟩
      case measure => simp [intOf]; omega
    · obtain rfl : k = n := by omega
      have hg := HGR.out
      rw [List.take_of_length_le (by have := HL.out; omega), HEND.out] at hg
      obtain rfl : hh = 1 := (Gr.len hg).symm
      obtain ⟨b, o, x, Ax, nx, cx, rfl, hbb, _, hx, _, ⟨_, x1, x2, x3, x4⟩, _⟩ := (hg.prts (by omega)).at_ (j := 0) (by omega)
      simp at hx
      subst hx
      have hle' : 1 ≤ c' := Rw.le (hg.prts (by omega))
      obtain ⟨pb, ⟨pk, pn, ps⟩, pe⟩ := pz
      simp only [Nat.zero_mul, Nat.add_zero] at x1 x2 x3 x4
      have hbn : b ≠ w.heap.size := by omega
      clear hg
      go_upto_region 10 with fail
      refine wp_region_held_tail (fun w' => w'.heap[b]? = wr.heap[b]?) 9 (by kernel_rfl) (by kernel_rfl) ?_
      intro G
      change HeadW _ _ _ _ _ _ _ _ _ _ (wr.drewN 1)
      have S0 : Hid ((wr.drewN 1).heap[b]? = wr.heap[b]?) := rfl
      have R3 := Lib.hid (R2.out.drewN 1)
      have D3 := Lib.hid (below_drewN HW.out 1)
      generalize wr.drewN 1 = v0 at *
      refine HeadW_take (i := 0) (v := ?_) G rfl (by kernel_rfl) (by kernel_rfl) (by kernel_rfl) (fun _ _ _ h => h) (Or.inl ⟨by rfl, ?_⟩) S0.out ?_
      rotate_left
      · intro wz hS
        go_simp
        try with_reducible rfl
      refine HeadW_take (i := 1) (v := ?_) G rfl (by kernel_rfl) (by kernel_rfl) (by kernel_rfl) (fun _ _ _ h => h) (Or.inl ⟨by rfl, ?_⟩) S0.out ?_
      rotate_left
      · intro wz hS
        go_simp
        try with_reducible rfl
      refine HeadW_take (i := 2) (v := ?_) G rfl (by kernel_rfl) (by kernel_rfl) (by kernel_rfl) (fun _ _ _ h => h) (Or.inl ⟨by rfl, ?_⟩) S0.out ?_
      rotate_left
      · intro wz hS
        go_simp
        try with_reducible rfl
      refine HeadW_take (i := 3) (v := ?_) G rfl (by kernel_rfl) (by kernel_rfl) (by kernel_rfl) (fun _ _ _ h => h) (Or.inl ⟨by rfl, ?_⟩) S0.out ?_
      rotate_left
      · intro wz hS
        have y1 := (World.cell?_of_block hS).trans x1
        have y2 := (World.cell?_of_block hS).trans x2
        have y3 := (World.cell?_of_block hS).trans x3
        have y4 := (World.cell?_of_block hS).trans x4
        go_simp
        try with_reducible rfl
      refine HeadW_take (i := 4) (v := ?_) G rfl (by kernel_rfl) (by kernel_rfl) (by kernel_rfl) (fun _ _ _ h => h) (Or.inl ⟨by rfl, ?_⟩) S0.out ?_
      rotate_left
      · intro wz hS
        go_simp
        try with_reducible rfl
      refine HeadW_take (i := 5) (v := ?_) G rfl (by kernel_rfl) (by kernel_rfl) (by kernel_rfl) (fun _ _ _ h => h) (Or.inl ⟨by rfl, ?_⟩) S0.out ?_
      rotate_left
      · intro wz hS
        go_simp
        try with_reducible rfl
      refine HeadW_take (i := 6) (v := ?_) G rfl (by kernel_rfl) (by kernel_rfl) (by kernel_rfl) (fun _ _ _ h => h) (Or.inl ⟨by rfl, ?_⟩) S0.out ?_
      rotate_left
      · intro wz hS
        go_simp
        try with_reducible rfl
      refine HeadW_take (i := 7) (v := ?_) G rfl (by kernel_rfl) (by kernel_rfl) (by kernel_rfl) (fun _ _ _ h => h) (Or.inl ⟨by rfl, ?_⟩) S0.out ?_
      rotate_left
      · intro wz hS
        have y1 := (World.cell?_of_block hS).trans x1
        have y2 := (World.cell?_of_block hS).trans x2
        have y3 := (World.cell?_of_block hS).trans x3
        have y4 := (World.cell?_of_block hS).trans x4
        go_simp
        try with_reducible rfl
      have c0 := R3.out.c3
      have f0 := R3.out.fz
      have R4 := R3.out.put pk pn ps
      have f1 := (R3.out.put pk pn ps).fz
      refine HeadW_ready (rs := [8]) (by kernel_rfl) rfl rfl ?_
      refine AllW.cons rfl (fun K hK => ?_) AllW.nil
      go_simp
      refine hK _ _ (by
        show (World.heap _)[b]? = _
        rw [Below.heap_setCell _ _ _ _ (by show b ≠ w.heap.size; exact hbn), Below.heap_setCell _ _ _ _ (by show b ≠ w.heap.size; exact hbn), Below.heap_setCell _ _ _ _ (by show b ≠ w.heap.size; exact hbn)]
        exact S0.out) ?_
      clear hK K
      intro _
      refine ⟨by kernel_rfl, ?_⟩
      simp only [List.drop_succ_cons, List.drop_zero]
      go_wp2_with fail
      try simp only [Exit.inBlock, Exit.then]
      refine bodyPost_ret (box_ret2 rfl rfl rfl (R3.out.put _ _ _)) rfl ?_
      exact ⟨eret_pair HV.out, below_put D3.out (Nat.le_refl _) _ _ _⟩
/-- expr.Value, of anything. -/
theorem eval_any {ask : List Giv} {w : World} {R R2 : Nat → Prop} {A A2 : Option Addr} {n c n2 c2 : Nat} {l : List Nod} (h : Nds w R A n c l) (hA : Gvs w R2 A2 n2 c2 ask) (hG : ShortG ask) :
    Calls Tryz.prog 47 #[.slice A n c, .slice A2 n2 c2] w fun e w' => e = .returned (.tuple #[(valP ask l).1.val, .int .i64 (valP ask l).2]) ∧ Below w.heap.size w w' := by
  by_cases h0 : l = []
  · exact eval_bad h A2 n2 c2 (.inl h0)
  · by_cases he : exprE l = 0
    · exact eval_good h hA hG h0 he
    · exact eval_bad h A2 n2 c2 (.inr he)
end Go.Proofs.YtmoglaknmlhpgaaGreat
/- expr.Cond. -/
namespace Go.Proofs.YtmoglaknmlhpgaaGreat
set_option linter.unusedVariables false
open Go.RowKit Go.Sort

theorem etruth_t (w : World) : Calls Tryz.prog 48 #[.bool true] w fun e w' => e = .returned (.agg #[.int .i64 1, .int .i64 1, .string ⟨#[]⟩]) ∧ Below w.heap.size w w' := etruth_any true w
theorem etruth_f (w : World) : Calls Tryz.prog 48 #[.bool false] w fun e w' => e = .returned (.agg #[.int .i64 1, .int .i64 0, .string ⟨#[]⟩]) ∧ Below w.heap.size w w' := etruth_any false w
theorem condV_veq (k m : Int) (s : ByteArray) : condV ⟨k, m, s⟩ = if veq ⟨k, m, s⟩ ⟨1, 1, ⟨#[]⟩⟩ = true then 2 else if veq ⟨k, m, s⟩ ⟨1, 0, ⟨#[]⟩⟩ = true then 0 else 1 := by
  rcases condV_cases ⟨k, m, s⟩ with ⟨h1, h2⟩ | ⟨h1, h2⟩ | ⟨⟨h1, h3⟩, h2⟩ <;> rw [h2]
  · have ht : veq ⟨k, m, s⟩ ⟨1, 1, ⟨#[]⟩⟩ = true := veq_true h1
    rw [ht, if_pos rfl]
  · have hne : veq ⟨k, m, s⟩ ⟨1, 1, ⟨#[]⟩⟩ = false := veq_false (by rw [h1]; exact truth_ne.symm)
    have ht : veq ⟨k, m, s⟩ ⟨1, 0, ⟨#[]⟩⟩ = true := veq_true h1
    rw [hne, if_neg (by simp), ht, if_pos rfl]
  · have hne : veq ⟨k, m, s⟩ ⟨1, 1, ⟨#[]⟩⟩ = false := veq_false h1
    have hnf : veq ⟨k, m, s⟩ ⟨1, 0, ⟨#[]⟩⟩ = false := veq_false h3
    rw [hne, hnf, if_neg (by simp), if_neg (by simp)]
set_option maxRecDepth 100000 in
set_option maxHeartbeats 3200000 in
theorem econd_any {ask : List Giv} {w : World} {R R2 : Nat → Prop} {A A2 : Option Addr} {n c n2 c2 : Nat} {l : List Nod} (h : Nds w R A n c l) (hA : Gvs w R2 A2 n2 c2 ask) (hG : ShortG ask) :
    Calls Tryz.prog 35 #[.slice A n c, .slice A2 n2 c2] w fun e w' => e = .returned (.int .i64 (condP ask l)) ∧ Below w.heap.size w w' := by
  have hle := Rw.le h
  have hcap := Rw.cap h
  have hlen := Rw.len h
  unfold maxLen at hcap
  have HVAL := Lib.hid (eval_any h hA hG)
  by_cases h0 : n = 0
  · subst h0
    have hl : l = [] := List.eq_nil_of_length_eq_zero hlen
    have HQ : Hid (condP ask l = 2) := by show _ = _; unfold condP; rw [if_pos hl]
    clear h hA HVAL hlen
    go_enter Tryz.func35, Tryz.ntmps35
    go_wp2_with fail
    go_ret
    exact ⟨ret_int HQ.out.symm, Below.refl _ _⟩
  have hz : ((n : Int) == 0) = false := by rw [beq_eq_false_iff_ne]; omega
  have hl : l ≠ [] := by rintro rfl; exact h0 hlen.symm
  have HQ : Hid (condP ask l = condV (valP ask l).1) := condP_val hl
  generalize condP ask l = cc at *
  obtain ⟨⟨⟨k, m, s⟩, ee⟩, hp⟩ : ∃ q, q = valP ask l := ⟨_, rfl⟩
  rw [← hp] at HVAL HQ
  have HT := Lib.hid etruth_t
  have HF := Lib.hid etruth_f
  have e1 := fun W => val_eq k m 1 1 s ⟨#[]⟩ W
  have e2 := fun W => val_eq k m 1 0 s ⟨#[]⟩ W
  have HQ' : Hid (cc = if veq ⟨k, m, s⟩ ⟨1, 1, ⟨#[]⟩⟩ = true then 2 else if veq ⟨k, m, s⟩ ⟨1, 0, ⟨#[]⟩⟩ = true then 0 else 1) := by
    show _ = _
    rw [HQ.out]
    exact condV_veq k m s
  generalize veq ⟨k, m, s⟩ ⟨1, 1, ⟨#[]⟩⟩ = v1 at *
  generalize veq ⟨k, m, s⟩ ⟨1, 0, ⟨#[]⟩⟩ = v2 at *
  clear h hA hlen h0 hl hp HQ
  cases v1
  · cases v2
    · have hcc : cc = 1 := HQ'.out
      subst hcc
      go_enter Tryz.func35, Tryz.ntmps35
      go_wp2_with (first
        | (go_at_call 47; refine HVAL.out.mono ?_; rintro e w1 ⟨rfl, hb1⟩; have B1 := Lib.hid (hb1.alloc hb1.size (.cells #[.int .i64 k, .int .i64 m, .string s] 40)); simp only [Vl.val]; clear hb1)
        | (go_at_call 48; (with_reducible refine (HT.out _).mono ?_); rintro e w2 ⟨rfl, hb2⟩; have B2 := Lib.hid (below_step B1.out hb2); clear hb2)
        | (go_at_call 48; (with_reducible refine (HF.out _).mono ?_); rintro e w3 ⟨rfl, hb3⟩; have B3 := Lib.hid (below_step B2.out hb3); clear hb3))
      go_ret
      exact ⟨rfl, B3.out⟩
    · have hcc : cc = 0 := HQ'.out
      subst hcc
      go_enter Tryz.func35, Tryz.ntmps35
      go_wp2_with (first
        | (go_at_call 47; refine HVAL.out.mono ?_; rintro e w1 ⟨rfl, hb1⟩; have B1 := Lib.hid (hb1.alloc hb1.size (.cells #[.int .i64 k, .int .i64 m, .string s] 40)); simp only [Vl.val]; clear hb1)
        | (go_at_call 48; (with_reducible refine (HT.out _).mono ?_); rintro e w2 ⟨rfl, hb2⟩; have B2 := Lib.hid (below_step B1.out hb2); clear hb2)
        | (go_at_call 48; (with_reducible refine (HF.out _).mono ?_); rintro e w3 ⟨rfl, hb3⟩; have B3 := Lib.hid (below_step B2.out hb3); clear hb3))
      go_ret
      exact ⟨rfl, B3.out⟩
  · have hcc : cc = 2 := HQ'.out
    subst hcc
    go_enter Tryz.func35, Tryz.ntmps35
    go_wp2_with (first
      | (go_at_call 47; refine HVAL.out.mono ?_; rintro e w1 ⟨rfl, hb1⟩; have B1 := Lib.hid (hb1.alloc hb1.size (.cells #[.int .i64 k, .int .i64 m, .string s] 40)); simp only [Vl.val]; clear hb1)
      | (go_at_call 48; (with_reducible refine (HT.out _).mono ?_); rintro e w2 ⟨rfl, hb2⟩; have B2 := Lib.hid (below_step B1.out hb2); clear hb2))
    go_ret
    exact ⟨rfl, B2.out⟩
end Go.Proofs.YtmoglaknmlhpgaaGreat
/- Indet: the project's and the reference's. -/
namespace Go.Proofs.YtmoglaknmlhpgaaGreat
open Go.RowKit
attribute [local go_sem] eq0 feq2 eq4 fgt0 gt2 ord_eq ord_gt ord_lt run_max_fl

set_option maxHeartbeats 3200000 in
theorem indet_any (p d : Fin 5) (w : World) : Calls Tryz.prog 21 #[.complex .f64 (fl p) (fl d)] w fun z w' => z = .returned (.complex .f64 (fl (indetP p d)) (fl (indetD p d))) ∧ w = w' := by
  obtain rfl | rfl | rfl | rfl | rfl := five p
  all_goals
    obtain rfl | rfl | rfl | rfl | rfl := five d
    all_goals
      go_enter Tryz.func21, Tryz.ntmps21
      go_wp2
      go_ret
      exact ⟨ret_c (by decide +kernel) (by decide +kernel), rfl⟩
end Go.Proofs.YtmoglaknmlhpgaaGreat
/- Package eval: effect, Rule. -/
namespace Go.Proofs.YtmoglaknmlhpgaaGreat
set_option linter.unusedVariables false
open Go.RowKit Go.Sort
attribute [local go_sem] eq0 feq2 eq4 fgt0 gt2 ord_eq ord_gt ord_lt

theorem ev_store {P : Program} {w : World} {a : Addr} {m : Mode} (k : FloatKind) (x y : Nat) : (store a (.complex k x y) m).run P w = stored P w a (.complex k x y) m := run_store P w a _ m rfl
attribute [local go_sem] ev_store
theorem Ob.grownI {w : World} {g i : Nat} {t : TypeId} {cs : Array Value} {a : Value} (h : Ob w g t cs) (hi : cs[i]? = some a) : ∀ d os, (grow (redrawn w d) os).cell? ⟨g, i, none⟩ = some a :=
  fun d os => cell_regrown ((h.cell i).trans hi) d os
theorem res_ret {fn : Func} {t : Tmp} {tmps : Array Value} {w : World} {g : Nat} {m : Value} {A : Option Addr} {n c : Nat} (h : fn.results = #[.cell t 33]) (hp : tmps.getD t undef = .pointer (some ⟨g, 0, none⟩))
    (hg : Ob w g 33 #[m, .slice A n c]) : (results fn tmps).run Tryz.prog w = .ok (.agg #[m, .slice A n c]) w :=
  results_cell_row h tmps w g _ _ (0, 0) _ hp hg Tryz.underlying33 rfl (by kernel_rfl)
/-- A result's box is written: what is above it stays. -/
theorem Dus.set2 {w : World} {g B B0 : Nat} {A : Option Addr} {n c : Nat} {l : List Dut} (h : Dus w (fun b => B ≤ b) A n c l) (hg : g < B) (hB : B0 ≤ B) (u v : Value) : Dus ((w.setCell ⟨g, 0, none⟩ u).setCell ⟨g, 1, none⟩ v) (fun b => B0 ≤ b) A n c l :=
  h.keep ⟨by simp [World.setCell], fun b hb _ => (Below.heap_setCell _ _ _ _ (by have h1 : B ≤ b := hb; show b ≠ g; omega)).trans (Below.heap_setCell _ _ _ _ (by have h1 : B ≤ b := hb; show b ≠ g; omega))⟩ (fun b hb _ => Nat.le_trans hB hb)
theorem below_set2 {w w' : World} {g : Nat} (h : Below w.heap.size w w') (hg : w.heap.size ≤ g) (u v : Value) : Below w.heap.size w ((w'.setCell ⟨g, 0, none⟩ u).setCell ⟨g, 1, none⟩ v) :=
  (h.setCell (p := ⟨g, 0, none⟩) hg u).setCell (p := ⟨g, 1, none⟩) hg v
theorem Ob.set2 {w : World} {g : Nat} {t : TypeId} {a b : Value} (h : Ob w g t #[a, b]) (u v : Value) : Ob ((w.setCell ⟨g, 0, none⟩ u).setCell ⟨g, 1, none⟩ v) g t #[u, v] := by
  simpa using (h.put 0 u).put 1 v
theorem mark_na (m : Mk) (h : m = (0, 0)) : (.complex .f64 0 0 : Value) = .complex .f64 (fl m.1) (fl m.2) := by rw [h, fl0]

set_option maxHeartbeats 800000 in
theorem effect_any (w : World) (s : ByteArray) (b : Bool) (A1 : Option Addr) (n1 c1 : Nat) (A2 : Option Addr) (n2 c2 : Nat) (A3 : Option Addr) (n3 c3 : Nat) :
    Calls Tryz.prog 34 #[.agg #[.string s, .bool b, .slice A1 n1 c1, .slice A2 n2 c2, .slice A3 n3 c3]] w fun e w' => e = .returned (.complex .f64 (fl (effM b).1) (fl (effM b).2)) ∧ Below w.heap.size w w' := by
  have a1 := Lib.hid ((Below.refl w.heap.size w).alloc (Nat.le_refl _) (.cells #[.string s, .bool b, .slice A1 n1 c1, .slice A2 n2 c2, .slice A3 n3 c3] 61))
  cases b
  · go_enter Tryz.func34, Tryz.ntmps34
    go_wp2_with fail
    go_ret
    refine ⟨?_, a1.out⟩
    show _ = Ending.returned (.complex .f64 (fl 4) (fl 0))
    rw [fl0, fl4]
    rfl
  · go_enter Tryz.func34, Tryz.ntmps34
    go_wp2_with fail
    go_ret
    refine ⟨?_, a1.out⟩
    show _ = Ending.returned (.complex .f64 (fl 0) (fl 4))
    rw [fl0, fl4]
    rfl

/-- A rule's parts: what is asked of them here. -/
def ShortD (l : List Dut) : Prop := ∀ o ∈ l, o.arg.size ≤ 1000000
set_option maxRecDepth 100000 in
set_option maxHeartbeats 3200000 in
theorem evrule_any {ask : List Giv} {w : World} {R R2 : Nat → Prop} {A : Option Addr} {n c : Nat} {r : Rul} {A1 A2 A3 : Option Addr} {n1 n2 n3 c1 c2 c3 : Nat} (h1 : Tg w R A1 n1 c1 r.tg) (h2 : Nds w R A2 n2 c2 r.cond) (h3 : Dus w R A3 n3 c3 r.ob)
    (hs : ShortD r.ob) (hn : n3 ≤ 500000) (hA : Gvs w R2 A n c ask) (hG : ShortG ask) :
    Calls Tryz.prog 23 #[.agg #[.string r.id, .bool r.deny, .slice A1 n1 c1, .slice A2 n2 c2, .slice A3 n3 c3], .slice A n c] w fun e w' => ∃ A' n' c', e = .returned (.agg #[.complex .f64 (fl (ruleV ask r).m.1) (fl (ruleV ask r).m.2), .slice A' n' c']) ∧ Below w.heap.size w w' ∧ Dus w' (fun b => w.heap.size ≤ b) A' n' c' (ruleV ask r).ob := by
  have HM := Lib.hid (fun W (hW : Below w.heap.size w W) => tgmet_any (w := W) (h1.keep (Kept.all hW R) (fun _ h _ => h)) (hA.keep (Kept.all hW R2) (fun _ h _ => h)) hG)
  have HC := Lib.hid (fun W (hW : Below w.heap.size w W) => econd_any (w := W) (h2.keep (Kept.all hW R) (fun _ h _ => h)) (hA.keep (Kept.all hW R2) (fun _ h _ => h)) hG)
  have HD := Lib.hid (fun W (hW : Below w.heap.size w W) (p d : Fin 5) => duties_any (w := W) p d (h3.keep (Kept.all hW R) (fun _ h _ => h)) hs hn)
  have HN := Lib.hid hn
  have HL3 := Lib.hid (Rw.len h3)
  have HE := Lib.hid (fun W => effect_any W r.id r.deny A1 n1 c1 A2 n2 c2 A3 n3 c3)
  have HV : Hid (ruleV ask r = ruleO (metI ask r.tg) (condP ask r.cond) r) := rfl
  have HT := Lib.hid (tri_met ask r.tg)
  have HK : Hid (condP ask r.cond = 0 ∨ condP ask r.cond = 1 ∨ condP ask r.cond = 2) := by
    show _ ∨ _
    unfold condP
    repeat' split
    all_goals simp
  have HO : Hid (ruleO (metI ask r.tg) (condP ask r.cond) r = if metI ask r.tg = 0 ∨ metI ask r.tg = 2 ∧ condP ask r.cond = 0 then noRes else if metI ask r.tg = 1 ∨ condP ask r.cond = 1 then ⟨indM (effM r.deny), []⟩ else ⟨effM r.deny, dutsM r.ob (effM r.deny)⟩) := rfl
  generalize metI ask r.tg = t at *
  generalize condP ask r.cond = cc at *
  generalize ruleV ask r = v at *
  generalize ruleO t cc r = v' at *
  obtain ⟨q, hq⟩ : ∃ q, q = effM r.deny := ⟨_, rfl⟩
  rw [← hq] at HE HO
  obtain ⟨p, d⟩ := q
  obtain ⟨s, b, tg, cond, ob⟩ := r
  simp only at HE HO HD HL3
  have OB := Lib.hid (Ob.made w 61 #[.string s, .bool b, .slice A1 n1 c1, .slice A2 n2 c2, .slice A3 n3 c3])
  have a1 : Below w.heap.size w (w.alloc (.cells #[.string s, .bool b, .slice A1 n1 c1, .slice A2 n2 c2, .slice A3 n3 c3] 61)) := (Below.refl w.heap.size w).alloc (Nat.le_refl _) _
  have OB2 := Lib.hid (OB.out.keep (w' := (w.alloc (.cells #[.string s, .bool b, .slice A1 n1 c1, .slice A2 n2 c2, .slice A3 n3 c3] 61)).alloc (.cells #[.complex .f64 0 0, .slice none 0 0] 33)) (Below.heap_alloc _ _ _ OB.out.lt))
  have OR := Ob.made (w.alloc (.cells #[.string s, .bool b, .slice A1 n1 c1, .slice A2 n2 c2, .slice A3 n3 c3] 61)) 33 #[.complex .f64 0 0, .slice none 0 0]
  rw [size_al] at OR
  have OR2 := Lib.hid OR
  have D2 := Lib.hid (a1.alloc (by rw [size_al]; omega) (.cells #[.complex .f64 0 0, .slice none 0 0] 33))
  have HZ2 : Hid (((w.alloc (.cells #[.string s, .bool b, .slice A1 n1 c1, .slice A2 n2 c2, .slice A3 n3 c3] 61)).alloc (.cells #[.complex .f64 0 0, .slice none 0 0] 33)).heap.size = w.heap.size + 2) := by show _ = _; rw [size_al, size_al]
  have o0 := OB2.out.cell 0
  have o1 := OB2.out.cell 1
  have o2 := OB2.out.cell 2
  have o3 := OB2.out.cell 3
  have o4 := OB2.out.cell 4
  clear h1 h2 h3 hs hn hA hG OB OR a1 hq
  go_enter Tryz.func23, Tryz.ntmps23
  go_wp2_with fail
  refine (HE.out _).mono ?_
  rintro e w1 ⟨rfl, hb⟩
  have D3 := Lib.hid (below_step D2.out hb)
  have OB3 := Lib.hid (OB2.out.below hb OB2.out.lt)
  have OR3 := Lib.hid (OR2.out.below hb OR2.out.lt)
  have HZ3 : Hid (w.heap.size + 2 ≤ w1.heap.size) := by have h1 := hb.size; have h2 := HZ2.out; show _ ≤ _; omega
  clear hb o0 o1 o2 o3 o4
  have g2 := OB3.out.grownI (i := 2) rfl
  have g3 := OB3.out.grownI (i := 3) rfl
  have QM := Lib.hid (fun d os => Calls.regrown_of (w := w1) (d := d) (os := os) (HM.out (grow (redrawn w1 d) os) (D3.out.trans ((below_regrown w1 d os).mono D3.out.size))))
  have QC := Lib.hid (fun d os => Calls.regrown_of (w := w1) (d := d) (os := os) (HC.out (grow (redrawn w1 d) os) (D3.out.trans ((below_regrown w1 d os).mono D3.out.size))))
  go_wp2_with fail
  refine wp_region_quiet_below (by kernel_rfl) (by kernel_rfl) ?_
  repeat (go_big_quiet_step (first | (go_at_call 24; with_reducible exact QM.out _ _) | (go_at_call 35; with_reducible exact QC.out _ _)))
  refine wpQuiet_nil ?_
  intro _ hw'
  obtain ⟨⟨dq, osq⟩, hw''⟩ := hw'
  subst hw''
  have hb := below_regrown w1 dq osq
  generalize grow (redrawn w1 dq) osq = w2 at *
  have D4 := Lib.hid (below_step D3.out hb)
  have OB4 := Lib.hid (OB3.out.below hb OB3.out.lt)
  have OR4 := Lib.hid (OR3.out.below hb OR3.out.lt)
  have HZ4 : Hid (w.heap.size + 2 ≤ w2.heap.size) := by have h1 := hb.size; have h2 := HZ3.out; show _ ≤ _; omega
  clear hb g2 g3 QM QC
  rcases (show t = 0 ∨ t = 1 ∨ t = 2 by have := HT.out; unfold Tri at this; omega) with rfl | rfl | rfl
  · have HQ : Hid (v' = noRes) := HO.out.trans (if_pos (.inl rfl))
    have r0 := OR4.out.cell 0
    have r1 := OR4.out.cell 1
    have s0 := OR4.out.frozen 0
    have s1 := OR4.out.frozen 1
    go_wp2_with fail
    try simp only [Exit.inBlock, Exit.then]
    refine bodyPost_ret (res_ret rfl rfl (OR4.out.set2 (.complex .f64 0 0) (.slice none 0 0))) rfl ?_
    exact ⟨none, 0, 0, by rw [HV.out, HQ.out, mark_na noRes.m rfl], below_set2 D4.out (by omega) _ _, by rw [HV.out, HQ.out]; exact Rw.nil_ _ _ _ _⟩
  · have HQ : Hid (v' = ⟨indM (p, d), []⟩) := HO.out.trans ((if_neg (by omega)).trans (if_pos (.inl rfl)))
    have HI := Lib.hid (indet_any p d)
    have r0 := OR4.out.cell 0
    have r1 := OR4.out.cell 1
    have s0 := OR4.out.frozen 0
    have s1 := OR4.out.frozen 1
    go_wp2_with fail
    refine (HI.out _).mono ?_
    rintro z w' ⟨rfl, rfl⟩
    go_wp2_with fail
    try simp only [Exit.inBlock, Exit.then]
    refine bodyPost_ret (res_ret rfl rfl (OR4.out.set2 (.complex .f64 (fl (indetP p d)) (fl (indetD p d))) (.slice none 0 0))) rfl ?_
    exact ⟨none, 0, 0, by rw [HV.out, HQ.out]; rfl, below_set2 D4.out (by omega) _ _, by rw [HV.out, HQ.out]; exact Rw.nil_ _ _ _ _⟩
  · rcases HK.out with rfl | rfl | rfl
    · have HQ : Hid (v' = noRes) := HO.out.trans (if_pos (.inr ⟨rfl, rfl⟩))
      have r0 := OR4.out.cell 0
      have r1 := OR4.out.cell 1
      have s0 := OR4.out.frozen 0
      have s1 := OR4.out.frozen 1
      go_wp2_with fail
      try simp only [Exit.inBlock, Exit.then]
      refine bodyPost_ret (res_ret rfl rfl (OR4.out.set2 (.complex .f64 0 0) (.slice none 0 0))) rfl ?_
      exact ⟨none, 0, 0, by rw [HV.out, HQ.out, mark_na noRes.m rfl], below_set2 D4.out (by omega) _ _, by rw [HV.out, HQ.out]; exact Rw.nil_ _ _ _ _⟩
    · have HQ : Hid (v' = ⟨indM (p, d), []⟩) := HO.out.trans ((if_neg (by omega)).trans (if_pos (.inr rfl)))
      have HI := Lib.hid (indet_any p d)
      have r0 := OR4.out.cell 0
      have r1 := OR4.out.cell 1
      have s0 := OR4.out.frozen 0
      have s1 := OR4.out.frozen 1
      go_wp2_with fail
      refine (HI.out _).mono ?_
      rintro z w' ⟨rfl, rfl⟩
      go_wp2_with fail
      try simp only [Exit.inBlock, Exit.then]
      refine bodyPost_ret (res_ret rfl rfl (OR4.out.set2 (.complex .f64 (fl (indetP p d)) (fl (indetD p d))) (.slice none 0 0))) rfl ?_
      exact ⟨none, 0, 0, by rw [HV.out, HQ.out]; rfl, below_set2 D4.out (by omega) _ _, by rw [HV.out, HQ.out]; exact Rw.nil_ _ _ _ _⟩
    · have HQ : Hid (v' = ⟨(p, d), dutsM ob (p, d)⟩) := HO.out.trans ((if_neg (by omega)).trans (if_neg (by omega)))
      have o4 := OB4.out.cell 4
      go_wp2_with fail
      refine (HD.out _ D4.out p d).mono ?_
      rintro z w3 ⟨A', n', c', rfl, hb, ho⟩
      have OR5 := Lib.hid (OR4.out.below hb OR4.out.lt)
      have D5 := Lib.hid (below_step D4.out hb)
      have HLn : Hid ((dutsM ob (p, d)).length = n') := ho.2.1
      have HLe := Lib.hid (dutsM_len ob (p, d))
      have HLo : Hid (ob.length = n3) := HL3.out
      have DU := Lib.hid (ho.dus (by have h1 := HLn.out; have h2 := HLe.out; have h3 := HLo.out; have h4 := HN.out; omega))
      clear hb ho
      have r0 := OR5.out.cell 0
      have r1 := OR5.out.cell 1
      have s0 := OR5.out.frozen 0
      have s1 := OR5.out.frozen 1
      go_wp2_with fail
      try simp only [Exit.inBlock, Exit.then]
      refine bodyPost_ret (res_ret rfl rfl (OR5.out.set2 (.complex .f64 (fl p) (fl d)) (.slice A' n' c'))) rfl ?_
      exact ⟨A', n', c', by rw [HV.out, HQ.out], below_set2 D5.out (by omega) _ _, by rw [HV.out, HQ.out]; exact DU.out.set2 (by have := HZ4.out; omega) (by have := HZ4.out; omega) _ _⟩
end Go.Proofs.YtmoglaknmlhpgaaGreat
/- All for any algorithm and any marks. -/
namespace Go.Proofs.YtmoglaknmlhpgaaGreat
set_option linter.unusedVariables false
open Go.RowKit
attribute [local go_sem] eq0 feq2 eq4 fgt0 gt2 ord_eq ord_gt ord_lt run_max_fl

theorem allK_bad1 {a : Int} (h : algB a = false) (l : List Mk) : allK a l = ((0, 0), 1) := by unfold allK; rw [h]; rfl
theorem allK_bad2 (a : Int) {l : List Mk} (h : l.all rightK = false) : allK a l = ((0, 0), 1) := by unfold allK; rw [h, Bool.and_false]; rfl

set_option maxHeartbeats 1600000 in
theorem comball_any {w : World} {B n c : Nat} {A : Option Addr} {l : List Mk} (a : Int) {p d : Fin 5} {e : Int} (h : Sl w B A n c (mv l)) (hr : allK a l = ((p, d), e)) :
    Calls Tryz.prog 69 #[.int .i64 a, .slice A n c] w fun z w' => z = .returned (.tuple #[.complex .f64 (fl p) (fl d), .int .i64 e]) ∧ w = w' := by
  by_cases ha : algB a = true
  · by_cases hl : l.all rightK = true
    · obtain ⟨i, rfl⟩ := alg_of ha
      rw [allK_right i (List.all_eq_true.1 hl)] at hr
      obtain ⟨hm, rfl⟩ := Prod.mk.inj hr
      exact all_to i h (List.all_eq_true.1 hl) hm
    · have hl' : l.all rightK = false := by simpa using hl
      rw [allK_bad2 a hl'] at hr
      obtain ⟨hm, rfl⟩ := Prod.mk.inj hr
      obtain ⟨rfl, rfl⟩ := Prod.mk.inj hm
      have c1 := cmarks_any h
      have c2 := cright_any a
      rw [hl'] at c1
      rw [ha] at c2
      have C1 := Lib.hid c1
      have C2 := Lib.hid c2
      clear c1 c2 h hl hl' ha hm hr
      go_enter Tryz.func69, Tryz.ntmps69
      go_wp2_with fail
      refine (C2.out _).mono ?_
      rintro z w' ⟨rfl, rfl⟩
      go_wp2_with fail
      refine C1.out.mono ?_
      rintro z w' ⟨rfl, rfl⟩
      go_wp2_with fail
      go_ret2
      exact ⟨by rw [fl0]; rfl, rfl⟩
  · have ha' : algB a = false := by simpa using ha
    rw [allK_bad1 ha'] at hr
    obtain ⟨hm, rfl⟩ := Prod.mk.inj hr
    obtain ⟨rfl, rfl⟩ := Prod.mk.inj hm
    have c2 := cright_any a
    rw [ha'] at c2
    have C2 := Lib.hid c2
    clear c2 h ha ha' hm hr
    go_enter Tryz.func69, Tryz.ntmps69
    go_wp2_with fail
    refine (C2.out _).mono ?_
    rintro z w' ⟨rfl, rfl⟩
    go_wp2_with fail
    go_ret2
    exact ⟨by rw [fl0]; rfl, rfl⟩

end Go.Proofs.YtmoglaknmlhpgaaGreat
/- Package eval: joined, along. -/
namespace Go.Proofs.YtmoglaknmlhpgaaGreat
set_option linter.unusedVariables false
open Go.RowKit
attribute [local go_sem] eq0 feq2 eq4 fgt0 gt2 ord_eq ord_gt ord_lt ev_store

theorem map_step {α β : Type} (f : α → β) {l : List α} {k : Nat} {x : α} (h : l[k]? = some x) : (l.take (k + 1)).map f = (l.take k).map f ++ [f x] := by
  obtain ⟨hk, e⟩ := List.getElem?_eq_some_iff.1 h
  rw [List.take_succ_eq_append_getElem hk, e, List.map_append]
  rfl
set_option maxRecDepth 100000 in
set_option maxHeartbeats 1600000 in
theorem joined_any {w : World} {R : Nat → Prop} {A : Option Addr} {n c : Nat} {l : List Res} (alg : Int) (h : Rss w R A n c l) (hn : n ≤ 700000) :
    Calls Tryz.prog 42 #[.int .i64 alg, .slice A n c] w fun e w' => e = .returned (.complex .f64 (fl (joinV alg l).1) (fl (joinV alg l).2)) ∧ Below w.heap.size w w' := by
  have hle := Rw.le h
  have hcap := Rw.cap h
  have HL := Lib.hid (Rw.len h)
  unfold maxLen at hcap
  have H := Lib.hid h
  obtain ⟨⟨⟨p, d⟩, e⟩, hq⟩ : ∃ q, allK alg (l.map Res.m) = q := ⟨_, rfl⟩
  have HQ := Lib.hid hq
  have HJ : Hid (joinV alg l = (p, d)) := by show _ = _; unfold joinV; rw [hq]
  generalize joinV alg l = j at *
  clear h hq
  go_enter Tryz.func42, Tryz.ntmps42
  go_wp2
  go_loopw [5, 12] (fun out i wr => ∃ (k : Nat) (A' : Option Addr) (c' : Nat), k ≤ n ∧ i = .int .i64 k ∧ out = .slice A' k c' ∧ OwM wr w.heap.size A' k c' ((l.take k).map Res.m) ∧ Below w.heap.size w wr) (fun out i _ => n - (intOf i).toNat)
  case atStart => exact ⟨0, none, 0, Nat.zero_le _, rfl, rfl, OwM.nil _ _ (Nat.le_refl _), Below.refl _ _⟩
  case round =>
    obtain ⟨k, A', c', hk, rfl, rfl, ho, hb⟩ := hrel
    have HO := Lib.hid ho
    have HB := Lib.hid hb
    clear ho hb
    by_cases hlt : k < n
    · obtain ⟨b, o, r, Ax, nx, cx, rfl, hRb, hbl, hx, ⟨x0, x1⟩, hin⟩ := (H.out.keep (Kept.all HB.out R) (fun _ h _ => h)).at_ hlt
      have HF := Lib.hid (map_step Res.m hx)
      obtain ⟨⟨rp, rd⟩, rob⟩ := r
      simp only at x0 x1
      have a1 : Below wr.heap.size wr (wr.alloc (.cells #[.complex .f64 (fl rp) (fl rd), .slice Ax nx cx] 33)) := (Below.refl _ _).alloc (Nat.le_refl _) _
      obtain ⟨A2, c2, w3, r3, o3, b3⟩ := (HO.out.below a1).push (m := (rp, rd)) (by omega) 134
      rw [size_al] at r3
      simp only at r3
      have R3 := Lib.hid r3
      have O3 := Lib.hid o3
      have B3 := Lib.hid (HB.out.trans ((a1.mono HB.out.size).trans b3))
      clear hx hin a1 r3 o3 b3
      go_wp2_with (first
        | (at_builtin; refine wpList_append_run (o := ⟨some 20, _, _, _, _, _⟩) rfl _ _ _ _ rfl rfl rfl R3.out ?_))
      go_roundw
      case rel => exact ⟨k + 1, A2, c2, by omega, by go_num, rfl, by rw [HF.out]; exact O3.out, B3.out⟩
      case measure => simp [intOf]; omega
    · obtain rfl : k = n := by omega
      have ho := HO.out
      rw [List.take_of_length_le (by have := HL.out; omega)] at ho
      have HA := Lib.hid (comball_any (w := wr) alg ho.sl HQ.out)
      clear ho
      go_wp2_with fail
      refine HA.out.mono ?_
      rintro z w' ⟨rfl, rfl⟩
      go_wp2_with fail
      go_ret
      exact ⟨by rw [HJ.out]; rfl, HB.out⟩
theorem obS_step {l : List Res} {k : Nat} {x : Res} (h : l[k]? = some x) : obS (l.take (k + 1)) = obS (l.take k) + x.ob.length := by
  obtain ⟨hk, e⟩ := List.getElem?_eq_some_iff.1 h
  rw [List.take_succ_eq_append_getElem hk, e, obS_app]
  rfl
theorem along_step {alg : Int} {m : Mk} {l : List Res} {k : Nat} {x : Res} (h : l[k]? = some x) (hn : alg = 3 → ∀ r ∈ l.take k, r.m ≠ m) : alongV alg m (l.take (k + 1)) = alongV alg m (l.take k) ++ if x.m = m then x.ob else [] := by
  obtain ⟨hk, e⟩ := List.getElem?_eq_some_iff.1 h
  rw [List.take_succ_eq_append_getElem hk, e]
  have h1 : alongV alg m [x] = if x.m = m then x.ob else [] := by
    unfold alongV
    simp only [alongV, List.append_nil]
    split
    · split <;> rfl
    · rfl
  by_cases h3 : alg = 3
  · have h0 := along_none (alg := alg) [] (hn h3)
    rw [List.append_nil] at h0
    rw [along_none [x] (hn h3), h0, h1]
    rfl
  · rw [along_app h3, h1]
theorem along_stop {alg : Int} {m : Mk} {l : List Res} {k : Nat} {x : Res} (h : l[k]? = some x) (h3 : alg = 3) (hn : ∀ r ∈ l.take k, r.m ≠ m) (hx : x.m = m) : alongV alg m l = alongV alg m (l.take (k + 1)) := by
  obtain ⟨hk, e⟩ := List.getElem?_eq_some_iff.1 h
  conv => lhs; rw [← List.take_append_drop k l, List.drop_eq_getElem_cons hk, e]
  rw [List.take_succ_eq_append_getElem hk, e, along_none _ hn, along_none _ hn]
  unfold alongV
  rw [if_pos hx, if_pos h3, if_pos hx, if_pos h3]
set_option maxRecDepth 100000 in
set_option maxHeartbeats 1600000 in
theorem along_any {w : World} {R : Nat → Prop} {A : Option Addr} {n c : Nat} {l : List Res} (alg : Int) (p d : Fin 5) (h : Rss w R A n c l) (hn : obS l ≤ 700000) :
    Calls Tryz.prog 43 #[.int .i64 alg, .slice A n c, .complex .f64 (fl p) (fl d)] w fun e w' => ∃ A' n' c', e = .returned (.slice A' n' c') ∧ Below w.heap.size w w' ∧ OwD w' w.heap.size A' n' c' (alongV alg (p, d) l) := by
  have hle := Rw.le h
  have hcap := Rw.cap h
  have HL := Lib.hid (Rw.len h)
  unfold maxLen at hcap
  have H := Lib.hid h
  clear h
  have HN := Lib.hid hn
  go_enter Tryz.func43, Tryz.ntmps43
  go_wp2
  go_loopw [7, 12] (fun out i wr => ∃ (k : Nat) (A' : Option Addr) (n' c' : Nat), k ≤ n ∧ i = .int .i64 k ∧ out = .slice A' n' c' ∧ (n' ≤ obS (l.take k) ∧ OwD wr w.heap.size A' n' c' (alongV alg (p, d) (l.take k)) ∧ (alg = 3 → ∀ r ∈ l.take k, r.m ≠ (p, d))) ∧ Below w.heap.size w wr) (fun out i _ => n - (intOf i).toNat)
  case atStart => exact ⟨0, none, 0, 0, Nat.zero_le _, rfl, rfl, ⟨Nat.zero_le _, OwD.nil _ _ (Nat.le_refl _), fun _ r hr => by simp at hr⟩, Below.refl _ _⟩
  case round =>
    obtain ⟨k, A', n', c', hk, rfl, rfl, ho, hb⟩ := hrel
    have HO := Lib.hid ho
    have HB := Lib.hid hb
    clear ho hb
    by_cases hlt : k < n
    · obtain ⟨b, o, r, Ax, nx, cx, rfl, hRb, hbl, hx, ⟨x0, x1⟩, hin⟩ := (H.out.keep (Kept.all HB.out R) (fun _ h _ => h)).at_ hlt
      have HX := Lib.hid hx
      have HF := Lib.hid (along_step hx HO.out.2.2)
      have HS := Lib.hid (obS_step hx)
      have HS2 := Lib.hid (obS_take l (k + 1))
      obtain ⟨⟨rp, rd⟩, rob⟩ := r
      simp only at x0 x1 hin
      have a1 : Below wr.heap.size wr (wr.alloc (.cells #[.complex .f64 (fl rp) (fl rd), .slice Ax nx cx] 33)) := (Below.refl _ _).alloc (Nat.le_refl _) _
      have HNX : Hid (nx = rob.length) := (Rw.len hin).symm
      by_cases hm : (rp, rd) = (p, d)
      · obtain ⟨rfl, rfl⟩ := Prod.mk.inj hm
        obtain ⟨A2, c2, w3, r3, o3, b3⟩ := (HO.out.2.1.below a1).app (hin.keep (Kept.all a1 R) (fun _ h _ => h)) (by have h1 := HO.out.1; have h2 := HS.out; have h3 := HS2.out; have h4 := HNX.out; have h5 := HN.out; simp only at h2; omega) 26
        have R3 := Lib.hid r3
        have O3 := Lib.hid o3
        have B3 := Lib.hid (HB.out.trans ((a1.mono HB.out.size).trans b3))
        have HE : Hid (alongV alg (rp, rd) (l.take (k + 1)) = alongV alg (rp, rd) (l.take k) ++ rob) := HF.out.trans (by rw [if_pos rfl])
        have HLen : Hid (n' + nx ≤ obS (l.take (k + 1))) := by have h1 := HO.out.1; have h2 := HS.out; have h4 := HNX.out; simp only at h2; show _ ≤ _; omega
        clear hx hin a1 r3 o3 b3 hm HF
        by_cases h3 : alg = 3
        · have hb3 : (alg == 3) = true := by rw [beq_iff_eq]; exact h3
          have HW := Lib.hid (along_stop HX.out h3 (HO.out.2.2 h3) rfl)
          clear h3
          go_wp2_with (first
            | (at_builtin; refine wpList_append_run (o := ⟨some 23, _, _, _, _, _⟩) rfl _ _ _ _ rfl rfl rfl R3.out ?_))
          go_ret
          exact ⟨A2, n' + nx, c2, rfl, B3.out, by rw [HW.out, HE.out]; exact O3.out⟩
        · have hb3 : (alg == 3) = false := by rw [beq_eq_false_iff_ne]; exact h3
          have H3 := Lib.hid h3
          clear h3
          go_wp2_with (first
            | (at_builtin; refine wpList_append_run (o := ⟨some 23, _, _, _, _, _⟩) rfl _ _ _ _ rfl rfl rfl R3.out ?_))
          go_roundw
          case rel => exact ⟨k + 1, A2, n' + nx, c2, by omega, by go_num, rfl, ⟨HLen.out, by rw [HE.out]; exact O3.out, fun h => absurd h H3.out⟩, B3.out⟩
          case measure => simp [intOf]; omega
      · have hmb : (rp == p && rd == d) = false := by
          rw [Bool.eq_false_iff]
          intro h
          rw [Bool.and_eq_true, beq_iff_eq, beq_iff_eq] at h
          exact hm (by rw [h.1, h.2])
        have HE : Hid (alongV alg (p, d) (l.take (k + 1)) = alongV alg (p, d) (l.take k)) := HF.out.trans (by rw [if_neg hm, List.append_nil])
        have HM : Hid (alg = 3 → ∀ r ∈ l.take (k + 1), r.m ≠ (p, d)) := fun h3 r hr => by
          obtain ⟨hk', e⟩ := List.getElem?_eq_some_iff.1 HX.out
          rw [List.take_succ_eq_append_getElem hk', e] at hr
          rcases List.mem_append.1 hr with hr | hr
          · exact HO.out.2.2 h3 r hr
          · simp at hr
            subst hr
            exact hm
        have A1 := Lib.hid a1
        clear hx hin a1 hm HF
        go_wp2_with fail
        go_roundw
        case rel => exact ⟨k + 1, A', n', c', by omega, by go_num, rfl, ⟨by have h1 := HO.out.1; have h2 := HS.out; omega, by rw [HE.out]; exact HO.out.2.1.below A1.out, HM.out⟩, below_step HB.out A1.out⟩
        case measure => simp [intOf]; omega
    · obtain rfl : k = n := by omega
      go_wp2
      go_ret
      have ho := HO.out
      rw [List.take_of_length_le (by have := HL.out; omega)] at ho
      exact ⟨A', n', c', rfl, HB.out, ho.2.1⟩
end Go.Proofs.YtmoglaknmlhpgaaGreat
/- A builtin append whose run is known, as an operation of a region's head. -/
namespace Go.Proofs.YtmoglaknmlhpgaaGreat
set_option linter.unusedVariables false
open Go.RowKit

theorem oper_append {P : Program} {o : Oper} {a : Act} {w w' : World} {K : Act → World → Prop} {Q : Exit → Act → World → Prop} (s x : Operand) (t u : TypeId)
    (hop : o.op = Op.call { callee := Callee.builtin Builtin.append, args := #[s, x], argTypes := #[t, u] }) {sv xv v' : Value} (hs : a.eval s = sv) (hx : a.eval x = xv) (hrun : (Builtin.append_ #[t, u] o.type #[sv, xv]).run P w = .ok v' w') (hK : K (a.put o.dst v') w') : Oper.wp P o a w K Q := by
  unfold Oper.wp
  simp [execOp, hop, resolve, invoke, builtin, hs, hx, hrun, Result.andThen]
  exact hK
end Go.Proofs.YtmoglaknmlhpgaaGreat
/- Package eval: parts, decided, Policy. -/
namespace Go.Proofs.YtmoglaknmlhpgaaGreat
set_option linter.unusedVariables false
open Go.RowKit
attribute [local go_sem] eq0 feq2 eq4 fgt0 gt2 ord_eq ord_gt ord_lt ev_store

/-- Right, as far as it may go. -/
def RightAt (p : Pol) : Prop := ∃ d s s', d ≤ 4 ∧ polS d p s = (0, s')
theorem right_at {p : Pol} (h : rightE p = 0) : RightAt p := ⟨4, ⟨[], 0⟩, (polS 4 p ⟨[], 0⟩).2, by omega, by unfold rightE at h; rw [← h]⟩
theorem dut_short {o : Dut} (h : dutE o = 0) : o.arg.size ≤ 1000000 := by
  unfold dutE at h
  split at h
  · rename_i hc
    have := hc.2.2.2
    unfold Named at this
    have h1 := this.1.2
    have : o.arg.size = (bl o.arg).length := by
      show o.arg.data.size = o.arg.data.toList.length
      exact Array.length_toList.symm
    omega
  · cases h
theorem firstE_all {α : Type} {f : α → Int} : ∀ {l : List α}, firstE f l = 0 → ∀ x ∈ l, f x = 0
  | [], _, x, hx => by simp at hx
  | y :: l, h, x, hx => by
    simp only [firstE] at h
    split at h
    · rename_i h0; exact absurd h h0
    · rename_i h0
      rcases List.mem_cons.1 hx with rfl | hx
      · simpa using h0
      · exact firstE_all h x hx
theorem ob_short {l : List Dut} (h : obE l = 0) : ShortD l := fun o ho => by
  unfold obE at h
  split at h
  · cases h
  · exact dut_short (firstE_all h o ho)
theorem RightAt.all {p : Pol} (h : RightAt p) : (∀ k ∈ p.kids, RightAt k) ∧ (obE p.ob = 0 ∧ tgE p.tg = 0) ∧ (∀ r ∈ p.rules, tgE r.tg = 0 ∧ exprE r.cond = 0 ∧ obE r.ob = 0) ∧ szP p ≤ 700000 ∧ p.rules.length ≤ 16 ∧ p.kids.length ≤ 16 := by
  obtain ⟨d, s, s', hd, e⟩ := h
  match d, hd, e with
  | 0, _, e => simp [polS] at e
  | d + 1, hd, e =>
    have hc := sz_cap (d + 1) e
    obtain ⟨_, h2, h3, h4, h5, s1, s2, h6, h7⟩ := polE_parts e
    have hcap : capP (d + 1) ≤ 700000 := by
      rcases (show d = 0 ∨ d = 1 ∨ d = 2 ∨ d = 3 by omega) with rfl | rfl | rfl | rfl <;> decide
    refine ⟨fun k hk => ?_, ⟨h3, h2⟩, fun r hr => ?_, by omega, h4, h5⟩
    · obtain ⟨x, y, e'⟩ := firsts_all h7 k hk
      exact ⟨d, x, y, by omega, e'⟩
    · obtain ⟨x, y, e'⟩ := firsts_all h6 r hr
      exact rule_parts e'

/-- A policy whose kids are of no more than so many depths. -/
def DecOk (d : Nat) : Prop :=
  ∀ {ask : List Giv} {w : World} {R R2 : Nat → Prop} {A : Option Addr} {n c : Nat} {p : Pol} {A1 A2 A3 A4 : Option Addr} {n1 k1 n2 k2 n3 k3 n4 k4 : Nat}, RightAt p →
    Tg w R A1 n1 k1 p.tg → Rus w R A2 n2 k2 p.rules → Pls w R d A3 n3 k3 p.kids → Dus w R A4 n4 k4 p.ob → Gvs w R2 A n c ask → ShortG ask →
    Calls Tryz.prog 26 #[.agg #[.string p.id, .bool p.set, .int .i64 p.alg, .slice A1 n1 k1, .slice A2 n2 k2, .slice A3 n3 k3, .slice A4 n4 k4], .slice A n c] w
      fun e w' => ∃ A' n' c', e = .returned (.agg #[.complex .f64 (fl (evV ask p).m.1) (fl (evV ask p).m.2), .slice A' n' c']) ∧ Below w.heap.size w w' ∧ Dus w' (fun b => w.heap.size ≤ b) A' n' c' (evV ask p).ob
set_option maxRecDepth 100000 in
set_option maxHeartbeats 3200000 in
theorem evparts_any (d : Nat) (ih : ∀ d', d = d' + 1 → DecOk d') {ask : List Giv} {w : World} {R R2 : Nat → Prop} {A : Option Addr} {n c : Nat} {p : Pol} {A1 A2 A3 A4 : Option Addr} {n1 k1 n2 k2 n3 k3 n4 k4 : Nat} (hp : RightAt p)
    (h2 : Rus w R A2 n2 k2 p.rules) (h3 : Pls w R d A3 n3 k3 p.kids) (hA : Gvs w R2 A n c ask) (hG : ShortG ask) :
    Calls Tryz.prog 41 #[.agg #[.string p.id, .bool p.set, .int .i64 p.alg, .slice A1 n1 k1, .slice A2 n2 k2, .slice A3 n3 k3, .slice A4 n4 k4], .slice A n c] w
      fun e w' => ∃ A' n' c', e = .returned (.slice A' n' c') ∧ Below w.heap.size w w' ∧ Rss w' (fun b => w.heap.size ≤ b) A' n' c' (partsV ask p) := by
  have HRA := Lib.hid hp.all
  have hle2 := Rw.le h2
  have hcap2 := Rw.cap h2
  have hle3 := Rw.le h3
  have hcap3 := Rw.cap h3
  unfold maxLen at hcap2 hcap3
  have HL2 := Lib.hid (Rw.len h2)
  have HL3 := Lib.hid (Rw.len h3)
  have HB2 : Hid (n2 ≤ 16) := by have := hp.all.2.2.2.2.1; have := Rw.len h2; show _ ≤ _; omega
  have HB3 : Hid (n3 ≤ 16) := by have := hp.all.2.2.2.2.2; have := Rw.len h3; show _ ≤ _; omega
  have H2 := Lib.hid h2
  have H3 := Lib.hid h3
  have HA := Lib.hid hA
  have HIH := Lib.hid ih
  have OB0 := Ob.made w 28 #[.string p.id, .bool p.set, .int .i64 p.alg, .slice A1 n1 k1, .slice A2 n2 k2, .slice A3 n3 k3, .slice A4 n4 k4]
  have a0 : Below w.heap.size w (w.alloc (.cells #[.string p.id, .bool p.set, .int .i64 p.alg, .slice A1 n1 k1, .slice A2 n2 k2, .slice A3 n3 k3, .slice A4 n4 k4] 28)) := (Below.refl w.heap.size w).alloc (Nat.le_refl _) _
  have OB := Lib.hid OB0
  have A0 := Lib.hid a0
  have HV : Hid (partsV ask p = p.rules.map (ruleV ask) ++ p.kids.map (evV ask)) := rfl
  have q4 := OB0.cell 4
  clear hp h2 h3 hA OB0 a0 ih
  go_enter Tryz.func41, Tryz.ntmps41
  go_wp2
  go_loopw [5, 13] (fun out i wr => ∃ (k : Nat) (A' : Option Addr) (c' : Nat), k ≤ n2 ∧ i = .int .i64 k ∧ out = .slice A' k c' ∧ Gr 2 ResAt wr (w.alloc (.cells #[.string p.id, .bool p.set, .int .i64 p.alg, .slice A1 n1 k1, .slice A2 n2 k2, .slice A3 n3 k3, .slice A4 n4 k4] 28)).heap.size 33 A' k c' ((p.rules.take k).map (ruleV ask)) ∧ Below (w.alloc (.cells #[.string p.id, .bool p.set, .int .i64 p.alg, .slice A1 n1 k1, .slice A2 n2 k2, .slice A3 n3 k3, .slice A4 n4 k4] 28)).heap.size (w.alloc (.cells #[.string p.id, .bool p.set, .int .i64 p.alg, .slice A1 n1 k1, .slice A2 n2 k2, .slice A3 n3 k3, .slice A4 n4 k4] 28)) wr) (fun out i _ => n2 - (intOf i).toNat)
  case atStart => exact ⟨0, none, 0, Nat.zero_le _, rfl, rfl, Gr.nil _ _ (Nat.le_refl _), Below.refl _ _⟩
  case round =>
    obtain ⟨k, A', c', hk, rfl, rfl, ho, hb⟩ := hrel
    have HO := Lib.hid ho
    have HB := Lib.hid hb
    have HW := Lib.hid (below_step A0.out hb)
    have OW := Lib.hid (OB.out.below hb OB.out.lt)
    clear ho hb
    by_cases hlt : k < n2
    · obtain ⟨b, o, r, B1, m1, d1, B2, m2, d2, B3, m3, d3, rfl, hRb, hbl, hx, hid, ⟨x0, x1, x2, x3, x4⟩, t1, t2, t3⟩ := (H2.out.keep (Kept.all HW.out R) (fun _ h _ => h)).at_ hlt
      have HX := Lib.hid (map_step (ruleV ask) hx)
      have hr := HRA.out.2.2.1 r (List.mem_of_getElem? hx)
      have a1 : Below wr.heap.size wr (wr.alloc (.cells #[.string r.id, .bool r.deny, .slice B1 m1 d1, .slice B2 m2 d2, .slice B3 m3 d3] 61)) := (Below.refl _ _).alloc (Nat.le_refl _) _
      have hm3 : m3 ≤ 500000 := by have h1 := Rw.len t3; have h2 := ob_eight hr.2.2; omega
      have HC := Lib.hid (evrule_any (w := wr.alloc (.cells #[.string r.id, .bool r.deny, .slice B1 m1 d1, .slice B2 m2 d2, .slice B3 m3 d3] 61)) (t1.keep (Kept.all a1 R) (fun _ h _ => h)) (t2.keep (Kept.all a1 R) (fun _ h _ => h)) (t3.keep (Kept.all a1 R) (fun _ h _ => h)) (ob_short hr.2.2) hm3 (HA.out.keep (Kept.all (HW.out.trans (a1.mono HW.out.size)) R2) (fun _ h _ => h)) hG)
      have A1' := Lib.hid a1
      clear hx hid t1 t2 t3 hr a1 hm3
      generalize hv : ruleV ask r = v at *
      clear hv
      obtain ⟨⟨vp, vd⟩, vob⟩ := v
      obtain ⟨rid, rdeny, rtg, rcond, rob⟩ := r
      simp only at x0 x1 x2 x3 x4 HC A1'
      go_wp2_with fail
      refine HC.out.mono ?_
      rintro z w3 ⟨E1, e2, e3, rfl, hb, hd⟩
      have b1 : Below wr.heap.size wr w3 := below_step A1'.out hb
      have hsz := A1'.out.size
      obtain ⟨A5, c5, w5, r5, o5, b5⟩ := push_res (r := ⟨(vp, vd), vob⟩) (Gr.below keeps_res HO.out b1) (hd.keep (Kept.refl _ _) (fun b hb _ => HO.out.apart b (Nat.le_trans hsz hb))) (by have := HB2.out; omega)
      have R5 := Lib.hid r5
      have O5 := Lib.hid o5
      have B5 := Lib.hid (HB.out.trans ((b1.mono HB.out.size).trans b5))
      clear hb hd b1 hsz r5 o5 b5
      go_wp2_with (first
        | (at_builtin; refine wpList_append_run (o := ⟨some 22, _, _, _, _, _⟩) rfl _ _ _ _ rfl rfl rfl R5.out ?_))
      go_roundw
      case rel => exact ⟨k + 1, A5, c5, by omega, by go_num, rfl, by rw [HX.out]; exact O5.out, B5.out⟩
      case measure => simp [intOf]; omega
    · obtain rfl : n2 = k := by omega
      have hL := HO.out
      rw [List.take_of_length_le (by have := HL2.out; omega)] at hL
      have HR := Lib.hid hL
      have q5 := OW.out.cell 5
      clear hL HO
      go_wp2
      go_loopw [5, 27] (fun out i wq => ∃ (j : Nat) (A' : Option Addr) (c' : Nat), j ≤ n3 ∧ i = .int .i64 j ∧ out = .slice A' (n2 + j) c' ∧ Gr 2 ResAt wq (w.alloc (.cells #[.string p.id, .bool p.set, .int .i64 p.alg, .slice A1 n1 k1, .slice A2 n2 k2, .slice A3 n3 k3, .slice A4 n4 k4] 28)).heap.size 33 A' (n2 + j) c' (p.rules.map (ruleV ask) ++ (p.kids.take j).map (evV ask)) ∧ Below (w.alloc (.cells #[.string p.id, .bool p.set, .int .i64 p.alg, .slice A1 n1 k1, .slice A2 n2 k2, .slice A3 n3 k3, .slice A4 n4 k4] 28)).heap.size (w.alloc (.cells #[.string p.id, .bool p.set, .int .i64 p.alg, .slice A1 n1 k1, .slice A2 n2 k2, .slice A3 n3 k3, .slice A4 n4 k4] 28)) wq) (fun out i _ => n3 - (intOf i).toNat)
      case atStart => exact ⟨0, A', c', Nat.zero_le _, rfl, rfl, by simpa using HR.out, HB.out⟩
      case round =>
        obtain ⟨wo, hwo⟩ : ∃ wo, wo = wr := ⟨wr, rfl⟩
        subst hwo
        obtain ⟨j, A6, c6, hj, rfl, rfl, ho, hb⟩ := hrel
        have HO := Lib.hid ho
        have HC0 := Lib.hid hb
        have HW2 := Lib.hid (below_step A0.out hb)
        clear ho hb
        by_cases hlt2 : j < n3
        · obtain ⟨b, o, kid, d', B1, m1, d1, B2, m2, d2, B3, m3, d3, B4, m4, d4, rfl, hRb, hbl, hx, hd, ⟨hid, halg⟩, ⟨x0, x1, x2, x3, x4, x5, x6⟩, t1, t2, t3, t4⟩ := (H3.out.keep (Kept.all HW2.out R) (fun _ h _ => h)).at_ hlt2
          have HX := Lib.hid (map_step (evV ask) hx)
          have a1 : Below wo.heap.size wo (wo.alloc (.cells #[.string kid.id, .bool kid.set, .int .i64 kid.alg, .slice B1 m1 d1, .slice B2 m2 d2, .slice B3 m3 d3, .slice B4 m4 d4] 28)) := (Below.refl _ _).alloc (Nat.le_refl _) _
          have HC := Lib.hid (HIH.out d' hd (w := wo.alloc (.cells #[.string kid.id, .bool kid.set, .int .i64 kid.alg, .slice B1 m1 d1, .slice B2 m2 d2, .slice B3 m3 d3, .slice B4 m4 d4] 28)) (HRA.out.1 kid (List.mem_of_getElem? hx)) (t1.keep (Kept.all a1 R) (fun _ h _ => h)) (t2.keep (Kept.all a1 R) (fun _ h _ => h)) (t3.keep (Kept.all a1 R) (fun _ h _ => h)) (t4.keep (Kept.all a1 R) (fun _ h _ => h)) (HA.out.keep (Kept.all (HW2.out.trans (a1.mono HW2.out.size)) R2) (fun _ h _ => h)) hG)
          have A1' := Lib.hid a1
          clear hx hid t1 t2 t3 t4 a1 hd halg
          generalize hv : evV ask kid = v at *
          clear hv
          obtain ⟨⟨vp, vd⟩, vob⟩ := v
          obtain ⟨ki, ks, ka, kt, kr, kk, ko⟩ := kid
          simp only [Pol.id, Pol.set, Pol.alg] at x0 x1 x2 x3 x4 x5 x6 HC A1'
          go_wp2_with fail
          refine HC.out.mono ?_
          rintro z w3 ⟨E1, e2, e3, rfl, hb, hd⟩
          have b1 : Below wo.heap.size wo w3 := below_step A1'.out hb
          have hsz := A1'.out.size
          obtain ⟨A5, c5, w5, r5, o5, b5⟩ := push_res (r := ⟨(vp, vd), vob⟩) (Gr.below keeps_res HO.out b1) (hd.keep (Kept.refl _ _) (fun b hb _ => HO.out.apart b (Nat.le_trans hsz hb))) (by have := HB2.out; have := HB3.out; omega)
          have R5 := Lib.hid r5
          have O5 := Lib.hid o5
          have B5 := Lib.hid (HC0.out.trans ((b1.mono HC0.out.size).trans b5))
          clear hb hd b1 hsz r5 o5 b5
          go_wp2_with (first
            | (at_builtin; refine wpList_append_run (o := ⟨some 36, _, _, _, _, _⟩) rfl _ _ _ _ rfl rfl rfl R5.out ?_))
          go_roundw
          case rel => exact ⟨j + 1, A5, c5, by omega, by go_num, rfl, by rw [HX.out, ← List.append_assoc]; exact O5.out, B5.out⟩
          case measure => simp [intOf]; omega
        · obtain rfl : n3 = j := by omega
          go_wp2
          go_ret
          have hR := HO.out
          rw [List.take_of_length_le (by have := HL3.out; omega), ← HV.out] at hR
          refine ⟨A6, n2 + n3, c6, rfl, HW2.out, ?_⟩
          have h1 : Rss wo (fun b => (w.alloc (.cells #[.string p.id, .bool p.set, .int .i64 p.alg, .slice A1 n1 k1, .slice A2 n2 k2, .slice A3 n3 k3, .slice A4 n4 k4] 28)).heap.size ≤ b) A6 (n2 + n3) c6 (partsV ask p) := hR.rw keeps_res (by have := HB2.out; have := HB3.out; omega)
          exact h1.keep (Kept.refl _ _) (fun b hb _ => Nat.le_trans A0.out.size hb)

set_option maxRecDepth 100000 in
set_option maxHeartbeats 6400000 in
theorem dec_step (d : Nat) (ih : ∀ d', d = d' + 1 → DecOk d') : DecOk d := by
  intro ask w R R2 A n c p A1 A2 A3 A4 n1 k1 n2 k2 n3 k3 n4 k4 hp h1 h2 h3 h4 hA hG
  have HM := Lib.hid (fun W (hW : Below w.heap.size w W) => tgmet_any (w := W) (h1.keep (Kept.all hW R) (fun _ h _ => h)) (hA.keep (Kept.all hW R2) (fun _ h _ => h)) hG)
  have HP := Lib.hid (fun W (hW : Below w.heap.size w W) => evparts_any (w := W) (A1 := A1) (n1 := n1) (k1 := k1) (A4 := A4) (n4 := n4) (k4 := k4) d ih hp (h2.keep (Kept.all hW R) (fun _ h _ => h)) (h3.keep (Kept.all hW R) (fun _ h _ => h)) (hA.keep (Kept.all hW R2) (fun _ h _ => h)) hG)
  have hob := Rw.len h4
  have hsz := hp.all.2.2.2.1
  have hpl := parts_len ask p
  have hn4 : n4 ≤ 500000 := by have := ob_eight hp.all.2.1.1; omega
  have HD := Lib.hid (fun W (hW : Below w.heap.size w W) (p d : Fin 5) => duties_any (w := W) p d (h4.keep (Kept.all hW R) (fun _ h _ => h)) (ob_short hp.all.2.1.1) hn4)
  have HV : Hid (evV ask p = polV (metI ask p.tg) p.alg p.ob (partsV ask p)) := decV_eq ask p
  have HT := Lib.hid (tri_met ask p.tg)
  have HS := Lib.hid (show (partsV ask p).length ≤ 700000 ∧ obS (partsV ask p) ≤ 700000 by omega)
  have HLD := Lib.hid (fun m => dutsM_len p.ob m)
  have HLO : Hid (p.ob.length ≤ 8) := ob_eight hp.all.2.1.1
  have HSD : Hid (obS (partsV ask p) + p.ob.length ≤ 700000) := by show _ ≤ _; omega
  have HPV : Hid (∀ t, polV t p.alg p.ob (partsV ask p) = if t = 0 then noRes else if t = 1 then ⟨indM (joinV p.alg (partsV ask p)), []⟩ else ⟨joinV p.alg (partsV ask p), alongV p.alg (joinV p.alg (partsV ask p)) (partsV ask p) ++ dutsM p.ob (joinV p.alg (partsV ask p))⟩) := fun _ => rfl
  clear h1 h2 h3 h4 hA ih hp hob hsz hpl hn4
  generalize metI ask p.tg = t at *
  generalize evV ask p = v at *
  generalize partsV ask p = ps at *
  obtain ⟨⟨jp, jd⟩, hj⟩ : ∃ q, q = joinV p.alg ps := ⟨_, rfl⟩
  have HJ := Lib.hid (fun W (R : Nat → Prop) (A : Option Addr) (n c : Nat) (h : Rss W R A n c ps) (hn : n ≤ 700000) => joined_any (w := W) p.alg h hn)
  rw [← hj] at HJ HPV
  clear hj
  have HAL := Lib.hid (fun W (R : Nat → Prop) (A : Option Addr) (n c : Nat) (h : Rss W R A n c ps) => along_any (w := W) p.alg jp jd h HS.out.2)
  obtain ⟨alv, hal⟩ : ∃ x, x = alongV p.alg (jp, jd) ps := ⟨_, rfl⟩
  have HAN : Hid (alv.length ≤ obS ps) := by show _ ≤ _; rw [hal]; exact along_len _ _ _
  rw [← hal] at HAL HPV
  clear hal
  obtain ⟨dv, hdv⟩ : ∃ x, x = dutsM p.ob (jp, jd) := ⟨_, rfl⟩
  have HDN := Lib.hid (HLD.out (jp, jd))
  have HD2 := Lib.hid (fun W hW => HD.out W hW jp jd)
  rw [← hdv] at HDN HD2 HPV
  clear hdv HD HLD
  have OB := Lib.hid (Ob.made w 28 #[.string p.id, .bool p.set, .int .i64 p.alg, .slice A1 n1 k1, .slice A2 n2 k2, .slice A3 n3 k3, .slice A4 n4 k4])
  have a1 : Below w.heap.size w (w.alloc (.cells #[.string p.id, .bool p.set, .int .i64 p.alg, .slice A1 n1 k1, .slice A2 n2 k2, .slice A3 n3 k3, .slice A4 n4 k4] 28)) := (Below.refl w.heap.size w).alloc (Nat.le_refl _) _
  have OB2 := Lib.hid (OB.out.keep (w' := (w.alloc (.cells #[.string p.id, .bool p.set, .int .i64 p.alg, .slice A1 n1 k1, .slice A2 n2 k2, .slice A3 n3 k3, .slice A4 n4 k4] 28)).alloc (.cells #[.complex .f64 0 0, .slice none 0 0] 33)) (Below.heap_alloc _ _ _ OB.out.lt))
  have OR := Ob.made (w.alloc (.cells #[.string p.id, .bool p.set, .int .i64 p.alg, .slice A1 n1 k1, .slice A2 n2 k2, .slice A3 n3 k3, .slice A4 n4 k4] 28)) 33 #[.complex .f64 0 0, .slice none 0 0]
  rw [size_al] at OR
  have OR2 := Lib.hid OR
  have D2 := Lib.hid (a1.alloc (by rw [size_al]; omega) (.cells #[.complex .f64 0 0, .slice none 0 0] 33))
  have HZ2 : Hid (((w.alloc (.cells #[.string p.id, .bool p.set, .int .i64 p.alg, .slice A1 n1 k1, .slice A2 n2 k2, .slice A3 n3 k3, .slice A4 n4 k4] 28)).alloc (.cells #[.complex .f64 0 0, .slice none 0 0] 33)).heap.size = w.heap.size + 2) := by show _ = _; rw [size_al, size_al]
  have o3 := OB2.out.cell 3
  clear OB OR a1
  obtain ⟨pid, pset, palg, ptg, pru, pki, pob⟩ := p
  simp only [Pol.id, Pol.set, Pol.alg, Pol.ob] at *
  go_enter Tryz.func26, Tryz.ntmps26
  go_wp2_with fail
  refine (HM.out _ D2.out).mono ?_
  rintro e w1 ⟨rfl, hb⟩
  have D3 := Lib.hid (below_step D2.out hb)
  have OB3 := Lib.hid (OB2.out.below hb OB2.out.lt)
  have OR3 := Lib.hid (OR2.out.below hb OR2.out.lt)
  have HZ3 : Hid (w.heap.size + 2 ≤ w1.heap.size) := by have h1 := hb.size; have h2 := HZ2.out; show _ ≤ _; omega
  clear hb o3
  rcases (show t = 0 ∨ t = 1 ∨ t = 2 by have := HT.out; unfold Tri at this; omega) with rfl | rfl | rfl
  · have HQ : Hid (v = noRes) := HV.out.trans ((HPV.out 0).trans (if_pos rfl))
    have r0 := OR3.out.cell 0
    have r1 := OR3.out.cell 1
    have s0 := OR3.out.frozen 0
    have s1 := OR3.out.frozen 1
    go_wp2_with fail
    try simp only [Exit.inBlock, Exit.then]
    refine bodyPost_ret (res_ret rfl rfl (OR3.out.set2 (.complex .f64 0 0) (.slice none 0 0))) rfl ?_
    exact ⟨none, 0, 0, by rw [HQ.out, mark_na noRes.m rfl], below_set2 D3.out (by omega) _ _, by rw [HQ.out]; exact Rw.nil_ _ _ _ _⟩
  · have HQ : Hid (v = ⟨indM (jp, jd), []⟩) := HV.out.trans ((HPV.out 1).trans ((if_neg (by omega)).trans (if_pos rfl)))
    have o0 := OB3.out.cell 0
    have o1 := OB3.out.cell 1
    have o2 := OB3.out.cell 2
    have o3 := OB3.out.cell 3
    have o4 := OB3.out.cell 4
    have o5 := OB3.out.cell 5
    have o6 := OB3.out.cell 6
    go_wp2_with fail
    refine (HP.out _ D3.out).mono ?_
    rintro e w2 ⟨E1, e2, e3, rfl, hb, hps⟩
    have D4 := Lib.hid (below_step D3.out hb)
    have OB4 := Lib.hid (OB3.out.below hb OB3.out.lt)
    have OR4 := Lib.hid (OR3.out.below hb OR3.out.lt)
    have HZ4 : Hid (w.heap.size + 2 ≤ w2.heap.size) := by have h1 := hb.size; have h2 := HZ3.out; show _ ≤ _; omega
    have HPS := Lib.hid hps
    have HE2 : Hid (e2 ≤ 700000) := by have h1 := Rw.len hps; have h2 := HS.out.1; show _ ≤ _; omega
    clear hb hps o0 o1 o2 o3 o4 o5 o6
    have o2 := OB4.out.cell 2
    go_wp2_with fail
    refine (HJ.out _ _ _ _ _ HPS.out HE2.out).mono ?_
    rintro e w3 ⟨rfl, hb⟩
    have D5 := Lib.hid (below_step D4.out hb)
    have OB5 := Lib.hid (OB4.out.below hb OB4.out.lt)
    have OR5 := Lib.hid (OR4.out.below hb OR4.out.lt)
    have HZ5 : Hid (w.heap.size + 2 ≤ w3.heap.size) := by have h1 := hb.size; have h2 := HZ4.out; show _ ≤ _; omega
    have HPS5 := Lib.hid (HPS.out.keep (Kept.all hb _) (fun _ h _ => h))
    clear hb o2
    have HI := Lib.hid (indet_any jp jd)
    have r0 := OR5.out.cell 0
    have r1 := OR5.out.cell 1
    have s0 := OR5.out.frozen 0
    have s1 := OR5.out.frozen 1
    go_wp2_with fail
    refine (HI.out _).mono ?_
    rintro z w' ⟨rfl, rfl⟩
    go_wp2_with fail
    try simp only [Exit.inBlock, Exit.then]
    refine bodyPost_ret (res_ret rfl rfl (OR5.out.set2 (.complex .f64 (fl (indetP jp jd)) (fl (indetD jp jd))) (.slice none 0 0))) rfl ?_
    exact ⟨none, 0, 0, by rw [HQ.out]; rfl, below_set2 D5.out (by omega) _ _, by rw [HQ.out]; exact Rw.nil_ _ _ _ _⟩
  · have HQ : Hid (v = ⟨(jp, jd), alv ++ dv⟩) := HV.out.trans ((HPV.out 2).trans ((if_neg (by omega)).trans (if_neg (by omega))))
    have o0 := OB3.out.cell 0
    have o1 := OB3.out.cell 1
    have o2 := OB3.out.cell 2
    have o3 := OB3.out.cell 3
    have o4 := OB3.out.cell 4
    have o5 := OB3.out.cell 5
    have o6 := OB3.out.cell 6
    go_wp2_with fail
    refine (HP.out _ D3.out).mono ?_
    rintro e w2 ⟨E1, e2, e3, rfl, hb, hps⟩
    have D4 := Lib.hid (below_step D3.out hb)
    have OB4 := Lib.hid (OB3.out.below hb OB3.out.lt)
    have OR4 := Lib.hid (OR3.out.below hb OR3.out.lt)
    have HZ4 : Hid (w.heap.size + 2 ≤ w2.heap.size) := by have h1 := hb.size; have h2 := HZ3.out; show _ ≤ _; omega
    have HPS := Lib.hid hps
    have HE2 : Hid (e2 ≤ 700000) := by have h1 := Rw.len hps; have h2 := HS.out.1; show _ ≤ _; omega
    clear hb hps o0 o1 o2 o3 o4 o5 o6
    have o2 := OB4.out.cell 2
    go_wp2_with fail
    refine (HJ.out _ _ _ _ _ HPS.out HE2.out).mono ?_
    rintro e w3 ⟨rfl, hb⟩
    have D5 := Lib.hid (below_step D4.out hb)
    have OB5 := Lib.hid (OB4.out.below hb OB4.out.lt)
    have OR5 := Lib.hid (OR4.out.below hb OR4.out.lt)
    have HZ5 : Hid (w.heap.size + 2 ≤ w3.heap.size) := by have h1 := hb.size; have h2 := HZ4.out; show _ ≤ _; omega
    have HPS5 := Lib.hid (HPS.out.keep (Kept.all hb _) (fun _ h _ => h))
    clear hb o2
    go_wp2_with fail
    have OBK := Lib.hid (fun V (hV : Below w3.heap.size w3 V) => OB5.out.below hV OB5.out.lt)
    refine wp_region_held_tail (fun w' => Below w3.heap.size w3 w') 11 (by kernel_rfl) (by kernel_rfl) ?_
    intro G
    change HeadW _ _ _ _ _ _ _ _ _ _ (w3.drewN 1)
    have S := Lib.hid (below_drewN (Below.refl w3.heap.size w3) 1)
    generalize w3.drewN 1 = y0 at *
    refine HeadW_take (i := 0) (v := ?_) G rfl (by kernel_rfl) (by kernel_rfl) (by kernel_rfl) (fun _ _ _ h => h) (Or.inl ⟨by rfl, ?_⟩) S.out ?_
    rotate_left
    · intro wz hS
      go_simp
      try with_reducible rfl
    refine HeadW_take (i := 1) (v := ?_) G rfl (by kernel_rfl) (by kernel_rfl) (by kernel_rfl) (fun _ _ _ h => h) (Or.inl ⟨by rfl, ?_⟩) S.out ?_
    rotate_left
    · intro wz hS
      go_simp
      try with_reducible rfl
    refine HeadW_take (i := 2) (v := ?_) G rfl (by kernel_rfl) (by kernel_rfl) (by kernel_rfl) (fun _ _ _ h => h) (Or.inl ⟨by rfl, ?_⟩) S.out ?_
    rotate_left
    · intro wz hS
      have hk := (OBK.out _ hS).cell 2
      go_simp
      try with_reducible rfl
    refine HeadW_take (i := 3) (v := ?_) G rfl (by kernel_rfl) (by kernel_rfl) (by kernel_rfl) (fun _ _ _ h => h) (Or.inl ⟨by rfl, ?_⟩) S.out ?_
    rotate_left
    · intro wz hS
      go_simp
      try with_reducible rfl
    refine HeadW_take (i := 4) (v := ?_) G rfl (by kernel_rfl) (by kernel_rfl) (by kernel_rfl) (fun _ _ _ h => h) (Or.inl ⟨by rfl, ?_⟩) S.out ?_
    rotate_left
    · intro wz hS
      go_simp
      try with_reducible rfl
    refine HeadW_take (i := 6) (v := ?_) G rfl (by kernel_rfl) (by kernel_rfl) (by kernel_rfl) (fun _ _ _ h => h) (Or.inl ⟨by rfl, ?_⟩) S.out ?_
    rotate_left
    · intro wz hS
      go_simp
      try with_reducible rfl
    refine HeadW_take (i := 7) (v := ?_) G rfl (by kernel_rfl) (by kernel_rfl) (by kernel_rfl) (fun _ _ _ h => h) (Or.inl ⟨by rfl, ?_⟩) S.out ?_
    rotate_left
    · intro wz hS
      have hk := (OBK.out _ hS).cell 6
      go_simp
      try with_reducible rfl
    refine HeadW_take (i := 8) (v := ?_) G rfl (by kernel_rfl) (by kernel_rfl) (by kernel_rfl) (fun _ _ _ h => h) (Or.inl ⟨by rfl, ?_⟩) S.out ?_
    rotate_left
    · intro wz hS
      go_simp
      try with_reducible rfl
    have HB0 := Lib.hid S.out.size
    refine HeadW_ready (rs := [5]) (by kernel_rfl) rfl rfl ?_
    refine AllW.cons rfl (fun K hK => ?_) AllW.nil
    go_simp
    refine (HAL.out _ _ _ _ _ (HPS5.out.keep (Kept.all S.out _) (fun _ h _ => h))).mono ?_
    rintro e y1 ⟨F1, f2, f3, rfl, hb, hal⟩
    have AL := Lib.hid hal
    have hal0 := hal.2.1
    have S := Lib.hid (S.out.trans (hb.mono S.out.size))
    refine hK _ _ S.out ?_
    clear hK K hb
    have HF2 : Hid (alv.length = f2) := hal0
    clear hal hal0
    refine HeadW_ready (rs := [9]) (by kernel_rfl) rfl rfl ?_
    refine AllW.cons rfl (fun K hK => ?_) AllW.nil
    go_simp
    refine (HD2.out _ (D5.out.trans (S.out.mono D5.out.size))).mono ?_
    rintro e y2 ⟨G1, g2, g3, rfl, hb, hdu⟩
    have AL2 := Lib.hid (AL.out.below hb)
    have hdn := hdu.2.1
    have DU := Lib.hid (hdu.dus (by have h1 := HDN.out; have h2 := HLO.out; omega))
    have S := Lib.hid (S.out.trans (hb.mono S.out.size))
    refine hK _ _ S.out ?_
    clear hK K hb
    have HG2 : Hid (dv.length = g2) := hdn
    clear hdu hdn AL
    obtain ⟨K1, k9, w6, r6, o6, b6⟩ := AL2.out.app DU.out (by have h1 := HF2.out; have h2 := HG2.out; have h3 := HAN.out; have h4 := HDN.out; have h5 := HSD.out; omega) 26
    have R6 := Lib.hid r6
    have O6 := Lib.hid o6
    have S6 := Lib.hid (S.out.trans (b6.mono HB0.out))
    clear r6 o6 b6
    refine HeadW_ready (rs := [10]) (by kernel_rfl) rfl rfl ?_
    refine AllW.cons rfl (fun K hK => ?_) AllW.nil
    refine oper_append (.tmp 32) (.tmp 36) 26 26 rfl rfl rfl R6.out ?_
    refine hK _ _ S6.out ?_
    clear hK K
    intro _
    refine ⟨by kernel_rfl, ?_⟩
    simp only [List.drop_succ_cons, List.drop_zero]
    have OR6 := Lib.hid (OR5.out.below S6.out OR5.out.lt)
    have D6 := Lib.hid (below_step D5.out S6.out)
    have DU6 := Lib.hid (O6.out.dus (by have h1 := HF2.out; have h2 := HG2.out; have h3 := HAN.out; have h4 := HDN.out; have h5 := HSD.out; omega))
    have r0 := OR6.out.cell 0
    have r1 := OR6.out.cell 1
    have s0 := OR6.out.frozen 0
    have s1 := OR6.out.frozen 1
    go_wp2_with fail
    try simp only [Exit.inBlock, Exit.then]
    refine bodyPost_ret (res_ret rfl rfl (OR6.out.set2 (.complex .f64 (fl jp) (fl jd)) (.slice K1 (f2 + g2) k9))) rfl ?_
    exact ⟨K1, f2 + g2, k9, by rw [HQ.out], below_set2 D6.out (by omega) _ _, by rw [HQ.out]; exact DU6.out.set2 (by have := HZ5.out; have := HB0.out; omega) (by have := HZ5.out; have := HB0.out; omega) _ _⟩
theorem dec_all : ∀ d, DecOk d
  | 0 => dec_step 0 (fun d' h => by omega)
  | d + 1 => dec_step (d + 1) (fun d' h => by obtain rfl : d = d' := by omega
                                              exact dec_all d)
end Go.Proofs.YtmoglaknmlhpgaaGreat

/- Package eval: Policy, of a right one. -/
namespace Go.Proofs.YtmoglaknmlhpgaaGreat
set_option linter.unusedVariables false
open Go.RowKit
attribute [local go_sem] eq0 feq2 eq4 fgt0 gt2 ord_eq ord_gt ord_lt ev_store

theorem res_ret2 {fn : Func} {p u : Tmp} {tmps : Array Value} {w : World} {g : Nat} {m v : Value} {A : Option Addr} {n c : Nat} (h : fn.results = #[.cell p 33, .tmp u]) (hp : tmps.getD p undef = .pointer (some ⟨g, 0, none⟩)) (hu : tmps.getD u undef = v)
    (hg : Ob w g 33 #[m, .slice A n c]) : (results fn tmps).run Tryz.prog w = .ok (.tuple #[.agg #[m, .slice A n c], v]) w := by
  rw [results_cell_tmp h, hp, hu]
  have hl := run_loadVar_row (P := Tryz.prog) w g 33 _ _ (0, 0) _ hg Tryz.underlying33 rfl (by kernel_rfl)
  simp [asAddr, hl, Result.andThen]
set_option maxRecDepth 100000 in
set_option maxHeartbeats 3200000 in
theorem evpol_ok {ask : List Giv} {w : World} {R R2 : Nat → Prop} {A : Option Addr} {n c : Nat} {p : Pol} {A1 A2 A3 A4 : Option Addr} {n1 k1 n2 k2 n3 k3 n4 k4 : Nat} (hr : rightE p = 0) (h : PolIn w R p A1 n1 k1 A2 n2 k2 A3 n3 k3 A4 n4 k4) (hA : Gvs w R2 A n c ask) (hG : ShortG ask) :
    Calls Tryz.prog 11 #[.agg #[.string p.id, .bool p.set, .int .i64 p.alg, .slice A1 n1 k1, .slice A2 n2 k2, .slice A3 n3 k3, .slice A4 n4 k4], .slice A n c] w
      fun e w' => ∃ A' n' c', e = .returned (.tuple #[.agg #[.complex .f64 (fl (evV ask p).m.1) (fl (evV ask p).m.2), .slice A' n' c'], .int .i64 0]) ∧ Below w.heap.size w w' ∧ Dus w' (fun b => w.heap.size ≤ b) A' n' c' (evV ask p).ob := by
  have HR := Lib.hid (fun W (hW : Below w.heap.size w W) => right_pol (h.then_ hW))
  rw [hr] at HR
  have HC : Hid (∀ W, Below w.heap.size w W → Calls Tryz.prog 26 #[.agg #[.string p.id, .bool p.set, .int .i64 p.alg, .slice A1 n1 k1, .slice A2 n2 k2, .slice A3 n3 k3, .slice A4 n4 k4], .slice A n c] W
      fun e w' => ∃ A' n' c', e = .returned (.agg #[.complex .f64 (fl (evV ask p).m.1) (fl (evV ask p).m.2), .slice A' n' c']) ∧ Below W.heap.size W w' ∧ Dus w' (fun b => W.heap.size ≤ b) A' n' c' (evV ask p).ob) := fun W hW => by
    obtain ⟨_, h1, h2, ⟨m, h3⟩, h4⟩ := h.then_ hW
    exact dec_all m (right_at hr) h1 h2 h3 h4 (hA.keep (Kept.all hW R2) (fun _ h _ => h)) hG
  generalize evV ask p = v at *
  obtain ⟨⟨vp, vd⟩, vob⟩ := v
  have OB := Lib.hid (Ob.made w 28 #[.string p.id, .bool p.set, .int .i64 p.alg, .slice A1 n1 k1, .slice A2 n2 k2, .slice A3 n3 k3, .slice A4 n4 k4])
  have a1 : Below w.heap.size w (w.alloc (.cells #[.string p.id, .bool p.set, .int .i64 p.alg, .slice A1 n1 k1, .slice A2 n2 k2, .slice A3 n3 k3, .slice A4 n4 k4] 28)) := (Below.refl w.heap.size w).alloc (Nat.le_refl _) _
  have OB2 := Lib.hid (OB.out.keep (w' := (w.alloc (.cells #[.string p.id, .bool p.set, .int .i64 p.alg, .slice A1 n1 k1, .slice A2 n2 k2, .slice A3 n3 k3, .slice A4 n4 k4] 28)).alloc (.cells #[.complex .f64 0 0, .slice none 0 0] 33)) (Below.heap_alloc _ _ _ OB.out.lt))
  have OR := Ob.made (w.alloc (.cells #[.string p.id, .bool p.set, .int .i64 p.alg, .slice A1 n1 k1, .slice A2 n2 k2, .slice A3 n3 k3, .slice A4 n4 k4] 28)) 33 #[.complex .f64 0 0, .slice none 0 0]
  rw [size_al] at OR
  have OR2 := Lib.hid OR
  have D2 := Lib.hid (a1.alloc (by rw [size_al]; omega) (.cells #[.complex .f64 0 0, .slice none 0 0] 33))
  have HZ2 : Hid (((w.alloc (.cells #[.string p.id, .bool p.set, .int .i64 p.alg, .slice A1 n1 k1, .slice A2 n2 k2, .slice A3 n3 k3, .slice A4 n4 k4] 28)).alloc (.cells #[.complex .f64 0 0, .slice none 0 0] 33)).heap.size = w.heap.size + 2) := by show _ = _; rw [size_al, size_al]
  clear OB OR a1 hr h hA hG
  go_enter Tryz.func11, Tryz.ntmps11
  go_wp2_with fail
  refine (HR.out _ D2.out).mono ?_
  rintro e w1 ⟨rfl, hb⟩
  have D3 := Lib.hid (below_step D2.out hb)
  have OB3 := Lib.hid (OB2.out.below hb OB2.out.lt)
  have OR3 := Lib.hid (OR2.out.below hb OR2.out.lt)
  have HZ3 : Hid (w.heap.size + 2 ≤ w1.heap.size) := by have h1 := hb.size; have h2 := HZ2.out; show _ ≤ _; omega
  clear hb
  have o0 := OB3.out.cell 0
  have o1 := OB3.out.cell 1
  have o2 := OB3.out.cell 2
  have o3 := OB3.out.cell 3
  have o4 := OB3.out.cell 4
  have o5 := OB3.out.cell 5
  have o6 := OB3.out.cell 6
  go_wp2_with fail
  refine (HC.out _ D3.out).mono ?_
  rintro e w2 ⟨E1, e2, e3, rfl, hb, hd⟩
  have D4 := Lib.hid (below_step D3.out hb)
  have OR4 := Lib.hid (OR3.out.below hb OR3.out.lt)
  have HD := Lib.hid hd
  clear hb hd o0 o1 o2 o3 o4 o5 o6
  have r0 := OR4.out.cell 0
  have r1 := OR4.out.cell 1
  have s0 := OR4.out.frozen 0
  have s1 := OR4.out.frozen 1
  go_wp2_with fail
  try simp only [Exit.inBlock, Exit.then]
  refine bodyPost_ret (res_ret2 rfl rfl rfl (OR4.out.set2 (.complex .f64 (fl vp) (fl vd)) (.slice E1 e2 e3))) rfl ?_
  exact ⟨E1, e2, e3, rfl, below_set2 D4.out (by omega) _ _, HD.out.set2 (by have := HZ3.out; omega) (by have := HZ3.out; omega) _ _⟩
end Go.Proofs.YtmoglaknmlhpgaaGreat
/- Tokens, plainly: what chapter 7 says of a text. -/
namespace Go.Proofs.YtmoglaknmlhpgaaGreat
set_option linter.unusedVariables false

def blk (c : UInt8) : Bool := decide (c.toNat = 32) || decide (c.toNat = 10)
def dgt (c : UInt8) : Bool := decide (48 ≤ c.toNat) && decide (c.toNat ≤ 57)
def inm (c : UInt8) : Bool := lett c || later c
/-- A digit to the base 16. -/
def hexv (c : UInt8) : Option Nat := if dgt c = true then some (c.toNat - 48) else if 97 ≤ c.toNat ∧ c.toNat ≤ 102 then some (c.toNat - 87) else none
def numD (l : List UInt8) : Nat := l.foldl (fun a c => 10 * a + (c.toNat - 48)) 0
/-- Digits as they may be written: how much they are, if it isn't more than so much. -/
def decD (most : Nat) (d : List UInt8) : Option Nat := if d = [] ∨ (d.head? = some 48 ∧ d ≠ [48]) ∨ most < numD d then none else some (numD d)
/-- Two digits to the base 16, for a byte that may not stand by itself. -/
def hexB (a b : Option Nat) : Option (UInt8 × Nat) :=
  match a, b with
  | some x, some y => if odd8 (UInt8.ofNat (16 * x + y)) = true then some (UInt8.ofNat (16 * x + y), 3) else none
  | _, _ => none
def escB : List UInt8 → Option (UInt8 × Nat)
  | a :: b :: _ => hexB (hexv a) (hexv b)
  | _ => none
/-- One byte of a text, and by how many it is written. -/
def oneB : List UInt8 → Option (UInt8 × Nat)
  | [] => none
  | c :: r => if odd8 c = false then some (c, 1) else if c = 92 then escB r else none
theorem oneB_cons (c : UInt8) (r : List UInt8) : oneB (c :: r) = if odd8 c = false then some (c, 1) else if c = 92 then escB r else none := rfl
theorem oneB_plain {c : UInt8} {r : List UInt8} (h : odd8 c = false) : oneB (c :: r) = some (c, 1) := by rw [oneB_cons, if_pos h]
theorem oneB_odd {c : UInt8} {r : List UInt8} (h : odd8 c = true) (h2 : c ≠ 92) : oneB (c :: r) = none := by rw [oneB_cons, if_neg (by rw [h]; simp), if_neg h2]
theorem oneB_esc (r : List UInt8) : oneB (92 :: r) = escB r := by rw [oneB_cons, if_neg (by decide), if_pos rfl]
theorem oneB_short {r : List UInt8} (h : r.length < 2) : oneB (92 :: r) = none := by
  rw [oneB_esc]
  match r, h with
  | [], _ => rfl
  | [a], _ => rfl
theorem oneB_hex (a b : UInt8) (r : List UInt8) : oneB (92 :: a :: b :: r) = hexB (hexv a) (hexv b) := by rw [oneB_esc]; rfl
theorem hexB_some (x y : Nat) : hexB (some x) (some y) = if odd8 (UInt8.ofNat (16 * x + y)) = true then some (UInt8.ofNat (16 * x + y), 3) else none := rfl
theorem hexB_none1 (b : Option Nat) : hexB none b = none := by cases b <;> rfl
theorem hexB_none2 (a : Option Nat) : hexB a none = none := by cases a <;> rfl
theorem hexB_three {a b : Option Nat} {x : UInt8} {k : Nat} (h : hexB a b = some (x, k)) : k = 3 := by
  cases a with
  | none => rw [hexB_none1] at h; cases h
  | some p => cases b with
    | none => rw [hexB_none2] at h; cases h
    | some q =>
      rw [hexB_some] at h
      split at h
      · cases h; rfl
      · cases h
/-- Behind a first quote: what is meant, and how many bytes it is with the last quote. -/
def qtB (l : List UInt8) : Option (List UInt8 × Nat) :=
  match l with
  | [] => none
  | c :: r => if c = 34 then some ([], 1) else
      match oneB (c :: r) with
      | none => none
      | some (x, k) => (qtB (r.drop (k - 1))).map fun p => (x :: p.1, k + p.2)
termination_by l.length
decreasing_by simp only [List.length_drop, List.length_cons]; omega
def mrk (c : UInt8) : Bool := c = 123 || c = 125 || c = 40 || c = 41 || c = 46 || c = 44 || c = 59 || c = 61 || c = 60 || c = 62 || c = 33
/-- The token that begins here: its kind, number, text, and how many bytes it is. -/
def tokB : List UInt8 → Option (Int × Int × List UInt8 × Nat)
  | [] => none
  | c :: r =>
    if lett c = true then (if Named ((c :: r).takeWhile inm) then some (1, 0, (c :: r).takeWhile inm, ((c :: r).takeWhile inm).length) else none)
    else if dgt c = true then (decD 9223372036854775807 ((c :: r).takeWhile dgt)).map fun (n : Nat) => (2, (n : Int), [], ((c :: r).takeWhile dgt).length)
    else if c = 45 then (decD 9223372036854775808 (r.takeWhile dgt)).bind fun (n : Nat) => if n = 0 then none else some (2, -(n : Int), [], (r.takeWhile dgt).length + 1)
    else if c = 64 then (decD 1099511627776 (r.takeWhile dgt)).map fun (n : Nat) => (3, (n : Int), [], (r.takeWhile dgt).length + 1)
    else if c = 35 then (if Named (r.takeWhile inm) then some (4, 0, r.takeWhile inm, (r.takeWhile inm).length + 1) else none)
    else if c = 34 then (qtB r).bind fun p => if p.1.length ≤ 64 then some (5, 0, p.1, p.2 + 1) else none
    else if mrk c = true then some (6, 0, [c], 1)
    else none

/-- A token: kind, place, number, text. -/
structure Tk where
  k : Int
  p : Int
  n : Int
  s : ByteArray
def Tk.l (t : Tk) : List UInt8 := t.s.data.toList
theorem Tk.ext' {a b : Tk} (h1 : a.k = b.k) (h2 : a.p = b.p) (h3 : a.n = b.n) (h4 : a.l = b.l) : a = b := by
  obtain ⟨k, p, n, s⟩ := a
  obtain ⟨k', p', n', s'⟩ := b
  obtain ⟨⟨x⟩⟩ := s
  obtain ⟨⟨y⟩⟩ := s'
  simp_all [Tk.l]
instance : DecidableEq Tk := fun a b => if h : a.k = b.k ∧ a.p = b.p ∧ a.n = b.n ∧ a.l = b.l then .isTrue (Tk.ext' h.1 h.2.1 h.2.2.1 h.2.2.2) else .isFalse (by rintro rfl; exact h ⟨rfl, rfl, rfl, rfl⟩)

def cat (ts : List Tk) : Except Nat (List Tk) → Except Nat (List Tk)
  | .error e => .error e
  | .ok l => .ok (ts ++ l)
theorem cat_nil (x : Except Nat (List Tk)) : cat [] x = x := by cases x <;> rfl
theorem cat_cat (a b : List Tk) (x : Except Nat (List Tk)) : cat a (cat b x) = cat (a ++ b) x := by cases x <;> simp [cat]

/-- P7.1, behind place p. -/
def lexB (l : List UInt8) (p : Nat) : Except Nat (List Tk) :=
  match l with
  | [] => .ok [⟨7, p, 0, ⟨#[]⟩⟩]
  | c :: r => if blk c = true then lexB r (p + 1) else
      match tokB (c :: r) with
      | none => .error p
      | some (k, n, s, m) => cat [⟨k, p, n, ⟨s.toArray⟩⟩] (lexB (r.drop (m - 1)) (p + m))
termination_by l.length
decreasing_by
  · simp
  · simp only [List.length_drop, List.length_cons]; omega

/-! ### Equations -/
theorem qtB_nil : qtB [] = none := by rw [qtB]
theorem qtB_end (r : List UInt8) : qtB (34 :: r) = some ([], 1) := by rw [qtB]; rfl
theorem oneB_pos {l : List UInt8} {x : UInt8} {k : Nat} (h : oneB l = some (x, k)) : 1 ≤ k ∧ k ≤ l.length := by
  cases l with
  | nil => cases h
  | cons c r =>
    rw [oneB_cons] at h
    split at h
    · cases h; simp
    · split at h
      · match r, h with
        | a :: b :: r', h => have := hexB_three h; subst this; simp
      · cases h
theorem drop_cons' {α : Type} {c : α} {r : List α} {k : Nat} (h : 1 ≤ k) : r.drop (k - 1) = (c :: r).drop k := by
  obtain ⟨j, rfl⟩ : ∃ j, k = j + 1 := ⟨k - 1, by omega⟩
  rfl
theorem qtB_one {c : UInt8} {r : List UInt8} {x : UInt8} {k : Nat} (hc : c ≠ 34) (h : oneB (c :: r) = some (x, k)) : qtB (c :: r) = (qtB ((c :: r).drop k)).map fun p => (x :: p.1, k + p.2) := by
  rw [qtB, if_neg hc, h]
  dsimp only
  rw [drop_cons' (oneB_pos h).1]
theorem qtB_bad {c : UInt8} {r : List UInt8} (hc : c ≠ 34) (h : oneB (c :: r) = none) : qtB (c :: r) = none := by
  rw [qtB, if_neg hc, h]
theorem lexB_nil (p : Nat) : lexB [] p = .ok [⟨7, p, 0, ⟨#[]⟩⟩] := by rw [lexB]
theorem lexB_blank {c : UInt8} {r : List UInt8} {p : Nat} (h : blk c = true) : lexB (c :: r) p = lexB r (p + 1) := by rw [lexB, if_pos h]
theorem lexB_bad {c : UInt8} {r : List UInt8} {p : Nat} (h : blk c = false) (ht : tokB (c :: r) = none) : lexB (c :: r) p = .error p := by
  rw [lexB, if_neg (by rw [h]; simp), ht]
theorem tk_len (p : UInt8 → Bool) (l : List UInt8) : (l.takeWhile p).length ≤ l.length := (List.takeWhile_sublist p).length_le
theorem qtB_le : ∀ (n : Nat) (l m : List UInt8) (j : Nat), l.length ≤ n → qtB l = some (m, j) → 1 ≤ j ∧ j ≤ l.length ∧ m.length ≤ j
  | n, [], m, j, _, h => by rw [qtB_nil] at h; cases h
  | 0, c :: r, m, j, hl, h => by simp at hl
  | n + 1, c :: r, m, j, hl, h => by
    by_cases hc : c = 34
    · subst hc; rw [qtB_end] at h; cases h; simp
    · cases ho : oneB (c :: r) with
      | none => rw [qtB_bad hc ho] at h; cases h
      | some xk =>
        obtain ⟨x, k⟩ := xk
        rw [qtB_one hc ho] at h
        obtain ⟨k1, k2⟩ := oneB_pos ho
        cases hq : qtB ((c :: r).drop k) with
        | none => rw [hq] at h; cases h
        | some q =>
          obtain ⟨m', j'⟩ := q
          rw [hq] at h
          simp only [Option.map_some, Option.some.injEq, Prod.mk.injEq] at h
          obtain ⟨rfl, rfl⟩ := h
          have := qtB_le n _ m' j' (by simp only [List.length_drop]; simp only [List.length_cons] at hl; simp only [List.length_cons]; omega) hq
          simp only [List.length_drop, List.length_cons] at this k2 ⊢
          omega
theorem tokB_pos {l : List UInt8} {k n : Int} {s : List UInt8} {m : Nat} (h : tokB l = some (k, n, s, m)) : 1 ≤ m ∧ m ≤ l.length ∧ s.length ≤ m := by
  cases l with
  | nil => cases h
  | cons c r =>
    have t1 := tk_len inm (c :: r)
    have t2 := tk_len dgt (c :: r)
    have t3 := tk_len dgt r
    have t4 := tk_len inm r
    simp only [List.length_cons] at t1 t2 t3 t4 ⊢
    rw [tokB] at h
    split at h
    · split at h
      · rename_i hn
        cases h
        have := hn.1
        omega
      · cases h
    · split at h
      · rename_i hd
        cases hq : decD 9223372036854775807 ((c :: r).takeWhile dgt) with
        | none => rw [hq] at h; cases h
        | some x =>
          rw [hq] at h
          cases h
          have : 1 ≤ ((c :: r).takeWhile dgt).length := by rw [List.takeWhile_cons, if_pos hd]; simp
          simp
          omega
      · split at h
        · cases hq : decD 9223372036854775808 (r.takeWhile dgt) with
          | none => rw [hq] at h; cases h
          | some x =>
            rw [hq] at h
            simp only [Option.bind_some] at h
            split at h
            · cases h
            · cases h; simp; omega
        · split at h
          · cases hq : decD 1099511627776 (r.takeWhile dgt) with
            | none => rw [hq] at h; cases h
            | some x => rw [hq] at h; cases h; simp; omega
          · split at h
            · split at h
              · cases h; simp; omega
              · cases h
            · split at h
              · cases hq : qtB r with
                | none => rw [hq] at h; cases h
                | some q =>
                  obtain ⟨m', j⟩ := q
                  rw [hq] at h
                  simp only [Option.bind_some] at h
                  split at h
                  · cases h
                    have := qtB_le _ _ _ _ (Nat.le_refl _) hq
                    omega
                  · cases h
              · split at h
                · cases h; simp
                · cases h
theorem lexB_tok {c : UInt8} {r : List UInt8} {p : Nat} {k n : Int} {s : List UInt8} {m : Nat} (h : blk c = false) (ht : tokB (c :: r) = some (k, n, s, m)) :
    lexB (c :: r) p = cat [⟨k, p, n, ⟨s.toArray⟩⟩] (lexB ((c :: r).drop m) (p + m)) := by
  rw [lexB, if_neg (by rw [h]; simp), ht]
  dsimp only
  rw [drop_cons' (tokB_pos ht).1]
theorem lexB_skip (l : List UInt8) (p : Nat) : lexB l p = lexB (l.drop (l.takeWhile blk).length) (p + (l.takeWhile blk).length) := by
  induction l generalizing p with
  | nil => simp
  | cons c r ih =>
    cases h : blk c with
    | true => rw [lexB_blank h, ih, List.takeWhile_cons, if_pos h]; simp only [List.length_cons, List.drop_succ_cons]; congr 1; omega
    | false => rw [List.takeWhile_cons, if_neg (by rw [h]; simp)]; simp
/-- How many bytes a row goes on with. -/
theorem drop_tw {p : UInt8 → Bool} {l : List UInt8} {c : UInt8} {r : List UInt8} (h : l.drop (l.takeWhile p).length = c :: r) : p c = false := by
  induction l with
  | nil => simp at h
  | cons d t ih =>
    cases hd : p d with
    | true => rw [List.takeWhile_cons, if_pos hd] at h; exact ih (by simpa using h)
    | false =>
      rw [List.takeWhile_cons, if_neg (by rw [hd]; simp)] at h
      simp at h
      rw [← h.1, hd]
end Go.Proofs.YtmoglaknmlhpgaaGreat
/- The parser, plainly: its words, its state, and what each of its functions makes of it. -/
namespace Go.Proofs.YtmoglaknmlhpgaaGreat
set_option linter.unusedVariables false

abbrev w_policy : ByteArray := ⟨#[112, 111, 108, 105, 99, 121]⟩
abbrev w_set : ByteArray := ⟨#[115, 101, 116]⟩
abbrev w_denyover : ByteArray := ⟨#[100, 101, 110, 121, 111, 118, 101, 114]⟩
abbrev w_permitover : ByteArray := ⟨#[112, 101, 114, 109, 105, 116, 111, 118, 101, 114]⟩
abbrev w_first : ByteArray := ⟨#[102, 105, 114, 115, 116]⟩
abbrev w_only : ByteArray := ⟨#[111, 110, 108, 121]⟩
abbrev w_denyunless : ByteArray := ⟨#[100, 101, 110, 121, 117, 110, 108, 101, 115, 115]⟩
abbrev w_permitunless : ByteArray := ⟨#[112, 101, 114, 109, 105, 116, 117, 110, 108, 101, 115, 115]⟩
abbrev w_permit : ByteArray := ⟨#[112, 101, 114, 109, 105, 116]⟩
abbrev w_deny : ByteArray := ⟨#[100, 101, 110, 121]⟩
abbrev w_when : ByteArray := ⟨#[119, 104, 101, 110]⟩
abbrev w_and : ByteArray := ⟨#[97, 110, 100]⟩
abbrev w_or : ByteArray := ⟨#[111, 114]⟩
abbrev w_subject : ByteArray := ⟨#[115, 117, 98, 106, 101, 99, 116]⟩
abbrev w_action : ByteArray := ⟨#[97, 99, 116, 105, 111, 110]⟩
abbrev w_case : ByteArray := ⟨#[99, 97, 115, 101]⟩
abbrev w_env : ByteArray := ⟨#[101, 110, 118]⟩
abbrev w_false : ByteArray := ⟨#[102, 97, 108, 115, 101]⟩
abbrev w_true : ByteArray := ⟨#[116, 114, 117, 101]⟩
abbrev w_if : ByteArray := ⟨#[105, 102]⟩
abbrev w_one : ByteArray := ⟨#[111, 110, 101]⟩
abbrev w_size : ByteArray := ⟨#[115, 105, 122, 101]⟩
abbrev w_has : ByteArray := ⟨#[104, 97, 115]⟩
abbrev w_eq : ByteArray := ⟨#[101, 113]⟩
abbrev w_less : ByteArray := ⟨#[108, 101, 115, 115]⟩
abbrev w_add : ByteArray := ⟨#[97, 100, 100]⟩
abbrev w_sub : ByteArray := ⟨#[115, 117, 98]⟩
abbrev w_mul : ByteArray := ⟨#[109, 117, 108]⟩
abbrev w_not : ByteArray := ⟨#[110, 111, 116]⟩
abbrev w_on : ByteArray := ⟨#[111, 110]⟩
abbrev w_log : ByteArray := ⟨#[108, 111, 103]⟩
abbrev w_redact : ByteArray := ⟨#[114, 101, 100, 97, 99, 116]⟩
abbrev w_review : ByteArray := ⟨#[114, 101, 118, 105, 101, 119]⟩
abbrev w_notify : ByteArray := ⟨#[110, 111, 116, 105, 102, 121]⟩
abbrev m_lb : ByteArray := ⟨#[123]⟩
abbrev m_rb : ByteArray := ⟨#[125]⟩
abbrev m_lp : ByteArray := ⟨#[40]⟩
abbrev m_rp : ByteArray := ⟨#[41]⟩
abbrev m_dot : ByteArray := ⟨#[46]⟩
abbrev m_bang : ByteArray := ⟨#[33]⟩
abbrev m_eqm : ByteArray := ⟨#[61]⟩
abbrev m_lt : ByteArray := ⟨#[60]⟩
abbrev m_gt : ByteArray := ⟨#[62]⟩
abbrev m_semi : ByteArray := ⟨#[59]⟩
abbrev m_comma : ByteArray := ⟨#[44]⟩

/-- What is left of the tokens, how many rules there were, and what went wrong first. -/
structure Pz where
  rest : List Tk
  met : Nat
  err : Int
  at_ : Int
def Pz.hd (s : Pz) : Tk := s.rest.headD ⟨7, 0, 0, ⟨#[]⟩⟩
/-- What holds of it all along: an end is left, and numbers and texts are such as Go has. -/
def Pz.ok (L : Nat) (s : Pz) : Prop :=
  (∃ e, s.rest.getLast? = some e ∧ e.k = 7) ∧ (∀ t ∈ s.rest, InI t.k ∧ (0 ≤ t.p ∧ t.p ≤ (L : Int)) ∧ InI t.n ∧ t.s.size ≤ maxLen) ∧ (s.rest.length ≤ 5000 ∧ s.met + s.rest.length ≤ 6000 ∧ L ≤ 4096) ∧ (s.err = 0 ∨ s.err = 5 ∨ s.err = 6) ∧ 0 ≤ s.at_ ∧ s.at_ ≤ (L : Int)

def failR (e a : Int) (s : Pz) : Pz := if s.err = 0 then ⟨s.rest.drop (s.rest.length - 1), s.met, e, a⟩ else ⟨s.rest.drop (s.rest.length - 1), s.met, s.err, s.at_⟩
def wrongR (s : Pz) : Pz := failR 5 s.hd.p s
def mostR (n limit : Int) (s : Pz) : Pz := if limit < n then failR 6 s.hd.p s else s
/-- Which of these it is, from 1 on, or 0. -/
def idxW (x : ByteArray) : List ByteArray → Nat
  | [] => 0
  | y :: l => if x = y then 1 else if idxW x l = 0 then 0 else idxW x l + 1
def seesR (ws : List ByteArray) (s : Pz) : Nat := if s.hd.k = 1 ∨ s.hd.k = 6 then idxW s.hd.s ws else 0
def nextR (s : Pz) : Pz := ⟨s.rest.drop 1, s.met, s.err, s.at_⟩
def takeR (ws : List ByteArray) (s : Pz) : Nat × Pz := if seesR ws s = 0 then (0, s) else (seesR ws s, nextR s)
def mustR (ws : List ByteArray) (s : Pz) : Nat × Pz := if seesR ws s = 0 then (0, wrongR s) else (seesR ws s, nextR s)
def endR (s : Pz) : Pz := if s.hd.k = 7 then s else wrongR s
def nameR (s : Pz) : ByteArray × Pz := if s.hd.k = 1 then (s.hd.s, nextR s) else (⟨#[]⟩, wrongR s)
def catR (s : Pz) : Nat × Pz := takeR [w_subject, w_action, w_case, w_env] s
def attrR (cat : Int) (s : Pz) : Atr × Pz :=
  let s1 := if cat = 0 then wrongR s else s
  let s2 := (mustR [m_dot] s1).2
  let s3 := (nameR s2).2
  (⟨cat, (nameR s2).1, decide (0 < (takeR [m_bang] s3).1)⟩, (takeR [m_bang] s3).2)
def kindR (k : Int) : Int := if k = 2 then 2 else if k = 3 then 4 else if k = 4 then 5 else if k = 5 then 3 else 1
def valueR (s : Pz) : Vl × Pz :=
  if kindR s.hd.k = 1 then (⟨1, ((mustR [w_false, w_true] s).1 : Int) - 1, ⟨#[]⟩⟩, (mustR [w_false, w_true] s).2)
  else (⟨kindR s.hd.k, s.hd.n, s.hd.s⟩, nextR s)
def matchR (s : Pz) : Mat × Pz :=
  let c := catR s
  let a := attrR (c.1 : Int) c.2
  let o := mustR [m_eqm, m_lt, m_gt] a.2
  let v := valueR o.2
  (⟨a.1, (o.1 : Int), v.1⟩, v.2)
/-- One behind the other, parted by a word. -/
def rowR {α : Type} (one : Pz → α × Pz) (btw : ByteArray) : Nat → List α → Pz → List α × Pz
  | 0, l, s => (l, s)
  | n + 1, l, s =>
    let x := one s
    let t := takeR [btw] (mostR ((l ++ [x.1]).length : Int) 8 x.2)
    if t.1 = 0 then (l ++ [x.1], t.2) else rowR one btw n (l ++ [x.1]) t.2
def allOfR (s : Pz) : List Mat × Pz := rowR matchR m_comma s.rest.length [] s
def anyOfR (s : Pz) : List (List Mat) × Pz :=
  let a := mustR [m_lp] s
  let r := rowR allOfR w_or a.2.rest.length [] a.2
  (r.1, (mustR [m_rp] r.2).2)
def targetR (s : Pz) : Tgt × Pz :=
  if (takeR [w_when] s).1 = 0 then ([], (takeR [w_when] s).2) else rowR anyOfR w_and (takeR [w_when] s).2.rest.length [] (takeR [w_when] s).2
def dutiesR : Nat → List Dut → Pz → List Dut × Pz
  | 0, l, s => (l, s)
  | n + 1, l, s =>
    if (takeR [w_on] s).1 = 0 then (l, (takeR [w_on] s).2) else
    let a := mustR [w_permit, w_deny] (takeR [w_on] s).2
    let b := mustR [w_log, w_redact, w_review, w_notify] a.2
    let c := nameR b.2
    dutiesR n (l ++ [⟨(a.1 : Int), (b.1 : Int), c.1⟩]) (mostR ((l ++ [(⟨(a.1 : Int), (b.1 : Int), c.1⟩ : Dut)]).length : Int) 8 c.2)
def leafR (s : Pz) : Nod × Pz :=
  if 0 < (catR s).1 then (⟨2, zeroV, (attrR ((catR s).1 : Int) (catR s).2).1⟩, (attrR ((catR s).1 : Int) (catR s).2).2)
  else (⟨1, (valueR (catR s).2).1, zeroA⟩, (valueR (catR s).2).2)
def isBag (op : Int) : Bool := decide (op = 3) || decide (op = 4) || decide (op = 5)
def isTwo (op : Int) : Bool := !decide (op = 3) && !decide (op = 4) && !decide (op = 11)
def callR (ex : List Nod → Bool → Pz → List Nod × Pz) (l : List Nod) (s : Pz) : List Nod × Int × Pz :=
  let m := mustR [w_one, w_size, w_has, w_eq, w_less, w_add, w_sub, w_mul, w_not, w_and, w_or] s
  let op : Int := 2 + (m.1 : Int)
  let e := ex l (isBag op) m.2
  let f := if isTwo op = true then ex e.1 false e.2 else e
  (f.1, op, (mustR [m_rp] f.2).2)
/-- Behind a node: it is one too many, or not what must stand here. -/
def nodR (bag : Bool) (p : Int) (l : List Nod) (n : Nod) (s : Pz) : List Nod × Pz :=
  (l ++ [n], if bag != decide (n.op = 2) then failR 5 p (mostR ((l ++ [n]).length : Int) 32 s) else mostR ((l ++ [n]).length : Int) 32 s)
def exprR : Nat → List Nod → Bool → Pz → List Nod × Pz
  | 0, l, _, s => (l, s)
  | n + 1, l, bag, s =>
    if 0 < (takeR [m_lp] s).1 then
      let c := callR (exprR n) l (takeR [m_lp] s).2
      nodR bag s.hd.p c.1 ⟨c.2.1, zeroV, zeroA⟩ c.2.2
    else nodR bag s.hd.p l (leafR (takeR [m_lp] s).2).1 (leafR (takeR [m_lp] s).2).2
def condR (s : Pz) : List Nod × Pz :=
  if (takeR [w_if] s).1 = 0 then ([], (takeR [w_if] s).2) else exprR (takeR [w_if] s).2.rest.length [] false (takeR [w_if] s).2
def dutsR (s : Pz) : List Dut × Pz := dutiesR s.rest.length [] s
def ruleR (s : Pz) : Rul × Pz :=
  let a := mustR [w_permit, w_deny] s
  let b := nameR a.2
  let t := targetR b.2
  let c := condR t.2
  let d := dutsR c.2
  (⟨b.1, decide (a.1 = 2), t.1, c.1, d.1⟩, (mustR [m_semi] d.2).2)
def metR (s : Pz) : Pz := ⟨s.rest, s.met + 1, s.err, s.at_⟩
def rulesR : Nat → List Rul → Pz → List Rul × Pz
  | 0, l, s => (l, s)
  | n + 1, l, s =>
    if seesR [w_permit, w_deny] s = 0 then (l, s) else
    let s1 := mostR ((l.length : Int) + 1) 16 (metR s)
    let u := ruleR (mostR (s1.met : Int) 64 s1)
    rulesR n (l ++ [u.1]) u.2
def kidsR (po : Pz → Pol × Pz) : Nat → List Pol → Pz → List Pol × Pz
  | 0, l, s => (l, s)
  | n + 1, l, s =>
    if seesR [w_policy, w_set] s = 0 then (l, s) else
    let u := po (mostR ((l.length : Int) + 1) 16 s)
    kidsR po n (l ++ [u.1]) u.2
/-- A policy, where so many levels are left. -/
def polR : Nat → Pz → Pol × Pz
  | 0, s => (.mk ⟨#[]⟩ false 0 [] [] [] [], s)
  | f + 1, s =>
    let s0 := mostR (5 - (f : Int)) 4 s
    let a := mustR [w_policy, w_set] s0
    let b := nameR a.2
    let c := mustR [w_denyover, w_permitover, w_first, w_only, w_denyunless, w_permitunless] b.2
    let t := targetR c.2
    let d := mustR [m_lb] t.2
    let k := if a.1 = 2 then kidsR (polR f) d.2.rest.length [] d.2 else ([], d.2)
    let r := if a.1 = 2 then ([], k.2) else rulesR d.2.rest.length [] d.2
    let e := mustR [m_rb] r.2
    let o := dutsR e.2
    (.mk b.1 (decide (a.1 = 2)) (c.1 : Int) t.1 r.1 k.1 o.1, o.2)
def noPol : Pol := .mk ⟨#[]⟩ false 0 [] [] [] []
/-- P9: a text's policy, or the error and its place. -/
def parseR (s : ByteArray) : Pol × Int × Int :=
  if 4096 < s.size then (noPol, 6, 4096) else
  match lexB s.data.toList 0 with
  | .error p => (noPol, 5, (p : Int))
  | .ok ts =>
    let u := polR 5 ⟨ts, 0, 0, 0⟩
    let z := endR u.2
    if z.err = 0 then (if rightE u.1 = 0 then (u.1, 0, 0) else (noPol, 5, (s.size : Int))) else (noPol, z.err, z.at_)

/-! ### What holds all along -/
section
variable {L : Nat} {s : Pz}
theorem Pz.ok.ne (h : s.ok L) : s.rest ≠ [] := by
  obtain ⟨⟨e, he, _⟩, _⟩ := h
  intro h0
  rw [h0] at he
  cases he
theorem Pz.ok.pos (h : s.ok L) : 1 ≤ s.rest.length := List.length_pos_iff.2 h.ne
theorem Pz.ok.get0 (h : s.ok L) : s.rest[0]? = some s.hd := by
  have := h.ne
  unfold Pz.hd
  cases hr : s.rest with
  | nil => exact absurd hr this
  | cons t l => rfl
theorem Pz.ok.hd_ok (h : s.ok L) : InI s.hd.k ∧ (0 ≤ s.hd.p ∧ s.hd.p ≤ (L : Int)) ∧ InI s.hd.n ∧ s.hd.s.size ≤ maxLen := h.2.1 _ (List.mem_of_getElem? h.get0)
/-- What is not the end is not the last. -/
theorem Pz.ok.more (h : s.ok L) (hk : s.hd.k ≠ 7) : 2 ≤ s.rest.length := by
  have h0 := h.ne
  obtain ⟨⟨e, he, h7⟩, _⟩ := h
  unfold Pz.hd at hk
  rcases hr : s.rest with _ | ⟨t, _ | ⟨u, l⟩⟩
  · exact absurd hr h0
  · rw [hr] at he hk
    simp at he hk
    rw [he] at hk
    exact absurd h7 hk
  · simp
theorem Pz.ok.next (h : s.ok L) (hk : s.hd.k ≠ 7) : (nextR s).ok L := by
  have h2 := h.more hk
  obtain ⟨⟨e, he, h7⟩, ha, hl, hx⟩ := h
  rcases hr : s.rest with _ | ⟨t, l⟩
  · rw [hr] at h2; simp at h2
  · rw [hr] at h2
    simp at h2
    refine ⟨⟨e, ?_, h7⟩, fun t ht => ha t ?_, ?_, hx⟩
    · show (s.rest.drop 1).getLast? = _
      rw [hr] at he ⊢
      rcases l with _ | ⟨u, l⟩
      · simp at h2
      · simpa [List.getLast?_cons_cons] using he
    · exact List.mem_of_mem_drop ht
    · have e : (nextR s).rest.length = s.rest.length - 1 := List.length_drop
      have e2 : (nextR s).met = s.met := rfl
      omega
theorem Pz.ok.fail (h : s.ok L) {e p : Int} (he : e = 5 ∨ e = 6) (hp : 0 ≤ p ∧ p ≤ (L : Int)) : (failR e p s).ok L := by
  have h1 := h.pos
  have key : ∀ (x y : Int), (x = 0 ∨ x = 5 ∨ x = 6) → 0 ≤ y ∧ y ≤ (L : Int) → (⟨s.rest.drop (s.rest.length - 1), s.met, x, y⟩ : Pz).ok L := by
    intro x y hx hy
    obtain ⟨⟨z, hz, h7⟩, ha, hl, _⟩ := h
    refine ⟨⟨z, ?_, h7⟩, fun t ht => ha t (List.mem_of_mem_drop ht), ?_, hx, hy⟩
    · show (s.rest.drop (s.rest.length - 1)).getLast? = _
      rw [List.getLast?_drop, if_neg (by omega)]
      exact hz
    · show (s.rest.drop (s.rest.length - 1)).length ≤ _ ∧ s.met + (s.rest.drop (s.rest.length - 1)).length ≤ _ ∧ _
      rw [List.length_drop]
      omega
  unfold failR
  split
  · exact key _ _ (by omega) hp
  · exact key _ _ h.2.2.2.1 h.2.2.2.2
theorem Pz.ok.wrong (h : s.ok L) : (wrongR s).ok L := h.fail (by omega) h.hd_ok.2.1
theorem Pz.ok.most (h : s.ok L) (n l : Int) : (mostR n l s).ok L := by
  unfold mostR
  split
  · exact h.fail (by omega) h.hd_ok.2.1
  · exact h
theorem failR_len (e p : Int) (h : s.ok L) : (failR e p s).rest.length = 1 := by
  have := h.pos
  unfold failR
  split <;> (show (s.rest.drop (s.rest.length - 1)).length = 1; rw [List.length_drop]; omega)
theorem mostR_len (h : s.ok L) (n l : Int) : (mostR n l s).rest.length ≤ s.rest.length := by
  have := h.pos
  unfold mostR
  split
  · rw [failR_len _ _ h]; exact this
  · exact Nat.le_refl _
theorem seesR_more (h : s.ok L) {ws : List ByteArray} (h0 : seesR ws s ≠ 0) : s.hd.k ≠ 7 := by
  intro h7
  unfold seesR at h0
  rw [h7] at h0
  simp at h0
theorem nextR_len (s : Pz) : (nextR s).rest.length = s.rest.length - 1 := List.length_drop
theorem Pz.ok.take (h : s.ok L) (ws : List ByteArray) : (takeR ws s).2.ok L := by
  unfold takeR
  split
  · exact h
  · rename_i h0
    exact h.next (seesR_more h h0)
theorem Pz.ok.must (h : s.ok L) (ws : List ByteArray) : (mustR ws s).2.ok L := by
  unfold mustR
  split
  · exact h.wrong
  · rename_i h0
    exact h.next (seesR_more h h0)
theorem Pz.ok.name (h : s.ok L) : (nameR s).2.ok L := by
  unfold nameR
  split
  · rename_i h1
    exact h.next (by omega)
  · exact h.wrong
theorem Pz.ok.end_ (h : s.ok L) : (endR s).ok L := by
  unfold endR
  split
  · exact h
  · exact h.wrong
theorem takeR_len (h : s.ok L) (ws : List ByteArray) : (takeR ws s).2.rest.length + (if (takeR ws s).1 = 0 then 0 else 1) = s.rest.length := by
  have := h.pos
  unfold takeR
  split
  · simp
  · rename_i h0
    show (nextR s).rest.length + 1 = _
    rw [nextR_len]
    omega
theorem mustR_len (h : s.ok L) (ws : List ByteArray) : (mustR ws s).2.rest.length ≤ s.rest.length ∧ 1 ≤ (mustR ws s).2.rest.length := by
  have := h.pos
  refine ⟨?_, (h.must ws).pos⟩
  unfold mustR
  split
  · unfold wrongR; rw [failR_len _ _ h]; exact this
  · rw [nextR_len]; omega
theorem nameR_len (h : s.ok L) : (nameR s).2.rest.length ≤ s.rest.length := by
  have := h.pos
  unfold nameR
  split
  · rw [nextR_len]; omega
  · unfold wrongR; rw [failR_len _ _ h]; exact this
theorem idxW_le (x : ByteArray) : ∀ ws : List ByteArray, idxW x ws ≤ ws.length
  | [] => Nat.le_refl _
  | y :: l => by
    have := idxW_le x l
    unfold idxW
    split
    · simp
    · split
      · omega
      · simp; omega
theorem seesR_le (ws : List ByteArray) (s : Pz) : seesR ws s ≤ ws.length := by
  unfold seesR
  split
  · exact idxW_le _ _
  · omega
theorem takeR_le (ws : List ByteArray) (s : Pz) : (takeR ws s).1 ≤ ws.length := by
  unfold takeR
  split
  · exact Nat.zero_le _
  · exact seesR_le _ _
theorem mustR_le (ws : List ByteArray) (s : Pz) : (mustR ws s).1 ≤ ws.length := by
  unfold mustR
  split
  · exact Nat.zero_le _
  · exact seesR_le _ _
theorem nameR_size (h : s.ok L) : (nameR s).1.size ≤ maxLen := by
  unfold nameR
  split
  · exact h.hd_ok.2.2.2
  · exact Nat.zero_le _
end
end Go.Proofs.YtmoglaknmlhpgaaGreat
/- The parser's reader in memory; its smallest functions. -/
namespace Go.Proofs.YtmoglaknmlhpgaaGreat
set_option linter.unusedVariables false
open Go.RowKit

/-- The reader's block g says s; the tokens lie ahead of it. -/
def Rd (L : Nat) (w : World) (g : Nat) (s : Pz) : Prop :=
  ∃ b o n c, Ob w g 100 #[.slice (some ⟨b, o, none⟩) n c, .int .i64 (s.met : Int), .int .i64 s.err, .int .i64 s.at_] ∧ s.ok L ∧ (s.rest.length = n ∧ n ≤ c ∧ c ≤ maxLen) ∧ b < g ∧
    ∀ j v, s.rest[j]? = some v → w.cell? ⟨b, o + j * 4, none⟩ = some (.int .i64 v.k) ∧ w.cell? ⟨b, o + j * 4 + 1, none⟩ = some (.int .i64 v.p) ∧ w.cell? ⟨b, o + j * 4 + 2, none⟩ = some (.int .i64 v.n) ∧ w.cell? ⟨b, o + j * 4 + 3, none⟩ = some (.string v.s)
section
variable {L g : Nat} {w w' w'' : World} {s : Pz}
theorem Rd.ok (h : Rd L w g s) : s.ok L := by obtain ⟨b, o, n, c, _, h, _⟩ := h; exact h
theorem Rd.lt (h : Rd L w g s) : g < w.heap.size := by obtain ⟨b, o, n, c, h, _⟩ := h; exact h.lt
theorem Rd.keep (h : Rd L w g s) (hk : ∀ k, k ≤ g → w'.heap[k]? = w.heap[k]?) : Rd L w' g s := by
  obtain ⟨b, o, n, c, h1, h2, h3, h4, h5⟩ := h
  refine ⟨b, o, n, c, h1.keep (hk g (Nat.le_refl _)), h2, h3, h4, fun j v hv => ?_⟩
  obtain ⟨a1, a2, a3, a4⟩ := h5 j v hv
  have e := fun x : Nat => World.cell?_of_block (w := w) (w' := w') (a := ⟨b, x, none⟩) (hk b (Nat.le_of_lt h4))
  exact ⟨(e _).trans a1, (e _).trans a2, (e _).trans a3, (e _).trans a4⟩
theorem Rd.then_ (h : Rd L w g s) (hb : Below w.heap.size w w') : Rd L w' g s := h.keep fun k hk => hb.block k (Nat.lt_of_le_of_lt hk h.lt)
theorem Rd.alloc (h : Rd L w g s) (o : Obj) : Rd L (w.alloc o) g s := h.then_ ((Below.refl _ _).alloc (Nat.le_refl _) _)
theorem Rd.other (h : Rd L w g s) {r : Nat} (ho : Only r w w') (hr : g < r) : Rd L w' g s := h.keep fun k hk => ho.heap (Nat.lt_of_le_of_lt hk h.lt) (by omega)
theorem Rd.set (h : Rd L w g s) {r : Nat} (hr : g < r) (i : Nat) (u : Value) : Rd L (w.setCell ⟨r, i, none⟩ u) g s := h.other (Only.refl.setCell (p := ⟨r, i, none⟩) rfl u) hr
theorem Only.then_ (h : Only g w w') (k : Below w'.heap.size w' w'') : Only g w w'' := h.trans (.of_below k)
theorem Only.al (h : Only g w w') (o : Obj) : Only g w (w'.alloc o) := h.then_ ((Below.refl _ _).alloc (Nat.le_refl _) _)
theorem Only.new (h : Only g w w') {r : Nat} (hr : w.heap.size ≤ r) (i : Nat) (u : Value) : Only g w (w'.setCell ⟨r, i, none⟩ u) :=
  ⟨h.os, h.tape, h.output, by simpa [World.setCell] using h.size, fun k hk hne => (Below.heap_setCell w' ⟨r, i, none⟩ u k (show k ≠ r by omega)).trans (h.block k hk hne)⟩
theorem Only.at_g (h : Only g w w') (i : Nat) (u : Value) : Only g w (w'.setCell ⟨g, i, none⟩ u) := h.setCell (p := ⟨g, i, none⟩) rfl u
/-- The reader's cells, and those of the token that stands here. -/
theorem Rd.at_ (h : Rd L w g s) : ∃ b o n c, Ob w g 100 #[.slice (some ⟨b, o, none⟩) n c, .int .i64 (s.met : Int), .int .i64 s.err, .int .i64 s.at_] ∧ s.ok L ∧ (s.rest.length = n ∧ 1 ≤ n ∧ n ≤ c ∧ c ≤ maxLen) ∧ b < g ∧
    (w.cell? ⟨b, o, none⟩ = some (.int .i64 s.hd.k) ∧ w.cell? ⟨b, o + 1, none⟩ = some (.int .i64 s.hd.p) ∧ w.cell? ⟨b, o + 2, none⟩ = some (.int .i64 s.hd.n) ∧ w.cell? ⟨b, o + 3, none⟩ = some (.string s.hd.s)) ∧
    ∀ (k : Nat) (m e a : Int) (s' : Pz), k < n → s'.rest = s.rest.drop k → (s'.met : Int) = m → s'.err = e → s'.at_ = a → s'.ok L →
      ∀ w', (∀ j, j < g → w'.heap[j]? = w.heap[j]?) → Ob w' g 100 #[.slice (some ⟨b, o + k * 4, none⟩) (n - k) (c - k), .int .i64 m, .int .i64 e, .int .i64 a] → Rd L w' g s' := by
  obtain ⟨b, o, n, c, h1, h2, ⟨h3, h3a, h3b⟩, h4, h5⟩ := h
  have hp := h2.pos
  refine ⟨b, o, n, c, h1, h2, ⟨h3, by omega, h3a, h3b⟩, h4, by simpa using h5 0 _ h2.get0, fun k m e a s' hk hr hm he ha hok w' hw hob => ?_⟩
  subst hm he ha
  refine ⟨b, o + k * 4, n - k, c - k, hob, hok, ⟨by rw [hr, List.length_drop]; omega, by omega, by omega⟩, h4, fun j v hv => ?_⟩
  rw [hr, List.getElem?_drop] at hv
  obtain ⟨a1, a2, a3, a4⟩ := h5 _ v hv
  have e := fun x : Nat => World.cell?_of_block (w := w) (w' := w') (a := ⟨b, x, none⟩) (hw b h4)
  have ex : o + k * 4 + j * 4 = o + (k + j) * 4 := by omega
  rw [ex]
  exact ⟨(e _).trans a1, (e _).trans a2, (e _).trans a3, (e _).trans a4⟩
end

theorem str_self (s : ByteArray) : (s.toList == s.toList) = true := by simp
theorem str_other {s t : ByteArray} (h : s ≠ t) : (s.toList == t.toList) = false := by
  rw [beq_eq_false_iff_ne]
  intro e
  exact h (text_eq (by show s.data.toList = t.data.toList; rw [← ByteArray.toList_eq, ← ByteArray.toList_eq, e]))
/-- So far none of them is it. -/
theorem idxW_step {x : ByteArray} : ∀ {ws : List ByteArray} {k : Nat} {y : ByteArray}, (∀ j z, ws[j]? = some z → j < k → x ≠ z) → ws[k]? = some y → x = y → idxW x ws = k + 1
  | [], _, _, _, h, _ => by simp at h
  | z :: l, 0, y, _, h, e => by
    simp at h
    subst h
    simp [idxW, e]
  | z :: l, k + 1, y, hn, h, e => by
    have h0 := hn 0 z rfl (by omega)
    have := idxW_step (x := x) (ws := l) (k := k) (y := y) (fun j v hv hj => hn (j + 1) v (by simpa using hv) (by omega)) (by simpa using h) e
    unfold idxW
    rw [if_neg h0, this, if_neg (by omega)]
theorem idxW_none {x : ByteArray} : ∀ {ws : List ByteArray}, (∀ (j : Nat) z, ws[j]? = some z → x ≠ z) → idxW x ws = 0
  | [], _ => rfl
  | z :: l, h => by
    have := idxW_none (x := x) (ws := l) fun j v hv => h (j + 1) v (by simpa using hv)
    unfold idxW
    rw [if_neg (h 0 z rfl), this, if_pos rfl]

set_option maxHeartbeats 800000 in
theorem index_any {w : World} {B : Nat} {A : Option Addr} {n c : Nat} {ws : List ByteArray} (x : ByteArray) (h : Sl w B A n c (ws.map Value.string)) :
    Calls Tryz.prog 115 #[.slice A n c, .string x] w fun e w' => e = .returned (.int .i64 ((idxW x ws : Int) - 1)) ∧ w = w' := by
  have hle := h.le
  have hcap := h.cap
  have HL : Hid (ws.length = n) := by show _ = _; rw [← h.len, List.length_map]
  unfold maxLen at hcap
  have H := Lib.hid h
  clear h
  go_enter Tryz.func115, Tryz.ntmps115
  go_wp2
  go_loop [8] (fun i => ∃ k : Nat, k ≤ n ∧ i = .int .i64 k ∧ ∀ j z, ws[j]? = some z → j < k → x ≠ z) (fun i => n - (intOf i).toNat)
  case atStart => exact ⟨0, Nat.zero_le _, rfl, fun j z _ h => by omega⟩
  case round =>
    obtain ⟨k, hk, rfl, hf⟩ := hrel
    have HF := Lib.hid hf
    clear hf
    by_cases hlt : k < n
    · obtain ⟨b, o, u, rfl, hb, hu, hc⟩ := H.out.at_ hlt
      rw [List.getElem?_map] at hu
      obtain ⟨y, hy, rfl⟩ := Option.map_eq_some_iff.1 hu
      have HY := Lib.hid hy
      clear hu hy
      by_cases hxy : x = y
      · have hq : (x.toList == y.toList) = true := by rw [hxy]; exact str_self y
        have HXY := Lib.hid hxy
        clear hxy
        go_wp2
        go_ret
        exact ⟨ret_int (by rw [idxW_step HF.out HY.out HXY.out]; omega), rfl⟩
      · have hq := str_other hxy
        have HXY := Lib.hid hxy
        clear hxy
        go_wp2
        go_round
        case rel => exact ⟨k + 1, by omega, by go_num, fun j z hz hj => by
          by_cases e : j = k
          · subst e
            obtain rfl := Option.some.inj (HY.out.symm.trans hz)
            exact HXY.out
          · exact HF.out j z hz (by omega)⟩
        case measure => simp [intOf]; omega
    · obtain rfl : k = n := by omega
      go_wp2
      go_ret
      exact ⟨ret_int (by rw [idxW_none (fun j z hz => HF.out j z hz (by have := HL.out; have := (List.getElem?_eq_some_iff.1 hz).1; omega))]; rfl), rfl⟩
end Go.Proofs.YtmoglaknmlhpgaaGreat
/- The parser's smallest functions: here, fail, wrong, most, sees, take, must, end, name. -/
namespace Go.Proofs.YtmoglaknmlhpgaaGreat
set_option linter.unusedVariables false
open Go.RowKit

section
variable {L g : Nat} {w : World} {s : Pz}
set_option maxHeartbeats 800000 in
theorem phere_any (h : Rd L w g s) : Calls Tryz.prog 88 #[.pointer (some ⟨g, 0, none⟩)] w fun e w' => e = .returned (.int .i64 s.hd.p) ∧ w = w' := by
  obtain ⟨b, o, n, c, hob, hok, ⟨hn, h1, h2, h3⟩, hbg, ⟨c0, c1, c2, c3⟩, _⟩ := h.at_
  have q0 := hob.cell 0
  clear hob hok h
  go_enter Tryz.func88, Tryz.ntmps88
  go_wp2_with fail
  go_ret
  exact ⟨rfl, rfl⟩

set_option maxRecDepth 100000 in
set_option maxHeartbeats 1600000 in
theorem pfail_any (h : Rd L w g s) {e p : Int} (he : e = 5 ∨ e = 6) (hp : 0 ≤ p ∧ p ≤ (L : Int)) :
    Calls Tryz.prog 87 #[.pointer (some ⟨g, 0, none⟩), .int .i64 e, .int .i64 p] w fun x w' => x = .returned (.tuple #[]) ∧ Only g w w' ∧ Rd L w' g (failR e p s) := by
  have HOK := Lib.hid (h.ok.fail he hp)
  obtain ⟨b, o, n, c, hob, hok, ⟨hn, h1, h2, h3⟩, hbg, _, hmk⟩ := h.at_
  have q0 := hob.cell 0
  have q1 := hob.cell 1
  have q2 := hob.cell 2
  have q3 := hob.cell 3
  have f0 := hob.frozen 0
  have f2 := hob.frozen 2
  have f3 := (hob.put 2 (.int .i64 e)).frozen 3
  have HOB := Lib.hid hob
  have HMK := Lib.hid hmk
  have HN := Lib.hid hn
  clear hob hok hmk h hn
  unfold maxLen at h3
  by_cases h0 : s.err = 0
  · have he0 : (s.err == 0) = true := by simpa using h0
    have HE : Hid (failR e p s = ⟨s.rest.drop (s.rest.length - 1), s.met, e, p⟩) := by show _ = _; unfold failR; rw [if_pos h0]
    clear h0
    go_enter Tryz.func87, Tryz.ntmps87
    go_wp2_with fail
    have O2 : Hid (Ob ((w.setCell ⟨g, 2, none⟩ (.int .i64 e)).setCell ⟨g, 3, none⟩ (.int .i64 p)) g 100 #[.slice (some ⟨b, o, none⟩) n c, .int .i64 (s.met : Int), .int .i64 e, .int .i64 p]) := Lib.hid (by have := (HOB.out.put 2 (.int .i64 e)).put 3 (.int .i64 p); simpa using this)
    have on2 := Lib.hid (((Only.refl (w := w)).at_g (g := g) 2 (.int .i64 e)).at_g 3 (.int .i64 p))
    generalize (w.setCell ⟨g, 2, none⟩ (.int .i64 e)).setCell ⟨g, 3, none⟩ (.int .i64 p) = w2 at *
    clear q0 q1 q2 q3 f0 f2 f3
    have q0 : w2.cell? ⟨g, 0, none⟩ = some (.slice (some ⟨b, o, none⟩) n c) := O2.out.cell 0
    have hw : IntKind.i64.wrap ((n : Int) - 1) = (n : Int) - 1 := IntWalk.i64_in _ (by omega)
    have hs1 : (0 : Int) ≤ (n : Int) - 1 := by omega
    have hs2 : (n : Int) - 1 ≤ (n : Int) := by omega
    have hs3 : ((n : Int) - 1).toNat = n - 1 := by omega
    have hs4 : ¬ c = n - 1 := by omega
    have hs5 : (1 : Int) ≤ (n : Int) := by omega
    go_still_tail 14, (by kernel_rfl)
    clear q0 hw hs1 hs2 hs3 hs4 hs5
    change wpList _ _ _ _ _ (w2.drewN 1)
    have O3 := Lib.hid (O2.out.keep (w' := w2.drewN 1) rfl)
    have ON3 := Lib.hid (on2.out.drewN 1)
    generalize w2.drewN 1 = w3 at *
    have f0 := O3.out.frozen 0
    have q0 := O3.out.cell 0
    go_wp2_with fail
    go_end0
    refine ⟨rfl, ON3.out.at_g 0 _, ?_⟩
    have he := HE.out
    rw [he] at HOK ⊢
    refine HMK.out (n - 1) _ _ _ _ (by omega) (by rw [HN.out]) rfl rfl rfl HOK.out _ (fun j hj => (ON3.out.at_g 0 _).heap (Nat.lt_trans hj HOB.out.lt) (by omega)) ?_
    have := O3.out.put 0 (.slice (some ⟨b, o + (n - 1) * 4, none⟩) (n - (n - 1)) (c - (n - 1)))
    simpa using this
  · have he0 : (s.err == 0) = false := by simpa using h0
    have HE : Hid (failR e p s = ⟨s.rest.drop (s.rest.length - 1), s.met, s.err, s.at_⟩) := by show _ = _; unfold failR; rw [if_neg h0]
    clear h0
    go_enter Tryz.func87, Tryz.ntmps87
    go_wp2_with fail
    have O2 := HOB
    have on2 := Lib.hid (Only.refl (w := w) (r := g))
    clear q0 q1 q2 q3 f0 f2 f3
    have q0 : w.cell? ⟨g, 0, none⟩ = some (.slice (some ⟨b, o, none⟩) n c) := O2.out.cell 0
    have hw : IntKind.i64.wrap ((n : Int) - 1) = (n : Int) - 1 := IntWalk.i64_in _ (by omega)
    have hs1 : (0 : Int) ≤ (n : Int) - 1 := by omega
    have hs2 : (n : Int) - 1 ≤ (n : Int) := by omega
    have hs3 : ((n : Int) - 1).toNat = n - 1 := by omega
    have hs4 : ¬ c = n - 1 := by omega
    have hs5 : (1 : Int) ≤ (n : Int) := by omega
    go_still_tail 14, (by kernel_rfl)
    clear q0 hw hs1 hs2 hs3 hs4 hs5
    change wpList _ _ _ _ _ (w.drewN 1)
    have O3 := Lib.hid (O2.out.keep (w' := w.drewN 1) rfl)
    have ON3 := Lib.hid (on2.out.drewN 1)
    generalize w.drewN 1 = w3 at *
    have f0 := O3.out.frozen 0
    have q0 := O3.out.cell 0
    go_wp2_with fail
    go_end0
    refine ⟨rfl, ON3.out.at_g 0 _, ?_⟩
    have he := HE.out
    rw [he] at HOK ⊢
    refine HMK.out (n - 1) _ _ _ _ (by omega) (by rw [HN.out]) rfl rfl rfl HOK.out _ (fun j hj => (ON3.out.at_g 0 _).heap (Nat.lt_trans hj HOB.out.lt) (by omega)) ?_
    have := O3.out.put 0 (.slice (some ⟨b, o + (n - 1) * 4, none⟩) (n - (n - 1)) (c - (n - 1)))
    simpa using this
theorem pwrong_any (h : Rd L w g s) : Calls Tryz.prog 68 #[.pointer (some ⟨g, 0, none⟩)] w fun x w' => x = .returned (.tuple #[]) ∧ Only g w w' ∧ Rd L w' g (wrongR s) := by
  have HC := Lib.hid (phere_any h)
  have HF := Lib.hid (pfail_any h (e := 5) (.inl rfl) h.ok.hd_ok.2.1)
  clear h
  go_enter Tryz.func68, Tryz.ntmps68
  go_wp2_with (first
    | (go_at_call 88; refine HC.out.mono ?_; rintro x w1 ⟨rfl, rfl⟩)
    | (go_at_call 87; refine HF.out.mono ?_; rintro x w1 ⟨rfl, ho, hr⟩; have HO := Lib.hid ho; have HR := Lib.hid hr; clear ho hr))
  go_end0
  exact ⟨rfl, HO.out, HR.out⟩
theorem pmost_any (h : Rd L w g s) (n l : Int) : Calls Tryz.prog 61 #[.pointer (some ⟨g, 0, none⟩), .int .i64 n, .int .i64 l] w fun x w' => x = .returned (.tuple #[]) ∧ Only g w w' ∧ Rd L w' g (mostR n l s) := by
  have HC := Lib.hid (phere_any h)
  have HF := Lib.hid (pfail_any h (e := 6) (.inr rfl) h.ok.hd_ok.2.1)
  have HH := Lib.hid h
  clear h
  by_cases hl : l < n
  · have HE : Hid (mostR n l s = failR 6 s.hd.p s) := by show _ = _; unfold mostR; rw [if_pos hl]
    have hl2 : decide (l < n) = true := decide_eq_true hl
    go_enter Tryz.func61, Tryz.ntmps61
    go_wp2_with (first
      | (go_at_call 88; refine HC.out.mono ?_; rintro x w1 ⟨rfl, rfl⟩)
      | (go_at_call 87; refine HF.out.mono ?_; rintro x w1 ⟨rfl, ho, hr⟩; have HO := Lib.hid ho; have HR := Lib.hid hr; clear ho hr))
    go_end0
    exact ⟨rfl, HO.out, by rw [HE.out]; exact HR.out⟩
  · have HE : Hid (mostR n l s = s) := by show _ = _; unfold mostR; rw [if_neg hl]
    have hl2 : decide (l < n) = false := decide_eq_false hl
    go_enter Tryz.func61, Tryz.ntmps61
    go_wp2_with fail
    go_end0
    exact ⟨rfl, Only.refl, by rw [HE.out]; exact HH.out⟩
set_option maxHeartbeats 1600000 in
theorem psees_any (h : Rd L w g s) {B n c : Nat} {A : Option Addr} {ws : List ByteArray} (hs : Sl w B A n c (ws.map Value.string)) (hB : B ≤ w.heap.size) :
    Calls Tryz.prog 92 #[.pointer (some ⟨g, 0, none⟩), .slice A n c] w fun x w' => x = .returned (.int .i64 (seesR ws s : Int)) ∧ Below w.heap.size w w' := by
  obtain ⟨b, o, m, d, hob, hok, ⟨hn, h1, h2, h3⟩, hbg, ⟨c0, c1, c2, c3⟩, _⟩ := h.at_
  have q0 := hob.cell 0
  have HI := Lib.hid (index_any s.hd.s (hs.lit_keep hB (.cells #[.int .i64 s.hd.k, .int .i64 s.hd.p, .int .i64 s.hd.n, .string s.hd.s] 115)))
  have hbw : Below w.heap.size w (w.alloc (.cells #[.int .i64 s.hd.k, .int .i64 s.hd.p, .int .i64 s.hd.n, .string s.hd.s] 115)) := (Below.refl _ _).alloc (Nat.le_refl _) _
  have HB := Lib.hid hbw
  have HX := Lib.hid (idxW_le s.hd.s ws)
  have HL : Hid (ws.length = n ∧ n ≤ maxLen) := ⟨by rw [← hs.len, List.length_map], Nat.le_trans hs.le hs.cap⟩
  unfold maxLen at HL
  clear hob hok h hs hbw
  by_cases hk : s.hd.k = 1 ∨ s.hd.k = 6
  · have HE : Hid (seesR ws s = idxW s.hd.s ws) := by show _ = _; unfold seesR; rw [if_pos hk]
    have hlt : (idxW s.hd.s ws : Int) ≤ 9223372036854775807 := by have := HX.out; have := HL.out; omega
    generalize idxW s.hd.s ws = i at *
    rcases hk with hk | hk
    all_goals
      have hk1 : (s.hd.k != 1) = decide (s.hd.k ≠ 1) := by rw [Bool.eq_iff_iff]; simp
      have hk6 : (s.hd.k != 6) = decide (s.hd.k ≠ 6) := by rw [Bool.eq_iff_iff]; simp
      rw [hk] at hk1 hk6
      simp only [hk] at *
      go_enter Tryz.func92, Tryz.ntmps92
      go_wp2_with (first
        | (go_at_call 115; refine HI.out.mono ?_; rintro x w1 ⟨rfl, rfl⟩))
      go_ret
      exact ⟨ret_int (by rw [HE.out]; try omega), HB.out⟩
  · have HE : Hid (seesR ws s = 0) := by show _ = _; unfold seesR; rw [if_neg hk]
    have hk1 : (s.hd.k != 1) = true := by rw [bne_iff_ne]; omega
    have hk6 : (s.hd.k != 6) = true := by rw [bne_iff_ne]; omega
    clear hk
    go_enter Tryz.func92, Tryz.ntmps92
    go_wp2_with fail
    go_ret
    exact ⟨ret_int (by rw [HE.out]; rfl), HB.out⟩
end
end Go.Proofs.YtmoglaknmlhpgaaGreat
/- The parser: take, must, end, name. -/
namespace Go.Proofs.YtmoglaknmlhpgaaGreat
set_option linter.unusedVariables false
open Go.RowKit

section
variable {L g : Nat} {w : World} {s : Pz}
theorem takeR_no {ws : List ByteArray} (h : seesR ws s = 0) : takeR ws s = (0, s) := by unfold takeR; rw [if_pos h]
theorem takeR_yes {ws : List ByteArray} (h : seesR ws s ≠ 0) : takeR ws s = (seesR ws s, nextR s) := by unfold takeR; rw [if_neg h]
theorem mustR_no {ws : List ByteArray} (h : seesR ws s = 0) : mustR ws s = (0, wrongR s) := by unfold mustR; rw [if_pos h]
theorem mustR_yes {ws : List ByteArray} (h : seesR ws s ≠ 0) : mustR ws s = (seesR ws s, nextR s) := by unfold mustR; rw [if_neg h]
/-- What a reader is behind 'r.rest = r.rest[1:]'. -/
theorem Rd.goes (h : Rd L w g s) (hk : s.hd.k ≠ 7) : ∃ b o n c, Ob w g 100 #[.slice (some ⟨b, o, none⟩) n c, .int .i64 (s.met : Int), .int .i64 s.err, .int .i64 s.at_] ∧ (2 ≤ n ∧ n ≤ c ∧ c ≤ maxLen) ∧ b < g ∧
    (w.cell? ⟨b, o, none⟩ = some (.int .i64 s.hd.k) ∧ w.cell? ⟨b, o + 1, none⟩ = some (.int .i64 s.hd.p) ∧ w.cell? ⟨b, o + 2, none⟩ = some (.int .i64 s.hd.n) ∧ w.cell? ⟨b, o + 3, none⟩ = some (.string s.hd.s)) ∧
    ∀ w1, Below w.heap.size w w1 → Rd L (w1.setCell ⟨g, 0, none⟩ (.slice (some ⟨b, o + 4, none⟩) (n - 1) (c - 1))) g (nextR s) ∧ Only g w (w1.setCell ⟨g, 0, none⟩ (.slice (some ⟨b, o + 4, none⟩) (n - 1) (c - 1))) := by
  have hm := h.ok.more hk
  have hlt := h.lt
  obtain ⟨b, o, n, c, hob, hok, ⟨hn, h1, h2, h3⟩, hbg, hc, hmk⟩ := h.at_
  refine ⟨b, o, n, c, hob, ⟨by omega, h2, h3⟩, hbg, hc, fun w1 hb => ?_⟩
  have ho : Only g w (w1.setCell ⟨g, 0, none⟩ (.slice (some ⟨b, o + 4, none⟩) (n - 1) (c - 1))) := (Only.of_below hb).at_g 0 _
  refine ⟨hmk 1 (s.met : Int) s.err s.at_ (nextR s) (by omega) rfl rfl rfl rfl (hok.next hk) _ (fun j hj => ho.heap (Nat.lt_trans hj hlt) (by omega)) ?_, ho⟩
  have := (hob.below hb hlt).put 0 (.slice (some ⟨b, o + 4, none⟩) (n - 1) (c - 1))
  simpa using this

set_option maxHeartbeats 1600000 in
theorem ptake_any (h : Rd L w g s) {B n c : Nat} {A : Option Addr} {ws : List ByteArray} (hs : Sl w B A n c (ws.map Value.string)) (hB : B ≤ w.heap.size) :
    Calls Tryz.prog 89 #[.pointer (some ⟨g, 0, none⟩), .slice A n c] w fun x w' => x = .returned (.int .i64 ((takeR ws s).1 : Int)) ∧ Only g w w' ∧ Rd L w' g (takeR ws s).2 := by
  have HC := Lib.hid (psees_any h hs hB)
  have HH := Lib.hid h
  by_cases h0 : seesR ws s = 0
  · rw [takeR_no h0]
    rw [h0] at HC
    clear hs h h0
    go_enter Tryz.func89, Tryz.ntmps89
    go_wp2_with (first
      | (go_at_call 92; refine HC.out.mono ?_; rintro x w1 ⟨rfl, hb⟩; have HB := Lib.hid hb; clear hb))
    go_ret
    exact ⟨rfl, .of_below HB.out, HH.out.then_ HB.out⟩
  · rw [takeR_yes h0]
    obtain ⟨b, o, m, d, hob, ⟨h1, h2, h3⟩, hbg, _, hgo⟩ := h.goes (seesR_more h.ok h0)
    have HOB := Lib.hid hob
    have HGO := Lib.hid hgo
    have h4 : 0 < seesR ws s := by omega
    generalize seesR ws s = i at *
    have h5 : ¬ d = 1 := by omega
    have h6 : (1 : Int) ≤ (m : Int) := by omega
    unfold maxLen at h3
    have h7 : decide (0 < (i : Int)) = true := decide_eq_true (by omega)
    clear hs h h0 hob hgo
    go_enter Tryz.func89, Tryz.ntmps89
    go_wp2_with (first
      | (go_at_call 92; refine HC.out.mono ?_; rintro x w1 ⟨rfl, hb⟩; have HB := Lib.hid hb; have O1 := Lib.hid (HOB.out.below hb HOB.out.lt); have q0 := O1.out.cell 0; have f0 := O1.out.frozen 0; clear hb))
    go_ret
    exact ⟨rfl, (HGO.out _ HB.out).2, (HGO.out _ HB.out).1⟩
set_option maxHeartbeats 1600000 in
theorem pmust_any (h : Rd L w g s) {B n c : Nat} {A : Option Addr} {ws : List ByteArray} (hs : Sl w B A n c (ws.map Value.string)) (hB : B ≤ w.heap.size) :
    Calls Tryz.prog 62 #[.pointer (some ⟨g, 0, none⟩), .slice A n c] w fun x w' => x = .returned (.int .i64 ((mustR ws s).1 : Int)) ∧ Only g w w' ∧ Rd L w' g (mustR ws s).2 := by
  have HC := Lib.hid (ptake_any h hs hB)
  by_cases h0 : seesR ws s = 0
  · rw [mustR_no h0]
    rw [takeR_no h0] at HC
    clear hs h h0
    go_enter Tryz.func62, Tryz.ntmps62
    go_wp2_with (first
      | (go_at_call 89; refine HC.out.mono ?_; rintro x w1 ⟨rfl, ho, hr⟩; have HO := Lib.hid ho; have HR := Lib.hid (pwrong_any hr); clear ho hr)
      | (go_at_call 68; refine HR.out.mono ?_; rintro x w2 ⟨rfl, ho, hr⟩; have HO2 := Lib.hid (HO.out.trans ho); have HR2 := Lib.hid hr; clear ho hr))
    go_ret
    exact ⟨rfl, HO2.out, HR2.out⟩
  · rw [mustR_yes h0]
    rw [takeR_yes h0] at HC
    generalize seesR ws s = i at *
    have h7 : ((i : Int) == 0) = false := by rw [beq_eq_false_iff_ne]; omega
    clear hs h h0
    go_enter Tryz.func62, Tryz.ntmps62
    go_wp2_with (first
      | (go_at_call 89; refine HC.out.mono ?_; rintro x w1 ⟨rfl, ho, hr⟩; have HO := Lib.hid ho; have HR := Lib.hid hr; clear ho hr))
    go_ret
    exact ⟨rfl, HO.out, HR.out⟩
/-- .. of words laid just ahead. -/
theorem ptake_lit (h : Rd L w g s) (ws : List ByteArray) (cs : Array Value) (n : Nat) (hcs : (ws.map Value.string).toArray = cs) (hn : ws.length = n) (h63 : n ≤ 100) {b : Nat} (hb : w.heap.size = b) :
    Calls Tryz.prog 89 #[.pointer (some ⟨g, 0, none⟩), .slice (some ⟨b, 0, none⟩) n n] (w.alloc (.cells cs 9)) fun x w' => x = .returned (.int .i64 ((takeR ws s).1 : Int)) ∧ Only g w w' ∧ Rd L w' g (takeR ws s).2 := by
  subst hcs hb
  have := Sl.lit w 9 (ws.map Value.string) n (by rw [List.length_map]; exact hn) (by unfold maxLen; omega)
  exact (ptake_any (h.alloc _) this (by rw [size_al]; omega)).mono fun x w' ⟨h1, h2, h3⟩ => ⟨h1, (Only.refl.al _).trans h2, h3⟩
theorem pmust_lit (h : Rd L w g s) (ws : List ByteArray) (cs : Array Value) (n : Nat) (hcs : (ws.map Value.string).toArray = cs) (hn : ws.length = n) (h63 : n ≤ 100) {b : Nat} (hb : w.heap.size = b) :
    Calls Tryz.prog 62 #[.pointer (some ⟨g, 0, none⟩), .slice (some ⟨b, 0, none⟩) n n] (w.alloc (.cells cs 9)) fun x w' => x = .returned (.int .i64 ((mustR ws s).1 : Int)) ∧ Only g w w' ∧ Rd L w' g (mustR ws s).2 := by
  subst hcs hb
  have := Sl.lit w 9 (ws.map Value.string) n (by rw [List.length_map]; exact hn) (by unfold maxLen; omega)
  exact (pmust_any (h.alloc _) this (by rw [size_al]; omega)).mono fun x w' ⟨h1, h2, h3⟩ => ⟨h1, (Only.refl.al _).trans h2, h3⟩
theorem psees_lit (h : Rd L w g s) (ws : List ByteArray) (cs : Array Value) (n : Nat) (hcs : (ws.map Value.string).toArray = cs) (hn : ws.length = n) (h63 : n ≤ 100) {b : Nat} (hb : w.heap.size = b) :
    Calls Tryz.prog 92 #[.pointer (some ⟨g, 0, none⟩), .slice (some ⟨b, 0, none⟩) n n] (w.alloc (.cells cs 9)) fun x w' => x = .returned (.int .i64 (seesR ws s : Int)) ∧ Below w.heap.size w w' := by
  subst hcs hb
  have := Sl.lit w 9 (ws.map Value.string) n (by rw [List.length_map]; exact hn) (by unfold maxLen; omega)
  exact (psees_any (h.alloc _) this (by rw [size_al]; omega)).mono fun x w' ⟨h1, h2⟩ => ⟨h1, Below.lit h2⟩
set_option maxHeartbeats 1600000 in
theorem pend_any (h : Rd L w g s) : Calls Tryz.prog 40 #[.pointer (some ⟨g, 0, none⟩)] w fun x w' => x = .returned (.tuple #[]) ∧ Only g w w' ∧ Rd L w' g (endR s) := by
  have HC := Lib.hid (pwrong_any h)
  have HH := Lib.hid h
  obtain ⟨b, o, n, c, hob, hok, ⟨hn, h1, h2, h3⟩, hbg, ⟨c0, c1, c2, c3⟩, _⟩ := h.at_
  have q0 := hob.cell 0
  clear hob hok h
  by_cases h7 : s.hd.k = 7
  · have HE : Hid (endR s = s) := by show _ = _; unfold endR; rw [if_pos h7]
    rw [h7] at c0
    go_enter Tryz.func40, Tryz.ntmps40
    go_wp2_with fail
    go_end0
    exact ⟨rfl, Only.refl, by rw [HE.out]; exact HH.out⟩
  · have HE : Hid (endR s = wrongR s) := by show _ = _; unfold endR; rw [if_neg h7]
    have hk7 : (s.hd.k != 7) = true := by rw [bne_iff_ne]; exact h7
    go_enter Tryz.func40, Tryz.ntmps40
    go_wp2_with (first
      | (go_at_call 68; refine HC.out.mono ?_; rintro x w2 ⟨rfl, ho, hr⟩; have HO2 := Lib.hid ho; have HR2 := Lib.hid hr; clear ho hr))
    go_end0
    exact ⟨rfl, HO2.out, by rw [HE.out]; exact HR2.out⟩
set_option maxHeartbeats 1600000 in
theorem pname_any (h : Rd L w g s) : Calls Tryz.prog 63 #[.pointer (some ⟨g, 0, none⟩)] w fun x w' => x = .returned (.string (nameR s).1) ∧ Only g w w' ∧ Rd L w' g (nameR s).2 := by
  have hbw : Below w.heap.size w (w.alloc (.cells #[.int .i64 s.hd.k, .int .i64 s.hd.p, .int .i64 s.hd.n, .string s.hd.s] 115)) := (Below.refl _ _).alloc (Nat.le_refl _) _
  have HB := Lib.hid hbw
  have HC := Lib.hid (pwrong_any (h.then_ hbw))
  by_cases h1 : s.hd.k = 1
  · have HE : Hid (nameR s = (s.hd.s, nextR s)) := by show _ = _; unfold nameR; rw [if_pos h1]
    obtain ⟨b, o, m, d, hob, ⟨h1', h2, h3⟩, hbg, ⟨c0, c1, c2, c3⟩, hgo⟩ := h.goes (by omega)
    have q0 := hob.cell 0
    have HGO := Lib.hid (hgo _ hbw)
    have ho2 := hob.below hbw hob.lt
    have q0' := ho2.cell 0
    have f0 := ho2.frozen 0
    have xne : w.heap.size ≠ g := by have := hob.lt; omega
    have h5 : ¬ d = 1 := by omega
    have h6 : (1 : Int) ≤ (m : Int) := by omega
    have hx : ((w.alloc (.cells #[.int .i64 s.hd.k, .int .i64 s.hd.p, .int .i64 s.hd.n, .string s.hd.s] 115)).setCell ⟨g, 0, none⟩ (.slice (some ⟨b, o + 4, none⟩) (m - 1) (d - 1))).cell? ⟨w.heap.size, 3, none⟩ = some (.string s.hd.s) :=
      ((Ob.made w 115 #[.int .i64 s.hd.k, .int .i64 s.hd.p, .int .i64 s.hd.n, .string s.hd.s]).keep (Below.heap_setCell _ ⟨g, 0, none⟩ _ _ xne)).cell 3
    rw [HE.out]
    rw [h1] at *
    unfold maxLen at h3
    clear h hob hgo ho2 hbw
    go_enter Tryz.func63, Tryz.ntmps63
    go_wp2_with fail
    go_ret
    exact ⟨rfl, HGO.out.2, HGO.out.1⟩
  · have HE : Hid (nameR s = (⟨#[]⟩, wrongR s)) := by show _ = _; unfold nameR; rw [if_neg h1]
    obtain ⟨b, o, n, c, hob, hok, ⟨hn, h1', h2, h3⟩, hbg, ⟨c0, c1, c2, c3⟩, _⟩ := h.at_
    have q0 := hob.cell 0
    have hk1 : (s.hd.k != 1) = true := by rw [bne_iff_ne]; exact h1
    rw [HE.out]
    unfold maxLen at h3
    clear h hob hok hbw
    go_enter Tryz.func63, Tryz.ntmps63
    go_wp2_with (first
      | (go_at_call 68; refine HC.out.mono ?_; rintro x w2 ⟨rfl, ho, hr⟩; have HO2 := Lib.hid ((Only.refl.then_ HB.out).trans ho); have HR2 := Lib.hid hr; clear ho hr))
    go_ret
    exact ⟨rfl, HO2.out, HR2.out⟩
end
end Go.Proofs.YtmoglaknmlhpgaaGreat
