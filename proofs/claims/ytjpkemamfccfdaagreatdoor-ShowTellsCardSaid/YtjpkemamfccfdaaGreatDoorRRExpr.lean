/- The reference's test of expressions. -/
import Derived.Test.YtjpkemamfccfdaaGreatDoorRRLeaf
import Derived.Test.YtjpkemamfccfdaaGreatDoorRRRow
import Derived.Test.YtjpkemamfccfdaaGreatDoorPolExpr
import Derived.Test.YtjpkemamfccfdaaGreatDoorPolEq
import Derived.Test.YtjpkemamfccfdaaGreatDoorVEq
namespace Go.Proofs.YtjpkemamfccfdaaGreatDoor
set_option linter.unusedVariables false
open Go.RowKit

/-- What it leaves of a stack, the first one first. -/
theorem rev_last {a : Bool} {r : List Bool} : (a :: r).reverse[r.length]? = some a := by
  rw [List.reverse_cons, List.getElem?_append_right (by simp)]
  simp
theorem rev_last2 {a b : Bool} {r : List Bool} : (a :: b :: r).reverse[r.length]? = some b := by
  rw [List.reverse_cons, List.reverse_cons, List.getElem?_append_left (by simp), List.getElem?_append_right (by simp)]
  simp
theorem rev_last1 {a b : Bool} {r : List Bool} : (a :: b :: r).reverse[r.length + 1]? = some a := by
  have := rev_last (a := a) (r := b :: r)
  exact this
theorem pop_1 {op : Int} (h : op = 3 ∨ op = 4) (st : List Bool) : popX op [] = none ∧ popX op (false :: st) = none ∧ popX op (true :: st) = some (false :: st) := by
  rcases h with rfl | rfl <;> exact ⟨rfl, rfl, rfl⟩
theorem pop_11 (st : List Bool) : popX 11 [] = none ∧ popX 11 (true :: st) = none ∧ popX 11 (false :: st) = some (false :: st) := ⟨rfl, rfl, rfl⟩
theorem pop_5 (a : Bool) (st : List Bool) : popX 5 [] = none ∧ popX 5 [a] = none ∧ popX 5 (a :: false :: st) = none ∧ popX 5 (true :: true :: st) = none ∧ popX 5 (false :: true :: st) = some (false :: st) := by
  cases a <;> exact ⟨rfl, rfl, rfl, rfl, rfl⟩
theorem pop_2 {op : Int} (h : op = 6 ∨ op = 7 ∨ op = 8 ∨ op = 9 ∨ op = 10 ∨ op = 12 ∨ op = 13) (a : Bool) (st : List Bool) : popX op [] = none ∧ popX op [a] = none ∧ popX op (a :: true :: st) = none ∧ popX op (true :: false :: st) = none ∧ popX op (false :: false :: st) = some (false :: st) := by
  rcases h with rfl | rfl | rfl | rfl | rfl | rfl | rfl <;> cases a <;> exact ⟨rfl, rfl, rfl, rfl, rfl⟩
theorem ops_ways (op : Int) : op = 1 ∨ op = 2 ∨ ((op == 1) = false ∧ (op == 2) = false ∧ op ≠ 1 ∧ op ≠ 2) := by
  simp only [beq_eq_false_iff_ne]; omega
theorem ops_more {op : Int} (h1 : op ≠ 1) (h2 : op ≠ 2) : (op = 3 ∧ (op == 3) = true) ∨ (op = 4 ∧ (op == 3) = false ∧ (op == 4) = true) ∨ (op = 5 ∧ (op == 3) = false ∧ (op == 4) = false ∧ (op == 5) = true) ∨ (op = 11 ∧ (op == 3) = false ∧ (op == 4) = false ∧ (op == 5) = false ∧ (op == 11) = true) ∨
    ((op = 6 ∨ op = 7 ∨ op = 8 ∨ op = 9 ∨ op = 10 ∨ op = 12 ∨ op = 13) ∧ (op == 3) = false ∧ (op == 4) = false ∧ (op == 5) = false ∧ (op == 11) = false ∧ 6 ≤ op ∧ op ≤ 13) ∨
    ((∀ st, popX op st = none) ∧ (op == 3) = false ∧ (op == 4) = false ∧ (op == 5) = false ∧ (op == 11) = false ∧ (op < 6 ∨ ¬ op < 6 ∧ 13 < op)) := by
  simp only [beq_eq_false_iff_ne, beq_iff_eq]
  rcases ops_cases op with h | h | h | h | h | h | h | h | h | h | h | h | h | h
  · exact absurd h h1
  · exact absurd h h2
  · exact .inl ⟨h, h⟩
  · exact .inr (.inl ⟨h, by omega, h⟩)
  · exact .inr (.inr (.inl ⟨h, by omega, by omega, h⟩))
  · exact .inr (.inr (.inr (.inr (.inl ⟨by omega, by omega, by omega, by omega, by omega, by omega, by omega⟩))))
  · exact .inr (.inr (.inr (.inr (.inl ⟨by omega, by omega, by omega, by omega, by omega, by omega, by omega⟩))))
  · exact .inr (.inr (.inr (.inr (.inl ⟨by omega, by omega, by omega, by omega, by omega, by omega, by omega⟩))))
  · exact .inr (.inr (.inr (.inr (.inl ⟨by omega, by omega, by omega, by omega, by omega, by omega, by omega⟩))))
  · exact .inr (.inr (.inr (.inr (.inl ⟨by omega, by omega, by omega, by omega, by omega, by omega, by omega⟩))))
  · exact .inr (.inr (.inr (.inl ⟨h, by omega, by omega, by omega, h⟩)))
  · exact .inr (.inr (.inr (.inr (.inl ⟨by omega, by omega, by omega, by omega, by omega, by omega, by omega⟩))))
  · exact .inr (.inr (.inr (.inr (.inl ⟨by omega, by omega, by omega, by omega, by omega, by omega, by omega⟩))))
  · obtain ⟨n1, n2, n3, n4, n5, n6, n7, n8, n9, n10, n11, n12, n13⟩ := h
    exact .inr (.inr (.inr (.inr (.inr ⟨fun st => by simp [popX, n1, n2, n3, n4, n5, n6, n7, n8, n9, n10, n11, n12, n13], n3, n4, n5, n11, by omega⟩))))
theorem take_rev2 {a b : Bool} {r : List Bool} : (a :: b :: r).reverse.take r.length = r.reverse := by
  rw [List.reverse_cons, List.reverse_cons, List.append_assoc, List.take_append_of_le_length (by simp), List.take_of_length_le (by simp)]
theorem take_rev1 {a b : Bool} {r : List Bool} : (a :: b :: r).reverse.take (r.length + 1) = (b :: r).reverse := by
  rw [List.reverse_cons, List.take_append_of_le_length (by simp), List.take_of_length_le (by simp)]
theorem set_last {a b : Bool} {r : List Bool} : (a :: r).reverse.set r.length b = (b :: r).reverse := by
  rw [List.reverse_cons, List.reverse_cons, List.set_append_right _ _ (by simp)]
  simp
theorem exprE_none {l : List Nod} {k : Nat} {st : List Bool} {x : Nod} (hl : l.length ≤ 32) (h : RunTo l k st) (hx : l[k]? = some x) (hs : stepX x st = none) : exprE l = 1 := expr_err hl (h.err hx hs)
theorem step_no {x : Nod} (h : holdsB x = false) (st : List Bool) : stepX x st = none := by unfold stepX; rw [if_neg (by rw [h]; simp)]
theorem step_pop {x : Nod} (h : holdsB x = true) (st : List Bool) : stepX x st = popX x.op st := by unfold stepX; rw [if_pos h]
theorem popX_len {op : Int} {st st' : List Bool} (h : popX op st = some st') : st'.length ≤ st.length + 1 := by
  unfold popX at h
  repeat' split at h
  all_goals first
    | (cases h; simp; done)
    | (cases h; simp; omega)
    | cases h
theorem runTo_len {l : List Nod} : ∀ {k : Nat} {st : List Bool}, RunTo l k st → k ≤ l.length → st.length ≤ k
  | 0, st, h, _ => by
    unfold RunTo at h
    simp [runX] at h
    subst h
    exact Nat.zero_le _
  | k + 1, st, h, hk => by
    have hx : l[k]? = some l[k] := List.getElem?_eq_getElem (by omega)
    unfold RunTo at h
    rw [take_next hx, runX_app] at h
    cases hr : runX (l.take k) [] with
    | none => rw [hr] at h; cases h
    | some s1 =>
      rw [hr] at h
      simp only [runX] at h
      cases hs : stepX l[k] s1 with
      | none => rw [hs] at h; cases h
      | some s2 =>
        rw [hs] at h
        injection h with h
        subst h
        have i := runTo_len (k := k) (st := s1) hr (by omega)
        unfold stepX at hs
        split at hs
        · have := popX_len hs; omega
        · cases hs

set_option maxRecDepth 100000 in
set_option maxHeartbeats 25600000 in
theorem rexpr_any {R : Nat → Prop} {A : Option Addr} {n c : Nat} {l : List Nod} (w : World) (h : Nds w R A n c l) :
    Calls Tryz.prog 6 #[.slice A n c] w fun e w' => e = .returned (.int .i64 (exprE l)) ∧ Below w.heap.size w w' := by
  have hle := Rw.le h
  have hcap := Rw.cap h
  have HL := Lib.hid (Rw.len h)
  unfold maxLen at hcap
  have H := Lib.hid h
  clear h
  by_cases h32 : 32 < n
  · have hb : (32 : Int) < (n : Int) := by omega
    have HE : Hid (exprE l = 6) := by
      show exprE l = 6
      unfold exprE
      rw [if_pos (by rw [HL.out]; exact h32)]
    go_enter Tryz.func6, Tryz.ntmps6
    go_wp2_with fail
    go_ret
    exact ⟨ret_int HE.out.symm, Below.refl _ _⟩
  have hb : ¬ (32 : Int) < (n : Int) := by omega
  have HL32 := Lib.hid (show l.length ≤ 32 by rw [HL.out]; omega)
  go_enter Tryz.func6, Tryz.ntmps6
  go_wp2_with fail
  go_loopw [3, 14] (fun s i wr => ∃ (k m : Nat) (B : Option Addr) (d : Nat) (st : List Bool), k ≤ n ∧ s = .slice B m d ∧ i = .int .i64 k ∧ st.length = m ∧ BR wr w.heap.size B m d st.reverse ∧ RunTo l k st ∧ Below w.heap.size w wr) (fun _ i _ => n - (intOf i).toNat)
  case atStart => exact ⟨0, 0, none, 0, [], Nat.zero_le _, rfl, rfl, rfl, BR.nil _ _, RunTo.zero _, Below.refl _ _⟩
  case round =>
    obtain ⟨k, m, B, d, st, hk, rfl, rfl, hm, hr, hst, hbw⟩ := hrel
    have HR := Lib.hid hr
    have HB := Lib.hid hbw
    have HST := Lib.hid hst
    have hm32 : m ≤ 32 := by have := runTo_len hst (by rw [HL.out]; exact hk); omega
    have HM := Lib.hid hm
    clear hr hbw hst
    by_cases hlt : k < n
    · obtain ⟨b, o, x, rfl, hRb, hbl, hx, hok, c0, c1, c2, c3, c4, c5, c6⟩ := (H.out.keep (Kept.all HB.out R) (fun _ h _ => h)).at_ hlt
      have HX := Lib.hid hx
      have HAT := Lib.hid (rattr_any x.a hok.2.2)
      have HV := Lib.hid (refright_any x.v.k x.v.n x.v.s hok.2.1.2.2)
      have hve := fun (W : World) => val_eq x.v.k x.v.n 0 0 x.v.s ⟨#[]⟩ W
      have hae := fun (W : World) => attr_eq x.a.cat 0 x.a.name ⟨#[]⟩ x.a.must false W
      have HH : Hid (holdsB x = if x.op = 1 then decide (RightV x.v.k x.v.n x.v.s.data.toList) && decide ((⟨x.a.cat, x.a.name, x.a.must⟩ : Atr) = ⟨0, ⟨#[]⟩, false⟩) else if x.op = 2 then veq ⟨x.v.k, x.v.n, x.v.s⟩ ⟨0, 0, ⟨#[]⟩⟩ && attrB x.a else veq ⟨x.v.k, x.v.n, x.v.s⟩ ⟨0, 0, ⟨#[]⟩⟩ && decide ((⟨x.a.cat, x.a.name, x.a.must⟩ : Atr) = ⟨0, ⟨#[]⟩, false⟩)) := rfl
      have ERR : Hid (stepX x st = none → exprE l = 1) := fun h => exprE_none HL32.out HST.out HX.out h
      have OKS : Hid (∀ st', stepX x st = some st' → RunTo l (k + 1) st') := fun st' h => HST.out.step HX.out h
      generalize veq ⟨x.v.k, x.v.n, x.v.s⟩ ⟨0, 0, ⟨#[]⟩⟩ = lv at *
      generalize decide ((⟨x.a.cat, x.a.name, x.a.must⟩ : Atr) = ⟨0, ⟨#[]⟩, false⟩) = la at *
      generalize hab : attrB x.a = ab at *
      generalize hrb : decide (RightV x.v.k x.v.n x.v.s.data.toList) = rb at *
      have KB := Lib.hid (show Below wr.heap.size wr (wr.alloc (.cells #[.int .i64 x.op, .int .i64 x.v.k, .int .i64 x.v.n, .string x.v.s, .int .i64 x.a.cat, .string x.a.name, .bool x.a.must] 52)) from (Below.refl _ _).alloc (Nat.le_refl _) _)
      have OB := Lib.hid (Ob.made wr 52 #[.int .i64 x.op, .int .i64 x.v.k, .int .i64 x.v.n, .string x.v.s, .int .i64 x.a.cat, .string x.a.name, .bool x.a.must])
      have HBK := Lib.hid (HB.out.trans (KB.out.mono HB.out.size))
      clear hx hok hab hrb
      rcases ops_ways x.op with h1 | h1 | ⟨z1, z2, n1, n2⟩
      · -- NLit
        obtain ⟨op, vv, aa⟩ := x
        simp only at h1
        subst h1
        simp only [if_true] at *
        cases la
        · have hs := step_no (x := ⟨1, vv, aa⟩) (by rw [HH.out]; simp) st
          have HER := Lib.hid (ERR.out hs)
          clear hs
          go_wp2_with fail
          all_goals
            go_ret
            exact ⟨ret_int HER.out.symm, HBK.out⟩
        · cases rb
          · have hs := step_no (x := ⟨1, vv, aa⟩) (by rw [HH.out]; simp) st
            have HER := Lib.hid (ERR.out hs)
            clear hs
            go_wp2_with (first
              | (go_at_call 8; refine (HAT.out _).mono ?_; rintro e w4 ⟨rfl, hb4⟩; have B4 := Lib.hid (below_step KB.out hb4); clear hb4)
              | (go_at_call 17; refine (HV.out _).mono ?_; rintro e w4 ⟨rfl, hb4⟩; have B4 := Lib.hid (below_step KB.out hb4); clear hb4))
            all_goals
              go_ret
              exact ⟨ret_int HER.out.symm, HB.out.trans (B4.out.mono HB.out.size)⟩
          · have hs := OKS.out (false :: st) (by rw [step_pop (x := ⟨1, vv, aa⟩) (by rw [HH.out]; simp)]; rfl)
            have HS2 := Lib.hid hs
            clear hs
            go_wp2_with (first
              | (go_at_call 17
                 refine (HV.out _).mono ?_
                 rintro e w4 ⟨rfl, hb4⟩
                 have B4 := Lib.hid (below_step KB.out hb4)
                 have HB4 := Lib.hid (HB.out.trans (B4.out.mono HB.out.size))
                 obtain ⟨B', d', w5, hap, hr5, hb5⟩ := (HR.out.below B4.out).push false (by omega) HB4.out.size 57
                 have HAP := Lib.hid hap
                 have HR5 := Lib.hid hr5
                 have HB5 := Lib.hid (HB4.out.trans hb5)
                 clear hap hr5 hb5 hb4)
              | (at_builtin; refine wpList_append_run rfl _ _ _ _ rfl rfl rfl HAP.out ?_))
            all_goals (
              go_roundw
              case rel => exact ⟨k + 1, m + 1, B', d', false :: st, by omega, rfl, by go_num, by rw [List.length_cons, HM.out], by rw [List.reverse_cons]; exact HR5.out, HS2.out, HB5.out⟩
              case measure => simp [intOf]; omega)
      · -- NAttr
        obtain ⟨op, vv, aa⟩ := x
        simp only at h1
        subst h1
        simp only [if_true] at *
        rw [if_neg (by decide)] at HH
        cases lv
        · have hs := step_no (x := ⟨2, vv, aa⟩) (by rw [HH.out]; simp) st
          have HER := Lib.hid (ERR.out hs)
          clear hs
          go_wp2_with fail
          all_goals
            go_ret
            exact ⟨ret_int HER.out.symm, HBK.out⟩
        · cases ab
          · have hs := step_no (x := ⟨2, vv, aa⟩) (by rw [HH.out]; simp) st
            have HER := Lib.hid (ERR.out hs)
            clear hs
            go_wp2_with (first
              | (go_at_call 8; refine (HAT.out _).mono ?_; rintro e w4 ⟨rfl, hb4⟩; have B4 := Lib.hid (below_step KB.out hb4); clear hb4)
              | (go_at_call 17; refine (HV.out _).mono ?_; rintro e w4 ⟨rfl, hb4⟩; have B4 := Lib.hid (below_step KB.out hb4); clear hb4))
            all_goals
              go_ret
              exact ⟨ret_int HER.out.symm, HB.out.trans (B4.out.mono HB.out.size)⟩
          · have hs := OKS.out (true :: st) (by rw [step_pop (x := ⟨2, vv, aa⟩) (by rw [HH.out]; simp)]; rfl)
            have HS2 := Lib.hid hs
            clear hs
            go_wp2_with (first
              | (go_at_call 8
                 refine (HAT.out _).mono ?_
                 rintro e w4 ⟨rfl, hb4⟩
                 have B4 := Lib.hid (below_step KB.out hb4)
                 have HB4 := Lib.hid (HB.out.trans (B4.out.mono HB.out.size))
                 obtain ⟨B', d', w5, hap, hr5, hb5⟩ := (HR.out.below B4.out).push true (by omega) HB4.out.size 57
                 have HAP := Lib.hid hap
                 have HR5 := Lib.hid hr5
                 have HB5 := Lib.hid (HB4.out.trans hb5)
                 clear hap hr5 hb5 hb4)
              | (at_builtin; refine wpList_append_run rfl _ _ _ _ rfl rfl rfl HAP.out ?_))
            all_goals (
              go_roundw
              case rel => exact ⟨k + 1, m + 1, B', d', true :: st, by omega, rfl, by go_num, by rw [List.length_cons, HM.out], by rw [List.reverse_cons]; exact HR5.out, HS2.out, HB5.out⟩
              case measure => simp [intOf]; omega)
      · -- a function
        rw [if_neg n1, if_neg n2] at HH
        cases lv
        · have hs := step_no (x := x) (by rw [HH.out]; simp) st
          have HER := Lib.hid (ERR.out hs)
          clear hs
          go_wp2_with fail
          all_goals
            go_ret
            exact ⟨ret_int HER.out.symm, HBK.out⟩
        cases la
        · have hs := step_no (x := x) (by rw [HH.out]; simp) st
          have HER := Lib.hid (ERR.out hs)
          clear hs
          go_wp2_with fail
          all_goals
            go_ret
            exact ⟨ret_int HER.out.symm, HBK.out⟩
        have hH : holdsB x = true := by rw [HH.out]; rfl
        have SP := Lib.hid (fun st => step_pop hH st)
        rcases ops_more n1 n2 with ⟨h1, z3⟩ | ⟨h1, z3, z4⟩ | ⟨h1, z3, z4, z5⟩ | ⟨h1, z3, z4, z5, z11⟩ | ⟨h1, z3, z4, z5, z11, z6, z13⟩ | ⟨h1, z3, z4, z5, z11, h6⟩
        all_goals clear n1 n2 hH HH
        · have hpop := fun st => (pop_1 (.inl h1) st)
          have HP := Lib.hid hpop
          clear hpop h1
          rcases st with _ | ⟨a, st⟩
          · obtain rfl : m = 0 := HM.out.symm
            have hs : stepX x _ = none := (SP.out _).trans (HP.out []).1
            have HER := Lib.hid (ERR.out hs)
            clear hs
            go_wp2_with fail
            all_goals
              go_ret
              exact ⟨ret_int HER.out.symm, HBK.out⟩
          · obtain ⟨g, rfl, hc, hfz⟩ := HR.out.at_ (rev_last (a := a) (r := st))
            have hml : m = st.length + 1 := by have := HM.out; simp at this; omega
            subst hml
            have ei : ((st.length + 1 : Nat) : Int) - 1 = (st.length : Int) := by omega
            have hcp : st.length + 1 ≤ d ∧ d ≤ maxLen := by obtain ⟨_, _, _, _, _, hs', _⟩ := HR.out.blk (by omega); exact ⟨hs'.1, hs'.2.1⟩
            unfold maxLen at hcp
            have hg := (HR.out.blk (by omega))
            have hcb : ∀ W, Below wr.heap.size wr W → W.cell? ⟨g, st.length, none⟩ = some (.bool a) := fun W hb => (hb.cell (block_lt_of_cell hc)).trans hc
            have hc' := hcb _ KB.out
            clear hg hcb
            cases a
            · have hs : stepX x _ = none := (SP.out _).trans (HP.out st).2.1
              have HER := Lib.hid (ERR.out hs)
              clear hs
              go_wp2_with fail
              all_goals
                go_ret
                exact ⟨ret_int HER.out.symm, HBK.out⟩
            · have HS2 := Lib.hid (OKS.out _ ((SP.out _).trans (HP.out st).2.2))
              have hs3 := ((HR.out.below KB.out).set (k := st.length) (by omega) false rfl)
              have HR5 := Lib.hid hs3.1
              have HG := Lib.hid hs3.2
              have hfz' : (wr.alloc (.cells #[.int .i64 x.op, .int .i64 x.v.k, .int .i64 x.v.n, .string x.v.s, .int .i64 x.a.cat, .string x.a.name, .bool x.a.must] 52)).frozen? ⟨g, st.length, none⟩ = false := by obtain ⟨_, e, _, hf⟩ := (HR.out.below KB.out).at_ (rev_last (a := true) (r := st)); injection e with e; injection e with e; subst e; exact hf
              clear hs3
              go_wp2_with fail
              go_roundw
              case rel => exact ⟨k + 1, st.length + 1, _, d, false :: st, by omega, rfl, by go_num, rfl, by rw [set_last] at HR5; exact HR5.out, HS2.out, HBK.out.setCell (p := ⟨g, st.length, none⟩) HG.out.1 _⟩
              case measure => simp [intOf]; omega
        · have hpop := fun st => (pop_1 (.inr h1) st)
          have HP := Lib.hid hpop
          clear hpop h1
          rcases st with _ | ⟨a, st⟩
          · obtain rfl : m = 0 := HM.out.symm
            have hs : stepX x _ = none := (SP.out _).trans (HP.out []).1
            have HER := Lib.hid (ERR.out hs)
            clear hs
            go_wp2_with fail
            all_goals
              go_ret
              exact ⟨ret_int HER.out.symm, HBK.out⟩
          · obtain ⟨g, rfl, hc, hfz⟩ := HR.out.at_ (rev_last (a := a) (r := st))
            have hml : m = st.length + 1 := by have := HM.out; simp at this; omega
            subst hml
            have ei : ((st.length + 1 : Nat) : Int) - 1 = (st.length : Int) := by omega
            have hcp : st.length + 1 ≤ d ∧ d ≤ maxLen := by obtain ⟨_, _, _, _, _, hs', _⟩ := HR.out.blk (by omega); exact ⟨hs'.1, hs'.2.1⟩
            unfold maxLen at hcp
            have hg := (HR.out.blk (by omega))
            have hcb : ∀ W, Below wr.heap.size wr W → W.cell? ⟨g, st.length, none⟩ = some (.bool a) := fun W hb => (hb.cell (block_lt_of_cell hc)).trans hc
            have hc' := hcb _ KB.out
            clear hg hcb
            cases a
            · have hs : stepX x _ = none := (SP.out _).trans (HP.out st).2.1
              have HER := Lib.hid (ERR.out hs)
              clear hs
              go_wp2_with fail
              all_goals
                go_ret
                exact ⟨ret_int HER.out.symm, HBK.out⟩
            · have HS2 := Lib.hid (OKS.out _ ((SP.out _).trans (HP.out st).2.2))
              have hs3 := ((HR.out.below KB.out).set (k := st.length) (by omega) false rfl)
              have HR5 := Lib.hid hs3.1
              have HG := Lib.hid hs3.2
              have hfz' : (wr.alloc (.cells #[.int .i64 x.op, .int .i64 x.v.k, .int .i64 x.v.n, .string x.v.s, .int .i64 x.a.cat, .string x.a.name, .bool x.a.must] 52)).frozen? ⟨g, st.length, none⟩ = false := by obtain ⟨_, e, _, hf⟩ := (HR.out.below KB.out).at_ (rev_last (a := true) (r := st)); injection e with e; injection e with e; subst e; exact hf
              clear hs3
              go_wp2_with fail
              go_roundw
              case rel => exact ⟨k + 1, st.length + 1, _, d, false :: st, by omega, rfl, by go_num, rfl, by rw [set_last] at HR5; exact HR5.out, HS2.out, HBK.out.setCell (p := ⟨g, st.length, none⟩) HG.out.1 _⟩
              case measure => simp [intOf]; omega
        · have hpop := fun a st => (by rw [h1]; exact pop_5 a st : popX x.op [] = none ∧ popX x.op [a] = none ∧ popX x.op (a :: false :: st) = none ∧ popX x.op (true :: true :: st) = none ∧ popX x.op (false :: true :: st) = some (false :: st))
          have HP := Lib.hid hpop
          clear hpop h1
          rcases st with _ | ⟨a, _ | ⟨a2, st⟩⟩
          · obtain rfl : m = 0 := HM.out.symm
            have hs : stepX x _ = none := (SP.out _).trans (HP.out false []).1
            have HER := Lib.hid (ERR.out hs)
            clear hs
            go_wp2_with fail
            all_goals
              go_ret
              exact ⟨ret_int HER.out.symm, HBK.out⟩
          · obtain rfl : m = 1 := HM.out.symm
            have hs : stepX x _ = none := (SP.out _).trans (HP.out a []).2.1
            have HER := Lib.hid (ERR.out hs)
            clear hs
            go_wp2_with fail
            all_goals
              go_ret
              exact ⟨ret_int HER.out.symm, HBK.out⟩
          · obtain ⟨g, rfl, hc, _⟩ := HR.out.at_ (rev_last1 (a := a) (b := a2) (r := st))
            obtain ⟨g2, hg2, hc2, _⟩ := HR.out.at_ (rev_last2 (a := a) (b := a2) (r := st))
            injection hg2 with hg2
            injection hg2 with hg2
            subst hg2
            have hml : m = st.length + 2 := by have := HM.out; simp at this; omega
            subst hml
            have ei : ((st.length + 2 : Nat) : Int) - 1 = ((st.length + 1 : Nat) : Int) := by omega
            have ei2 : ((st.length + 2 : Nat) : Int) - 2 = (st.length : Int) := by omega
            have hcp : st.length + 2 ≤ d ∧ d ≤ maxLen := by obtain ⟨_, _, _, _, _, hs', _⟩ := HR.out.blk (by omega); exact ⟨hs'.1, hs'.2.1⟩
            unfold maxLen at hcp
            have hc' := (KB.out.cell (block_lt_of_cell hc)).trans hc
            have hc2' := (KB.out.cell (block_lt_of_cell hc2)).trans hc2
            cases a2
            · have hs : stepX x _ = none := (SP.out _).trans (HP.out a st).2.2.1
              have HER := Lib.hid (ERR.out hs)
              clear hs
              go_wp2_with fail
              all_goals
                go_ret
                exact ⟨ret_int HER.out.symm, HBK.out⟩
            · cases a
              · have HS2 := Lib.hid (OKS.out _ ((SP.out _).trans (HP.out false st).2.2.2.2))
                obtain ⟨B', d', w5, hap, hr5, hb5⟩ := ((HR.out.take (m := st.length) (by omega)).below KB.out).push false (by omega) HBK.out.size 57
                rw [size_al] at hap
                have HAP := Lib.hid hap
                have HR5 := Lib.hid hr5
                have HB5 := Lib.hid (HBK.out.trans hb5)
                clear hap hr5 hb5
                go_wp2_with (at_builtin; refine wpList_append_run rfl _ _ _ _ rfl rfl rfl HAP.out ?_)
                go_roundw
                case rel => exact ⟨k + 1, st.length + 1, B', d', false :: st, by omega, rfl, by go_num, rfl, by rw [take_rev2] at HR5; rw [List.reverse_cons]; exact HR5.out, HS2.out, HB5.out⟩
                case measure => simp [intOf]; omega
              · have hs : stepX x _ = none := (SP.out _).trans (HP.out true st).2.2.2.1
                have HER := Lib.hid (ERR.out hs)
                clear hs
                go_wp2_with fail
                all_goals
                  go_ret
                  exact ⟨ret_int HER.out.symm, HBK.out⟩
        · have hpop := fun st => (by rw [h1]; exact pop_11 st : popX x.op [] = none ∧ popX x.op (true :: st) = none ∧ popX x.op (false :: st) = some (false :: st))
          have HP := Lib.hid hpop
          clear hpop h1
          rcases st with _ | ⟨a, st⟩
          · obtain rfl : m = 0 := HM.out.symm
            have hs : stepX x _ = none := (SP.out _).trans (HP.out []).1
            have HER := Lib.hid (ERR.out hs)
            clear hs
            go_wp2_with fail
            all_goals
              go_ret
              exact ⟨ret_int HER.out.symm, HBK.out⟩
          · obtain ⟨g, rfl, hc, hfz⟩ := HR.out.at_ (rev_last (a := a) (r := st))
            have hml : m = st.length + 1 := by have := HM.out; simp at this; omega
            subst hml
            have ei : ((st.length + 1 : Nat) : Int) - 1 = (st.length : Int) := by omega
            have hcp : st.length + 1 ≤ d ∧ d ≤ maxLen := by obtain ⟨_, _, _, _, _, hs', _⟩ := HR.out.blk (by omega); exact ⟨hs'.1, hs'.2.1⟩
            unfold maxLen at hcp
            have hg := (HR.out.blk (by omega))
            have hcb : ∀ W, Below wr.heap.size wr W → W.cell? ⟨g, st.length, none⟩ = some (.bool a) := fun W hb => (hb.cell (block_lt_of_cell hc)).trans hc
            have hc' := hcb _ KB.out
            clear hg hcb
            cases a
            · have HS2 := Lib.hid (OKS.out _ ((SP.out _).trans (HP.out st).2.2))
              go_wp2_with fail
              go_roundw
              case rel => exact ⟨k + 1, st.length + 1, _, d, false :: st, by omega, rfl, by go_num, rfl, HR.out.below KB.out, HS2.out, HBK.out⟩
              case measure => simp [intOf]; omega
            · have hs : stepX x _ = none := (SP.out _).trans (HP.out st).2.1
              have HER := Lib.hid (ERR.out hs)
              clear hs
              go_wp2_with fail
              all_goals
                go_ret
                exact ⟨ret_int HER.out.symm, HBK.out⟩
        · have hpop := fun a st => (pop_2 h1 a st)
          have HP := Lib.hid hpop
          clear hpop h1
          rcases st with _ | ⟨a, _ | ⟨a2, st⟩⟩
          · obtain rfl : m = 0 := HM.out.symm
            have hs : stepX x _ = none := (SP.out _).trans (HP.out false []).1
            have HER := Lib.hid (ERR.out hs)
            clear hs
            go_wp2_with fail
            all_goals
              go_ret
              exact ⟨ret_int HER.out.symm, HBK.out⟩
          · obtain rfl : m = 1 := HM.out.symm
            have hs : stepX x _ = none := (SP.out _).trans (HP.out a []).2.1
            have HER := Lib.hid (ERR.out hs)
            clear hs
            go_wp2_with fail
            all_goals
              go_ret
              exact ⟨ret_int HER.out.symm, HBK.out⟩
          · obtain ⟨g, rfl, hc, _⟩ := HR.out.at_ (rev_last1 (a := a) (b := a2) (r := st))
            obtain ⟨g2, hg2, hc2, _⟩ := HR.out.at_ (rev_last2 (a := a) (b := a2) (r := st))
            injection hg2 with hg2
            injection hg2 with hg2
            subst hg2
            have hml : m = st.length + 2 := by have := HM.out; simp at this; omega
            subst hml
            have ei : ((st.length + 2 : Nat) : Int) - 1 = ((st.length + 1 : Nat) : Int) := by omega
            have ei2 : ((st.length + 2 : Nat) : Int) - 2 = (st.length : Int) := by omega
            have hcp : st.length + 2 ≤ d ∧ d ≤ maxLen := by obtain ⟨_, _, _, _, _, hs', _⟩ := HR.out.blk (by omega); exact ⟨hs'.1, hs'.2.1⟩
            unfold maxLen at hcp
            have hc' := (KB.out.cell (block_lt_of_cell hc)).trans hc
            have hc2' := (KB.out.cell (block_lt_of_cell hc2)).trans hc2
            cases a2
            · cases a
              · have HS2 := Lib.hid (OKS.out _ ((SP.out _).trans (HP.out false st).2.2.2.2))
                have HR5 := Lib.hid ((HR.out.take (m := st.length + 1) (by omega)).below KB.out)
                go_wp2_with fail
                go_roundw
                case rel => exact ⟨k + 1, st.length + 1, _, d, false :: st, by omega, rfl, by go_num, rfl, by rw [take_rev1] at HR5; exact HR5.out, HS2.out, HBK.out⟩
                case measure => simp [intOf]; omega
              · have hs : stepX x _ = none := (SP.out _).trans (HP.out true st).2.2.2.1
                have HER := Lib.hid (ERR.out hs)
                clear hs
                go_wp2_with fail
                all_goals
                  go_ret
                  exact ⟨ret_int HER.out.symm, HBK.out⟩
            · have hs : stepX x _ = none := (SP.out _).trans (HP.out a st).2.2.1
              have HER := Lib.hid (ERR.out hs)
              clear hs
              go_wp2_with fail
              all_goals
                go_ret
                exact ⟨ret_int HER.out.symm, HBK.out⟩
        · have hs : stepX x st = none := (SP.out st).trans (h1 st)
          have HER := Lib.hid (ERR.out hs)
          clear hs h1
          rcases h6 with h6 | ⟨h6, h66⟩
          all_goals
            go_wp2_with fail
            go_ret
            exact ⟨ret_int HER.out.symm, HBK.out⟩
    · obtain rfl : k = n := by omega
      by_cases h0 : k = 0
      · subst h0
        have hE : exprE l = 0 := by
          have : l = [] := List.eq_nil_of_length_eq_zero HL.out
          rw [this]; rfl
        have HE := Lib.hid hE
        clear hE
        go_wp2_with fail
        go_ret
        exact ⟨ret_int HE.out.symm, HB.out⟩
      have hpos : (0 : Int) < (k : Int) := by omega
      have hE := expr_end HL32.out (HST.out.all HL.out)
      have hne : l ≠ [] := by rintro rfl; exact h0 HL.out.symm
      rcases st with _ | ⟨a, _ | ⟨a2, st⟩⟩
      · obtain rfl : m = 0 := by simpa using HM.out.symm
        have HE := Lib.hid (show exprE l = 1 by rw [hE]; simp [hne])
        clear hE hne
        go_wp2_with fail
        go_ret
        exact ⟨ret_int HE.out.symm, HB.out⟩
      · obtain rfl : m = 1 := by simpa using HM.out.symm
        obtain ⟨g, rfl, hc, _⟩ := HR.out.at_ (k := 0) (x := a) rfl
        have hcp : 1 ≤ d := by obtain ⟨_, _, _, _, _, hs, _⟩ := HR.out.blk (by omega); exact hs.1
        cases a
        · have HE := Lib.hid (show exprE l = 0 by rw [hE]; simp)
          clear hE hne
          go_wp2_with fail
          go_ret
          exact ⟨ret_int HE.out.symm, HB.out⟩
        · have HE := Lib.hid (show exprE l = 1 by rw [hE]; simp [hne])
          clear hE hne
          go_wp2_with fail
          go_ret
          exact ⟨ret_int HE.out.symm, HB.out⟩
      · have hm2 : (m : Int) ≠ 1 := by have := HM.out; simp at this; omega
        have hm3 : ((m : Int) == 1) = false := by rw [beq_eq_false_iff_ne]; exact hm2
        have HE := Lib.hid (show exprE l = 1 by rw [hE]; simp [hne])
        clear hE hne
        go_wp2_with fail
        go_ret
        exact ⟨ret_int HE.out.symm, HB.out⟩
end Go.Proofs.YtjpkemamfccfdaaGreatDoor
