/- ExprPairs: the walk. -/
import Derived.Test.YtmpldpfgnakbkaaExprBags
namespace Go.Proofs.Ytmpldpfgnakbkaa
set_option linter.unusedVariables false
open Go.RowKit Go.Sort

def pairG (L0 L1 : List Vl) : List Giv := [⟨3, ⟨#[97]⟩, L0⟩, ⟨4, ⟨#[98]⟩, L1⟩]
def attrA3 : Nod := ⟨2, ⟨0, 0, ⟨#[]⟩⟩, ⟨3, ⟨#[97]⟩, false⟩⟩
def pairL : List Nod := [attrA3, opB 3, attrB4, opB 3]
theorem pair_get (L0 L1 : List Vl) : bagA (pairG L0 L1) 3 ⟨#[97]⟩ = L0 ∧ bagA (pairG L0 L1) 4 ⟨#[98]⟩ = L1 := by
  have h0 : idxA (pairG L0 L1) 3 ⟨#[97]⟩ = 0 := idx_at (g := ⟨3, ⟨#[97]⟩, L0⟩) rfl (isG_self (⟨3, ⟨#[97]⟩, L0⟩ : Giv)) (fun j x _ hj => by omega)
  have h1 : idxA (pairG L0 L1) 4 ⟨#[98]⟩ = 1 := idx_at (g := ⟨4, ⟨#[98]⟩, L1⟩) rfl (isG_self (⟨4, ⟨#[98]⟩, L1⟩ : Giv)) (fun j x hx hj => by
    obtain rfl : j = 0 := by omega
    have : x = ⟨3, ⟨#[97]⟩, L0⟩ := by simpa [pairG] using hx.symm
    subst this
    simp [isG])
  constructor
  · unfold bagA; rw [h0]; rfl
  · unfold bagA; rw [h1]; rfl
theorem get_plain {ask : List Giv} {c : Int} {s : ByteArray} {L : List Vl} (h : bagA ask c s = L) : getR ask ⟨c, s, false⟩ = L ∧ getE ask ⟨c, s, false⟩ = 0 := by
  have he : getE ask ⟨c, s, false⟩ = 0 := by unfold getE; simp
  refine ⟨?_, he⟩
  unfold getR
  rw [if_pos he]
  exact h
theorem attr_step {ask : List Giv} {c : Int} {s : ByteArray} {L : List Vl} (h : bagA ask c s = L) (st : List Prt) : stepP ask st ⟨2, ⟨0, 0, ⟨#[]⟩⟩, ⟨c, s, false⟩⟩ = st ++ [⟨L, noneV, 0⟩] := by
  unfold stepP
  rw [show takesN (⟨2, ⟨0, 0, ⟨#[]⟩⟩, ⟨c, s, false⟩⟩ : Nod).op = 0 from rfl, Nat.sub_zero, List.take_length]
  have : madeP ask ⟨2, ⟨0, 0, ⟨#[]⟩⟩, ⟨c, s, false⟩⟩ (st.drop st.length) = ⟨getR ask ⟨c, s, false⟩, noneV, getE ask ⟨c, s, false⟩⟩ := rfl
  rw [this, (get_plain h).1, (get_plain h).2]
theorem one_step (ask : List Giv) (st : List Prt) (L : List Vl) : stepP ask (st ++ [⟨L, noneV, 0⟩]) (opB 3) = st ++ [⟨[], (singleV L).1, (singleV L).2⟩] := by
  unfold stepP
  have e : (st ++ [(⟨L, noneV, 0⟩ : Prt)]).length - takesN (opB 3).op = st.length := by rw [List.length_append]; show st.length + 1 - 1 = _; omega
  rw [e, List.take_left, List.drop_left]
  rfl
theorem pair_run (L0 L1 : List Vl) (f : Int) (hf : takesN f = 2) : runP (pairG L0 L1) (pairL ++ [opB f]) [] = [madeP (pairG L0 L1) (opB f) [⟨[], (singleV L0).1, (singleV L0).2⟩, ⟨[], (singleV L1).1, (singleV L1).2⟩]] := by
  have a1 := attr_step (pair_get L0 L1).1 []
  have a2 := attr_step (pair_get L0 L1).2 [⟨[], (singleV L0).1, (singleV L0).2⟩]
  have o1 := one_step (pairG L0 L1) [] L0
  have o2 := one_step (pairG L0 L1) [⟨[], (singleV L0).1, (singleV L0).2⟩] L1
  rw [runP_app]
  show runP _ [opB f] (runP _ [attrA3, opB 3, attrB4, opB 3] []) = _
  rw [runP_cons, runP_cons, runP_cons, runP_cons, runP_nil]
  show runP _ [opB f] (stepP _ (stepP _ (stepP _ (stepP _ [] ⟨2, ⟨0, 0, ⟨#[]⟩⟩, ⟨3, ⟨#[97]⟩, false⟩⟩) (opB 3)) ⟨2, ⟨0, 0, ⟨#[]⟩⟩, ⟨4, ⟨#[98]⟩, false⟩⟩) (opB 3)) = _
  rw [a1, o1, List.nil_append, a2, o2]
  rw [runP_cons, runP_nil]
  unfold stepP
  rw [show (opB f).op = f from rfl, hf]
  rfl
theorem pair_val {L0 L1 : List Vl} {f : Int} {p : Prt} (hf : takesN f = 2) (he : exprE (pairL ++ [opB f]) = 0) (hp : madeP (pairG L0 L1) (opB f) [⟨[], (singleV L0).1, (singleV L0).2⟩, ⟨[], (singleV L1).1, (singleV L1).2⟩] = p) : valP (pairG L0 L1) (pairL ++ [opB f]) = (p.v, p.e) :=
  val_of he (by simp [pairL]) (by rw [pair_run L0 L1 f hf, hp])
theorem pair_miss {L0 L1 : List Vl} (h : L0.length ≠ 1 ∨ L1.length ≠ 1) {f : Int} (hf : f = 6 ∨ f = 7) : valP (pairG L0 L1) (pairL ++ [opB f]) = (⟨0, 0, ⟨#[]⟩⟩, 4) := by
  have he : errL [⟨[], (singleV L0).1, (singleV L0).2⟩, ⟨[], (singleV L1).1, (singleV L1).2⟩] = 4 := by
    by_cases h0 : L0.length = 1
    · have h1 : L1.length ≠ 1 := h.elim (fun e => absurd h0 e) id
      obtain ⟨x, rfl⟩ := List.length_eq_one_iff.1 h0
      rw [single_not h1]
      rfl
    · rw [single_not h0]
      rfl
  have hm : madeP (pairG L0 L1) (opB f) [⟨[], (singleV L0).1, (singleV L0).2⟩, ⟨[], (singleV L1).1, (singleV L1).2⟩] = ⟨[], noneV, 4⟩ := by
    rw [made_err (ask := pairG L0 L1) (n := opB f) (by rcases hf with rfl | rfl <;> decide) (by rcases hf with rfl | rfl <;> decide) (decB_no (by rcases hf with rfl | rfl <;> decide) (by rcases hf with rfl | rfl <;> decide)) (by rw [he]; decide), he]
  rcases hf with rfl | rfl
  · exact pair_val rfl (by decide +kernel) hm
  · exact pair_val rfl (by decide +kernel) hm
theorem pair_two {x y : Vl} (hx : x.right) (hy : y.right) {f : Int} (hf : f = 6 ∨ f = 7) : valP (pairG [x] [y]) (pairL ++ [opB f]) = callTwo f x y := by
  have hall : allR [x, y] = true := allR_iff.2 fun v hv => by
    simp at hv
    rcases hv with rfl | rfl <;> assumption
  have hc : callV f [x, y] = callTwo f x y := call_ok hall (by omega) (by unfold needs; rw [if_neg (by omega)]; rfl)
  have hm : madeP (pairG [x] [y]) (opB f) [⟨[], (singleV [x]).1, (singleV [x]).2⟩, ⟨[], (singleV [y]).1, (singleV [y]).2⟩] = ⟨[], (callTwo f x y).1, (callTwo f x y).2⟩ := by
    rw [← hc]
    rcases hf with rfl | rfl <;> rfl
  rcases hf with rfl | rfl
  · exact pair_val rfl (by decide +kernel) hm
  · exact pair_val rfl (by decide +kernel) hm
theorem pairL_ok : ∀ x ∈ pairL, x.ok := by decide
theorem bag_right {L : List Vl} (h : bagB L = true) : ∀ v ∈ L, v.right := fun v hv => by
  unfold bagB at h
  rw [Bool.and_eq_true, List.all_eq_true] at h
  have := h.2 v hv
  simp at this
  exact this.1
theorem pair_short {L0 L1 : List Vl} (h0 : ∀ v ∈ L0 ++ L1, v.s.size ≤ 70) (n0 : L0.length ≤ 3) (n1 : L1.length ≤ 3) : ShortG (pairG L0 L1) := fun g hg => by
  simp [pairG] at hg
  rcases hg with rfl | rfl
  · exact ⟨fun v hv => by have := h0 v (by simp; exact .inl hv); omega, by show L0.length ≤ 100000; omega⟩
  · exact ⟨fun v hv => by have := h0 v (by simp; exact .inr hv); omega, by show L1.length ≤ 100000; omega⟩
/-- append(append([]Value{}, a...), b...). -/
theorem both_vals {w : World} {R : Nat → Prop} {A0 A1 : Option Addr} {p0 c0 p1 c1 : Nat} {L0 L1 : List Vl} (h0 : Vls w R A0 p0 c0 L0) (h1 : Vls w R A1 p1 c1 L1) (h : p0 + p1 ≤ 1000) :
    ∃ A5 c5 w5 A6 c6 w6, (Builtin.append_ #[25, 25] 25 #[.slice (some ⟨w.heap.size, 0, none⟩) 0 0, .slice A0 p0 c0]).run Try.prog (w.alloc (.cells #[] 42)) = .ok (.slice A5 p0 c5) w5 ∧
      (Builtin.append_ #[25, 25] 25 #[.slice A5 p0 c5, .slice A1 p1 c1]).run Try.prog w5 = .ok (.slice A6 (p0 + p1) c6) w6 ∧ Below w.heap.size w w6 ∧ Vls w6 (fun b => w.heap.size ≤ b) A6 (p0 + p1) c6 (L0 ++ L1) := by
  have e1 : Below w.heap.size w (w.alloc (.cells #[] 42)) := (Below.refl _ _).alloc (Nat.le_refl _) _
  obtain ⟨i, hi, hz, hs, hb⟩ := val_parts
  obtain ⟨A5, c5, w5, r5, o5, b5, _, _⟩ := append_rows (ty := 25) (c2 := c0) (m := p0) Try.underlying25 hi hz hs hb rfl (by omega) (by omega) (own_none w 42 3) (Rw.flat_fl (h0.keep (Kept.all e1 R) (fun _ h _ => h)) (by omega) Vl.one) (by omega) e1.size
  rw [Nat.zero_add] at r5 o5
  have e5 := e1.trans b5
  obtain ⟨A6, c6, w6, r6, o6, b6, _, _⟩ := append_rows (ty := 25) (c2 := c1) (m := p1) Try.underlying25 hi hz hs hb rfl (by omega) (by omega) o5 (Rw.flat_fl (h1.keep (Kept.all e5 R) (fun _ h _ => h)) (by omega) Vl.one) (by omega) e5.size
  refine ⟨A5, c5, w5, A6, c6, w6, r5, r6, e5.trans b6, ?_⟩
  have o6' : w6.ownsRow w.heap.size 42 3 (.slice A6 (p0 + p1) c6) (p0 + p1) ((L0 ++ L1).flatMap Vl.cells) := by
    rw [flatMap_app]
    simpa using o6
  exact Rw.flat_own o6' (by omega) (by rw [List.length_append, Rw.len h0, Rw.len h1]) (fun _ => rfl) (fun x hx => (List.mem_append.1 hx).elim (h0.oks x) (h1.oks x)) (fun _ _ h => h)
/-- The request of both, laid as a literal. -/
theorem pair_gvs {w : World} {R : Nat → Prop} {A0 A1 : Option Addr} {p0 c0 p1 c1 : Nat} {L0 L1 : List Vl} (h0 : Vls w R A0 p0 c0 L0) (h1 : Vls w R A1 p1 c1 L1) :
    Gvs (w.alloc (.cells #[.int .i64 3, .string ⟨#[97]⟩, .slice A0 p0 c0, .int .i64 4, .string ⟨#[98]⟩, .slice A1 p1 c1] 27)) (fun _ => True) (some ⟨w.heap.size, 0, none⟩) 2 2 (pairG L0 L1) := by
  have a1 : Below w.heap.size w (w.alloc (.cells #[.int .i64 3, .string ⟨#[97]⟩, .slice A0 p0 c0, .int .i64 4, .string ⟨#[98]⟩, .slice A1 p1 c1] 27)) := below1 _ _
  have := Rw.lit (k := 3) (P := GivAt (w.alloc (.cells #[.int .i64 3, .string ⟨#[97]⟩, .slice A0 p0 c0, .int .i64 4, .string ⟨#[98]⟩, .slice A1 p1 c1] 27)) (fun _ => True)) (R := fun _ => True) w 27 (fun g => [.int .i64 g.cat, .string g.name, if g.cat = 3 then .slice A0 p0 c0 else .slice A1 p1 c1]) (pairG L0 L1) (n := 2) rfl (by omega) trivial (fun _ _ => rfl) (fun y hy => by
    simp [pairG] at hy
    rcases hy with rfl | rfl
    · exact ⟨A0, p0, c0, rfl, ⟨(by decide : InI 3), (by decide : (⟨#[97]⟩ : ByteArray).size ≤ maxLen)⟩, h0.keep (Kept.all a1 R) (fun _ _ _ => trivial)⟩
    · exact ⟨A1, p1, c1, rfl, ⟨(by decide : InI 4), (by decide : (⟨#[98]⟩ : ByteArray).size ≤ maxLen)⟩, h1.keep (Kept.all a1 R) (fun _ _ _ => trivial)⟩)
  exact this
def ShortTo7 (l : List Vl) (k : Nat) : Prop := ∀ j x, l[j]? = some x → j < k → x.s.size ≤ 70
theorem ShortTo7.step {l : List Vl} {k : Nat} {x : Vl} (h : ShortTo7 l k) (hx : l[k]? = some x) (h2 : x.s.size ≤ 70) : ShortTo7 l (k + 1) := fun j y hy hj => by
  by_cases e : j = k
  · subst e
    obtain rfl := Option.some.inj (hx.symm.trans hy)
    exact h2
  · exact h j y hy (by omega)
theorem ShortTo7.all {l : List Vl} {n : Nat} (h : ShortTo7 l n) (hn : l.length = n) : ∀ v ∈ l, v.s.size ≤ 70 := fun v hv => by
  obtain ⟨j, hj, rfl⟩ := List.getElem_of_mem hv
  exact h j _ (List.getElem?_eq_getElem hj) (by omega)
theorem less_is {a b : Vl} {x : Bool} {e : Int} (h : lessOf a b = (x, e)) (ha : a.s.size ≤ maxLen) (hb : b.s.size ≤ maxLen) (w : World) :
    Calls Try.prog 38 #[.agg #[.int .i64 a.k, .int .i64 a.n, .string a.s], .agg #[.int .i64 b.k, .int .i64 b.n, .string b.s]] w fun z w' => z = .returned (.tuple #[.bool x, .int .i64 e]) ∧ Below w.heap.size w w' := by
  have := less_any a b ha hb w
  rwa [h] at this

set_option maxRecDepth 100000 in
set_option maxHeartbeats 24000000 in
theorem exprPairs_walk (W : World) (A0 : Option Addr) (n0 c0 : Nat) (h0 : ∃ l, Vls W (fun _ => True) A0 n0 c0 l) (A1 : Option Addr) (n1 c1 : Nat) (h1 : ∃ l, Vls W (fun _ => True) A1 n1 c1 l) :
    Calls Try.prog 11 #[.slice A0 n0 c0, .slice A1 n1 c1] W fun e w' => e = .returned (.bool true) ∧ Below W.heap.size W w' := by
  obtain ⟨l0, h0⟩ := h0
  obtain ⟨l1, h1⟩ := h1
  have b0 := Rw.le h0
  have b1 := Rw.le h1
  have m0 := Rw.cap h0
  have m1 := Rw.cap h1
  unfold maxLen at m0 m1
  obtain ⟨p0, hp0⟩ : ∃ p : Nat, min (n0 : Int) 3 = (p : Int) := ⟨(min (n0 : Int) 3).toNat, by omega⟩
  obtain ⟨p1, hp1⟩ : ∃ p : Nat, min (n1 : Int) 3 = (p : Int) := ⟨(min (n1 : Int) 3).toNat, by omega⟩
  have y0 : (p0 : Int) ≤ (c0 : Int) := by omega
  have y1 : (p1 : Int) ≤ (c1 : Int) := by omega
  have z0 : (0 : Int) ≤ (p0 : Int) := by omega
  have z1 : (0 : Int) ≤ (p1 : Int) := by omega
  have U0 : Hid (Vls W (fun _ => True) A0 p0 c0 (l0.take p0)) := Rw.take h0 (show p0 ≤ n0 by omega)
  have U1 : Hid (Vls W (fun _ => True) A1 p1 c1 (l1.take p1)) := Rw.take h1 (show p1 ≤ n1 by omega)
  have S0 : Hid (p0 ≤ 3 ∧ p1 ≤ 3) := ⟨by omega, by omega⟩
  clear h0 h1
  go_enter Try.func11, Try.ntmps11
  go_wp2_with fail
  go_quiet (fail)
  have T0 : Hid (Vls (W.drewN nq) (fun _ => True) A0 p0 c0 (l0.take p0)) := U0.out.keep ⟨Nat.le_refl _, fun _ _ _ => rfl⟩ (fun _ h _ => h)
  have T1 : Hid (Vls (W.drewN nq) (fun _ => True) A1 p1 c1 (l1.take p1)) := U1.out.keep ⟨Nat.le_refl _, fun _ _ _ => rfl⟩ (fun _ h _ => h)
  have BW : Hid (Below W.heap.size W (W.drewN nq)) := below_drewN (Below.refl _ _) nq
  clear U0 U1 b0 b1 hp0 hp1 y0 y1 z0 z1
  generalize l0.take p0 = L0 at *
  generalize l1.take p1 = L1 at *
  generalize W.drewN nq = w at *
  have LL : Hid (L0.length = p0 ∧ L1.length = p1) := ⟨Rw.len T0.out, Rw.len T1.out⟩
  obtain ⟨A5, c5, wa, A6, c6, wb, ra, rb, hb, hv6⟩ := both_vals T0.out T1.out (by have := S0.out; omega)
  have RA := Lib.hid ra
  have RB := Lib.hid rb
  have V6 := Lib.hid hv6
  have K := Lib.hid hb
  have hcap6 := Rw.cap hv6
  have hle6 := Rw.le hv6
  unfold maxLen at hcap6
  have hs0 := S0.out
  have hcast : ((p0 + p1 : Nat) : Int) = (p0 : Int) + (p1 : Int) := by omega
  obtain ⟨pq, hpq⟩ : ∃ pq, pq = p0 + p1 := ⟨_, rfl⟩
  rw [← hpq] at RB V6 hle6 hcast
  have HPQ : Hid (pq ≤ 6) := by show _ ≤ _; omega
  clear ra rb hv6 hb hcast hpq
  go_wp2_with (first | (at_builtin; refine wpList_append_run (o := ⟨some 27, _, _, _, _, _⟩) rfl _ _ _ _ rfl rfl rfl RA.out ?_) | (at_builtin; refine wpList_append_run (o := ⟨some 29, _, _, _, _, _⟩) rfl _ _ _ _ rfl rfl rfl RB.out ?_))
  have LV : Hid ((L0 ++ L1).length = pq) := Rw.len V6.out
  go_loopw [31] (fun i wr => ∃ k : Nat, k ≤ pq ∧ i = .int .i64 k ∧ ShortTo7 (L0 ++ L1) k ∧ Below wb.heap.size wb wr) (fun i _ => pq - (intOf i).toNat)
  case atStart => exact ⟨0, Nat.zero_le _, rfl, fun j x _ hj => by omega, Below.refl _ _⟩
  case round =>
    obtain ⟨k, hk, rfl, hp, hb⟩ := hrel
    have HP := Lib.hid hp
    have HB := Lib.hid hb
    have hs6 := HPQ.out
    clear hp hb
    by_cases hlt : k < pq
    · obtain ⟨b, o, x, rfl, hRb, hbl, hx, hok, ⟨q0, q1, q2⟩⟩ := (Vls.up V6.out HB.out).at_ hlt
      have HX := Lib.hid hx
      obtain ⟨xk, xn, xs⟩ := x
      simp only at q0 q1 q2
      clear hx hok hRb
      by_cases h70 : 70 < xs.size
      · have hg : (70 : Int) < (xs.size : Int) := by omega
        go_wp2_with (go_at_call 5; refine (eruns_any _).mono ?_; rintro e w2 ⟨rfl, hb⟩; have K2 := Lib.hid (below_step HB.out (Below.lit hb)); clear hb)
        go_ret
        exact ⟨rfl, below_step BW.out (below_step K.out K2.out)⟩
      · have hg : ¬ (70 : Int) < (xs.size : Int) := by omega
        have HZ := Lib.hid (HP.out.step HX.out (by show xs.size ≤ 70; omega))
        go_wp2_with fail
        go_roundw
        case rel => exact ⟨k + 1, by omega, by go_num, HZ.out, HB.out.alloc HB.out.size _⟩
        case measure => simp [intOf]; omega
    · obtain rfl : k = pq := by omega
      have SH := Lib.hid (HP.out.all LV.out)
      have KW := Lib.hid (below_step K.out HB.out)
      clear hlt
      by_cases hb0 : bagB L0 = true
      rotate_left
      · have HB0 := Lib.hid (by simpa using hb0 : bagB L0 = false)
        clear hb0
        go_wp2_with fail
        refine (bagc_is HB0.out (Vls.up T0.out KW.out)).mono ?_
        rintro e u1 ⟨rfl, hb⟩
        have KW := Lib.hid (below_step KW.out hb)
        clear hb
        go_wp2_with fail
        refine (eruns_any _).mono ?_
        rintro e u2 ⟨rfl, hb⟩
        have KW := Lib.hid (below_step KW.out hb)
        clear hb
        go_wp2_with fail
        go_ret
        exact ⟨rfl, below_step BW.out KW.out⟩
      by_cases hb1 : bagB L1 = true
      rotate_left
      · have HB0 := Lib.hid hb0
        have HB1 := Lib.hid (by simpa using hb1 : bagB L1 = false)
        clear hb0 hb1
        go_wp2_with fail
        refine (bagc_is HB0.out (Vls.up T0.out KW.out)).mono ?_
        rintro e u1 ⟨rfl, hb⟩
        have KW := Lib.hid (below_step KW.out hb)
        clear hb
        go_wp2_with fail
        refine (bagc_is HB1.out (Vls.up T1.out KW.out)).mono ?_
        rintro e u2 ⟨rfl, hb⟩
        have KW := Lib.hid (below_step KW.out hb)
        clear hb
        go_wp2_with fail
        refine (eruns_any _).mono ?_
        rintro e u3 ⟨rfl, hb⟩
        have KW := Lib.hid (below_step KW.out hb)
        clear hb
        go_wp2_with fail
        go_ret
        exact ⟨rfl, below_step BW.out KW.out⟩
      have HB0 := Lib.hid hb0
      have HB1 := Lib.hid hb1
      have HSH := Lib.hid (pair_short SH.out (by have := LL.out; have := S0.out; omega) (by have := LL.out; have := S0.out; omega))
      clear hb0 hb1
      by_cases hone : p0 = 1 ∧ p1 = 1
      rotate_left
      · have HV6 := Lib.hid (pair_miss (L0 := L0) (L1 := L1) (f := 6) (by have := LL.out; omega) (.inl rfl))
        have HV7 := Lib.hid (pair_miss (L0 := L0) (L1 := L1) (f := 7) (by have := LL.out; omega) (.inr rfl))
        go_wp2_with fail
        refine (bagc_is HB0.out (Vls.up T0.out KW.out)).mono ?_
        rintro e u1 ⟨rfl, hb⟩
        have KW := Lib.hid (below_step KW.out hb)
        clear hb
        go_wp2_with fail
        refine (bagc_is HB1.out (Vls.up T1.out KW.out)).mono ?_
        rintro e u2 ⟨rfl, hb⟩
        have KW := Lib.hid (below_step KW.out hb)
        clear hb
        have GV := Lib.hid (pair_gvs (w := u2) (Vls.up T0.out KW.out) (Vls.up T1.out KW.out))
        go_wp2_with fail
        refine (lattr_any 3 ⟨#[97]⟩ _).mono ?_
        rintro e u3 ⟨rfl, hb⟩
        have KW := Lib.hid (below_step KW.out (Below.lit hb))
        have KG := Lib.hid (hb)
        clear hb
        go_wp2_with fail
        refine (lop_any 3 _).mono ?_
        rintro e u4 ⟨rfl, hb⟩
        have KW := Lib.hid (below_step KW.out hb)
        have KG := Lib.hid (below_step KG.out hb)
        clear hb
        go_wp2_with fail
        refine (lattr_any 4 ⟨#[98]⟩ _).mono ?_
        rintro e u5 ⟨rfl, hb⟩
        have KW := Lib.hid (below_step KW.out hb)
        have KG := Lib.hid (below_step KG.out hb)
        clear hb
        go_wp2_with fail
        refine (lop_any 3 _).mono ?_
        rintro e u6 ⟨rfl, hb⟩
        have KW := Lib.hid (below_step KW.out hb)
        have KG := Lib.hid (below_step KG.out hb)
        clear hb
        have X : Hid (Nds (u6.alloc (.cells #[.int .i64 2, .int .i64 0, .int .i64 0, .string ⟨#[]⟩, .int .i64 3, .string ⟨#[97]⟩, .bool false, .int .i64 3, .int .i64 0, .int .i64 0, .string ⟨#[]⟩, .int .i64 0, .string ⟨#[]⟩, .bool false, .int .i64 2, .int .i64 0, .int .i64 0, .string ⟨#[]⟩, .int .i64 4, .string ⟨#[98]⟩, .bool false, .int .i64 3, .int .i64 0, .int .i64 0, .string ⟨#[]⟩, .int .i64 0, .string ⟨#[]⟩, .bool false] 51)) (fun _ => True) (some ⟨u6.heap.size, 0, none⟩) 4 4 pairL) := nds_lit u6 pairL (by decide) pairL_ok
        have LW6 := Lib.hid ((below_al (o := (.cells #[.int .i64 2, .int .i64 0, .int .i64 0, .string ⟨#[]⟩, .int .i64 3, .string ⟨#[97]⟩, .bool false, .int .i64 3, .int .i64 0, .int .i64 0, .string ⟨#[]⟩, .int .i64 0, .string ⟨#[]⟩, .bool false, .int .i64 2, .int .i64 0, .int .i64 0, .string ⟨#[]⟩, .int .i64 4, .string ⟨#[98]⟩, .bool false, .int .i64 3, .int .i64 0, .int .i64 0, .string ⟨#[]⟩, .int .i64 0, .string ⟨#[]⟩, .bool false] 51)) KW.out)).size
        have LG6 := Lib.hid ((below_al (o := (.cells #[.int .i64 2, .int .i64 0, .int .i64 0, .string ⟨#[]⟩, .int .i64 3, .string ⟨#[97]⟩, .bool false, .int .i64 3, .int .i64 0, .int .i64 0, .string ⟨#[]⟩, .int .i64 0, .string ⟨#[]⟩, .bool false, .int .i64 2, .int .i64 0, .int .i64 0, .string ⟨#[]⟩, .int .i64 4, .string ⟨#[98]⟩, .bool false, .int .i64 3, .int .i64 0, .int .i64 0, .string ⟨#[]⟩, .int .i64 0, .string ⟨#[]⟩, .bool false] 51)) KG.out)).size
        have LX6 := Lib.hid ((Below.refl ((u6.alloc (.cells #[.int .i64 2, .int .i64 0, .int .i64 0, .string ⟨#[]⟩, .int .i64 3, .string ⟨#[97]⟩, .bool false, .int .i64 3, .int .i64 0, .int .i64 0, .string ⟨#[]⟩, .int .i64 0, .string ⟨#[]⟩, .bool false, .int .i64 2, .int .i64 0, .int .i64 0, .string ⟨#[]⟩, .int .i64 4, .string ⟨#[98]⟩, .bool false, .int .i64 3, .int .i64 0, .int .i64 0, .string ⟨#[]⟩, .int .i64 0, .string ⟨#[]⟩, .bool false] 51))).heap.size (u6.alloc (.cells #[.int .i64 2, .int .i64 0, .int .i64 0, .string ⟨#[]⟩, .int .i64 3, .string ⟨#[97]⟩, .bool false, .int .i64 3, .int .i64 0, .int .i64 0, .string ⟨#[]⟩, .int .i64 0, .string ⟨#[]⟩, .bool false, .int .i64 2, .int .i64 0, .int .i64 0, .string ⟨#[]⟩, .int .i64 4, .string ⟨#[98]⟩, .bool false, .int .i64 3, .int .i64 0, .int .i64 0, .string ⟨#[]⟩, .int .i64 0, .string ⟨#[]⟩, .bool false] 51)))).size
        obtain ⟨Ac6, cc6, u7, r, hb, oc⟩ := nds_copy (X.out.up (Below.refl ((u6.alloc (.cells #[.int .i64 2, .int .i64 0, .int .i64 0, .string ⟨#[]⟩, .int .i64 3, .string ⟨#[97]⟩, .bool false, .int .i64 3, .int .i64 0, .int .i64 0, .string ⟨#[]⟩, .int .i64 0, .string ⟨#[]⟩, .bool false, .int .i64 2, .int .i64 0, .int .i64 0, .string ⟨#[]⟩, .int .i64 4, .string ⟨#[98]⟩, .bool false, .int .i64 3, .int .i64 0, .int .i64 0, .string ⟨#[]⟩, .int .i64 0, .string ⟨#[]⟩, .bool false] 51))).heap.size (u6.alloc (.cells #[.int .i64 2, .int .i64 0, .int .i64 0, .string ⟨#[]⟩, .int .i64 3, .string ⟨#[97]⟩, .bool false, .int .i64 3, .int .i64 0, .int .i64 0, .string ⟨#[]⟩, .int .i64 0, .string ⟨#[]⟩, .bool false, .int .i64 2, .int .i64 0, .int .i64 0, .string ⟨#[]⟩, .int .i64 4, .string ⟨#[98]⟩, .bool false, .int .i64 3, .int .i64 0, .int .i64 0, .string ⟨#[]⟩, .int .i64 0, .string ⟨#[]⟩, .bool false] 51)))) (by decide)
        have RR63 := Lib.hid ((by rw [size_al] at r; exact r))
        have O6 := Lib.hid (oc)
        have S6 := Lib.hid (hb.size)
        have KW := Lib.hid (below_step KW.out (Below.lit hb))
        have KG := Lib.hid (below_step KG.out (Below.lit hb))
        have KX := Lib.hid (hb)
        clear hb r
        clear oc
        go_wp2_with (at_builtin; refine wpList_append_run (o := ⟨some 63, _, _, _, _, _⟩) rfl _ _ _ _ rfl rfl rfl RR63.out ?_)
        refine (lop_any 6 _).mono ?_
        rintro e u8 ⟨rfl, hb⟩
        have KW := Lib.hid (below_step KW.out hb)
        have KG := Lib.hid (below_step KG.out hb)
        have KX := Lib.hid (below_step KX.out hb)
        have KO6 := Lib.hid (hb)
        clear hb
        obtain ⟨Ad6, cd6, u9, r, hb, nd⟩ := nds_more (w := u8) O6.out S6.out KO6.out rfl pairL_ok [opB 6] (by decide) (by decide)
        have RR66 := Lib.hid (r)
        have ND6 := Lib.hid (nd)
        have KW := Lib.hid (KW.out.trans (hb.mono LW6.out))
        have KG := Lib.hid (KG.out.trans (hb.mono LG6.out))
        have KX := Lib.hid (KX.out.trans (hb.mono LX6.out))
        clear hb r
        clear nd
        go_wp2_with (at_builtin; refine wpList_append_run (o := ⟨some 66, _, _, _, _, _⟩) rfl _ _ _ _ rfl rfl rfl RR66.out ?_)
        refine (eval_is HV6.out ND6.out (GV.out.up KG.out) HSH.out).mono ?_
        rintro e u10 ⟨rfl, hb⟩
        have KW := Lib.hid (below_step KW.out hb)
        have KG := Lib.hid (below_step KG.out hb)
        have KX := Lib.hid (below_step KX.out hb)
        clear hb
        have R9 := Lib.hid (Bx.made u10 0 0 ⟨#[]⟩)
        have LW7 := Lib.hid ((below_al (o := (.cells #[.int .i64 0, .int .i64 0, .string ⟨#[]⟩] 42)) KW.out)).size
        have LG7 := Lib.hid ((below_al (o := (.cells #[.int .i64 0, .int .i64 0, .string ⟨#[]⟩] 42)) KG.out)).size
        have LX7 := Lib.hid ((below_al (o := (.cells #[.int .i64 0, .int .i64 0, .string ⟨#[]⟩] 42)) KX.out)).size
        have L9 := Lib.hid ((Below.refl ((u10.alloc (.cells #[.int .i64 0, .int .i64 0, .string ⟨#[]⟩] 42))).heap.size (u10.alloc (.cells #[.int .i64 0, .int .i64 0, .string ⟨#[]⟩] 42)))).size
        obtain ⟨Ac7, cc7, u11, r, hb, oc⟩ := nds_copy (X.out.up (below_al (o := (.cells #[.int .i64 0, .int .i64 0, .string ⟨#[]⟩] 42)) KX.out)) (by decide)
        have RR74 := Lib.hid ((by rw [size_al] at r; exact r))
        have O7 := Lib.hid (oc)
        have S7 := Lib.hid (hb.size)
        have KW := Lib.hid (below_step KW.out (Below.lit hb))
        have KG := Lib.hid (below_step KG.out (Below.lit hb))
        have KX := Lib.hid (below_step KX.out (Below.lit hb))
        have K9 := Lib.hid (hb)
        clear hb r
        clear oc
        go_wp2_with (at_builtin; refine wpList_append_run (o := ⟨some 74, _, _, _, _, _⟩) rfl _ _ _ _ rfl rfl rfl RR74.out ?_)
        refine (lop_any 7 _).mono ?_
        rintro e u12 ⟨rfl, hb⟩
        have KW := Lib.hid (below_step KW.out hb)
        have KG := Lib.hid (below_step KG.out hb)
        have KX := Lib.hid (below_step KX.out hb)
        have K9 := Lib.hid (below_step K9.out hb)
        have KO7 := Lib.hid (hb)
        clear hb
        obtain ⟨Ad7, cd7, u13, r, hb, nd⟩ := nds_more (w := u12) O7.out S7.out KO7.out rfl pairL_ok [opB 7] (by decide) (by decide)
        have RR77 := Lib.hid (r)
        have ND7 := Lib.hid (nd)
        have KW := Lib.hid (KW.out.trans (hb.mono LW7.out))
        have KG := Lib.hid (KG.out.trans (hb.mono LG7.out))
        have KX := Lib.hid (KX.out.trans (hb.mono LX7.out))
        have K9 := Lib.hid (K9.out.trans (hb.mono L9.out))
        clear hb r
        clear nd
        go_wp2_with (at_builtin; refine wpList_append_run (o := ⟨some 77, _, _, _, _, _⟩) rfl _ _ _ _ rfl rfl rfl RR77.out ?_)
        refine (eval_is HV7.out ND7.out (GV.out.up KG.out) HSH.out).mono ?_
        rintro e u14 ⟨rfl, hb⟩
        have KW := Lib.hid (below_step KW.out hb)
        have KG := Lib.hid (below_step KG.out hb)
        have KX := Lib.hid (below_step KX.out hb)
        have K9 := Lib.hid (below_step K9.out hb)
        clear hb
        have R11 := Lib.hid (Bx.made u14 0 0 ⟨#[]⟩)
        have BB := Lib.hid (below_step BW.out (below_al (o := (.cells #[.int .i64 0, .int .i64 0, .string ⟨#[]⟩] 42)) KW.out))
        by_cases ho0 : p0 = 1
        · have q0 : ((p0 : Int) != 1) = false := by rw [bne_eq_false_iff_eq]; omega
          have q1 : ((p1 : Int) != 1) = true := by rw [bne_iff_ne]; omega
          clear hone ho0
          go_wp2_with (go_at_call 5; refine (eruns_any _).mono ?_; rintro e y3 ⟨rfl, hb⟩; have BB3 := Lib.hid (below_step BB.out hb); clear hb)
          go_ret
          exact ⟨rfl, BB3.out⟩
        · have q0 : ((p0 : Int) != 1) = true := by rw [bne_iff_ne]; omega
          clear hone ho0
          go_wp2_with (go_at_call 5; refine (eruns_any _).mono ?_; rintro e y3 ⟨rfl, hb⟩; have BB3 := Lib.hid (below_step BB.out hb); clear hb)
          go_ret
          exact ⟨rfl, BB3.out⟩
      obtain ⟨rfl, rfl⟩ := hone
      obtain ⟨x, rfl⟩ := List.length_eq_one_iff.1 LL.out.1
      obtain ⟨y, rfl⟩ := List.length_eq_one_iff.1 LL.out.2
      have hxr := bag_right HB0.out x (by simp)
      have hyr := bag_right HB1.out y (by simp)
      have v6 := pair_two hxr hyr (f := 6) (.inl rfl)
      have v7 := pair_two hxr hyr (f := 7) (.inr rfl)
      have hxo := T0.out.oks x (by simp)
      have hyo := T1.out.oks y (by simp)
      have hlo : lessOf x y = if x.k ≠ y.k ∨ x.k = 1 then (false, 2) else if inT x.k = true then (Op.bytesLess x.l y.l, 0) else (decide (x.n < y.n), 0) := by unfold lessOf; rw [if_pos ⟨hxr, hyr⟩]
      obtain ⟨⟨lb, le⟩, hle⟩ : ∃ q, q = lessOf x y := ⟨_, rfl⟩
      have HLE := Lib.hid hle.symm
      obtain ⟨bx, ox, x', rfl, _, _, hx, _, _⟩ := T0.out.at_ (j := 0) (by omega)
      obtain ⟨by_, oy, y', rfl, _, _, hy, _, _⟩ := T1.out.at_ (j := 0) (by omega)
      clear hx hy
      have six : callTwo 6 x y = sameV x y := rfl
      have seven : callTwo 7 x y = lessV x y := rfl
      rw [six] at v6
      rw [seven] at v7
      have HLX := Lib.hid (less_is HLE.out hxo.2.2 hyo.2.2)
      by_cases hkk : x.k = y.k
      rotate_left
      · have h6 : sameV x y = (⟨0, 0, ⟨#[]⟩⟩, 2) := if_neg hkk
        have hl2 : le = 2 := by
          rw [if_pos (.inl hkk)] at hlo
          have := hle.trans hlo
          injection this
        subst hl2
        have h7 : lessV x y = (⟨0, 0, ⟨#[]⟩⟩, 2) := by unfold lessV; rw [← hle]; rfl
        rw [h6] at v6
        rw [h7] at v7
        have HV6 := Lib.hid v6
        have HV7 := Lib.hid v7
        obtain ⟨xk, xn, xs⟩ := x
        obtain ⟨yk, yn, ys⟩ := y
        simp only at hkk HLX
        have hkb : (xk != yk) = true := by rw [bne_iff_ne]; exact hkk
        clear v6 v7 h6 h7 six seven hlo hle hxr hyr hxo hyo hkk
        go_wp2_with fail
        refine (bagc_is HB0.out (Vls.up T0.out KW.out)).mono ?_
        rintro e u1 ⟨rfl, hb⟩
        have KW := Lib.hid (below_step KW.out hb)
        clear hb
        go_wp2_with fail
        refine (bagc_is HB1.out (Vls.up T1.out KW.out)).mono ?_
        rintro e u2 ⟨rfl, hb⟩
        have KW := Lib.hid (below_step KW.out hb)
        clear hb
        have GV := Lib.hid (pair_gvs (w := u2) (Vls.up T0.out KW.out) (Vls.up T1.out KW.out))
        go_wp2_with fail
        refine (lattr_any 3 ⟨#[97]⟩ _).mono ?_
        rintro e u3 ⟨rfl, hb⟩
        have KW := Lib.hid (below_step KW.out (Below.lit hb))
        have KG := Lib.hid (hb)
        clear hb
        go_wp2_with fail
        refine (lop_any 3 _).mono ?_
        rintro e u4 ⟨rfl, hb⟩
        have KW := Lib.hid (below_step KW.out hb)
        have KG := Lib.hid (below_step KG.out hb)
        clear hb
        go_wp2_with fail
        refine (lattr_any 4 ⟨#[98]⟩ _).mono ?_
        rintro e u5 ⟨rfl, hb⟩
        have KW := Lib.hid (below_step KW.out hb)
        have KG := Lib.hid (below_step KG.out hb)
        clear hb
        go_wp2_with fail
        refine (lop_any 3 _).mono ?_
        rintro e u6 ⟨rfl, hb⟩
        have KW := Lib.hid (below_step KW.out hb)
        have KG := Lib.hid (below_step KG.out hb)
        clear hb
        have X : Hid (Nds (u6.alloc (.cells #[.int .i64 2, .int .i64 0, .int .i64 0, .string ⟨#[]⟩, .int .i64 3, .string ⟨#[97]⟩, .bool false, .int .i64 3, .int .i64 0, .int .i64 0, .string ⟨#[]⟩, .int .i64 0, .string ⟨#[]⟩, .bool false, .int .i64 2, .int .i64 0, .int .i64 0, .string ⟨#[]⟩, .int .i64 4, .string ⟨#[98]⟩, .bool false, .int .i64 3, .int .i64 0, .int .i64 0, .string ⟨#[]⟩, .int .i64 0, .string ⟨#[]⟩, .bool false] 51)) (fun _ => True) (some ⟨u6.heap.size, 0, none⟩) 4 4 pairL) := nds_lit u6 pairL (by decide) pairL_ok
        have LW6 := Lib.hid ((below_al (o := (.cells #[.int .i64 2, .int .i64 0, .int .i64 0, .string ⟨#[]⟩, .int .i64 3, .string ⟨#[97]⟩, .bool false, .int .i64 3, .int .i64 0, .int .i64 0, .string ⟨#[]⟩, .int .i64 0, .string ⟨#[]⟩, .bool false, .int .i64 2, .int .i64 0, .int .i64 0, .string ⟨#[]⟩, .int .i64 4, .string ⟨#[98]⟩, .bool false, .int .i64 3, .int .i64 0, .int .i64 0, .string ⟨#[]⟩, .int .i64 0, .string ⟨#[]⟩, .bool false] 51)) KW.out)).size
        have LG6 := Lib.hid ((below_al (o := (.cells #[.int .i64 2, .int .i64 0, .int .i64 0, .string ⟨#[]⟩, .int .i64 3, .string ⟨#[97]⟩, .bool false, .int .i64 3, .int .i64 0, .int .i64 0, .string ⟨#[]⟩, .int .i64 0, .string ⟨#[]⟩, .bool false, .int .i64 2, .int .i64 0, .int .i64 0, .string ⟨#[]⟩, .int .i64 4, .string ⟨#[98]⟩, .bool false, .int .i64 3, .int .i64 0, .int .i64 0, .string ⟨#[]⟩, .int .i64 0, .string ⟨#[]⟩, .bool false] 51)) KG.out)).size
        have LX6 := Lib.hid ((Below.refl ((u6.alloc (.cells #[.int .i64 2, .int .i64 0, .int .i64 0, .string ⟨#[]⟩, .int .i64 3, .string ⟨#[97]⟩, .bool false, .int .i64 3, .int .i64 0, .int .i64 0, .string ⟨#[]⟩, .int .i64 0, .string ⟨#[]⟩, .bool false, .int .i64 2, .int .i64 0, .int .i64 0, .string ⟨#[]⟩, .int .i64 4, .string ⟨#[98]⟩, .bool false, .int .i64 3, .int .i64 0, .int .i64 0, .string ⟨#[]⟩, .int .i64 0, .string ⟨#[]⟩, .bool false] 51))).heap.size (u6.alloc (.cells #[.int .i64 2, .int .i64 0, .int .i64 0, .string ⟨#[]⟩, .int .i64 3, .string ⟨#[97]⟩, .bool false, .int .i64 3, .int .i64 0, .int .i64 0, .string ⟨#[]⟩, .int .i64 0, .string ⟨#[]⟩, .bool false, .int .i64 2, .int .i64 0, .int .i64 0, .string ⟨#[]⟩, .int .i64 4, .string ⟨#[98]⟩, .bool false, .int .i64 3, .int .i64 0, .int .i64 0, .string ⟨#[]⟩, .int .i64 0, .string ⟨#[]⟩, .bool false] 51)))).size
        obtain ⟨Ac6, cc6, u7, r, hb, oc⟩ := nds_copy (X.out.up (Below.refl ((u6.alloc (.cells #[.int .i64 2, .int .i64 0, .int .i64 0, .string ⟨#[]⟩, .int .i64 3, .string ⟨#[97]⟩, .bool false, .int .i64 3, .int .i64 0, .int .i64 0, .string ⟨#[]⟩, .int .i64 0, .string ⟨#[]⟩, .bool false, .int .i64 2, .int .i64 0, .int .i64 0, .string ⟨#[]⟩, .int .i64 4, .string ⟨#[98]⟩, .bool false, .int .i64 3, .int .i64 0, .int .i64 0, .string ⟨#[]⟩, .int .i64 0, .string ⟨#[]⟩, .bool false] 51))).heap.size (u6.alloc (.cells #[.int .i64 2, .int .i64 0, .int .i64 0, .string ⟨#[]⟩, .int .i64 3, .string ⟨#[97]⟩, .bool false, .int .i64 3, .int .i64 0, .int .i64 0, .string ⟨#[]⟩, .int .i64 0, .string ⟨#[]⟩, .bool false, .int .i64 2, .int .i64 0, .int .i64 0, .string ⟨#[]⟩, .int .i64 4, .string ⟨#[98]⟩, .bool false, .int .i64 3, .int .i64 0, .int .i64 0, .string ⟨#[]⟩, .int .i64 0, .string ⟨#[]⟩, .bool false] 51)))) (by decide)
        have RR63 := Lib.hid ((by rw [size_al] at r; exact r))
        have O6 := Lib.hid (oc)
        have S6 := Lib.hid (hb.size)
        have KW := Lib.hid (below_step KW.out (Below.lit hb))
        have KG := Lib.hid (below_step KG.out (Below.lit hb))
        have KX := Lib.hid (hb)
        clear hb r
        clear oc
        go_wp2_with (at_builtin; refine wpList_append_run (o := ⟨some 63, _, _, _, _, _⟩) rfl _ _ _ _ rfl rfl rfl RR63.out ?_)
        refine (lop_any 6 _).mono ?_
        rintro e u8 ⟨rfl, hb⟩
        have KW := Lib.hid (below_step KW.out hb)
        have KG := Lib.hid (below_step KG.out hb)
        have KX := Lib.hid (below_step KX.out hb)
        have KO6 := Lib.hid (hb)
        clear hb
        obtain ⟨Ad6, cd6, u9, r, hb, nd⟩ := nds_more (w := u8) O6.out S6.out KO6.out rfl pairL_ok [opB 6] (by decide) (by decide)
        have RR66 := Lib.hid (r)
        have ND6 := Lib.hid (nd)
        have KW := Lib.hid (KW.out.trans (hb.mono LW6.out))
        have KG := Lib.hid (KG.out.trans (hb.mono LG6.out))
        have KX := Lib.hid (KX.out.trans (hb.mono LX6.out))
        clear hb r
        clear nd
        go_wp2_with (at_builtin; refine wpList_append_run (o := ⟨some 66, _, _, _, _, _⟩) rfl _ _ _ _ rfl rfl rfl RR66.out ?_)
        refine (eval_is HV6.out ND6.out (GV.out.up KG.out) HSH.out).mono ?_
        rintro e u10 ⟨rfl, hb⟩
        have KW := Lib.hid (below_step KW.out hb)
        have KG := Lib.hid (below_step KG.out hb)
        have KX := Lib.hid (below_step KX.out hb)
        clear hb
        have R9 := Lib.hid (Bx.made u10 0 0 ⟨#[]⟩)
        have LW7 := Lib.hid ((below_al (o := (.cells #[.int .i64 0, .int .i64 0, .string ⟨#[]⟩] 42)) KW.out)).size
        have LG7 := Lib.hid ((below_al (o := (.cells #[.int .i64 0, .int .i64 0, .string ⟨#[]⟩] 42)) KG.out)).size
        have LX7 := Lib.hid ((below_al (o := (.cells #[.int .i64 0, .int .i64 0, .string ⟨#[]⟩] 42)) KX.out)).size
        have L9 := Lib.hid ((Below.refl ((u10.alloc (.cells #[.int .i64 0, .int .i64 0, .string ⟨#[]⟩] 42))).heap.size (u10.alloc (.cells #[.int .i64 0, .int .i64 0, .string ⟨#[]⟩] 42)))).size
        obtain ⟨Ac7, cc7, u11, r, hb, oc⟩ := nds_copy (X.out.up (below_al (o := (.cells #[.int .i64 0, .int .i64 0, .string ⟨#[]⟩] 42)) KX.out)) (by decide)
        have RR74 := Lib.hid ((by rw [size_al] at r; exact r))
        have O7 := Lib.hid (oc)
        have S7 := Lib.hid (hb.size)
        have KW := Lib.hid (below_step KW.out (Below.lit hb))
        have KG := Lib.hid (below_step KG.out (Below.lit hb))
        have KX := Lib.hid (below_step KX.out (Below.lit hb))
        have K9 := Lib.hid (hb)
        clear hb r
        clear oc
        go_wp2_with (at_builtin; refine wpList_append_run (o := ⟨some 74, _, _, _, _, _⟩) rfl _ _ _ _ rfl rfl rfl RR74.out ?_)
        refine (lop_any 7 _).mono ?_
        rintro e u12 ⟨rfl, hb⟩
        have KW := Lib.hid (below_step KW.out hb)
        have KG := Lib.hid (below_step KG.out hb)
        have KX := Lib.hid (below_step KX.out hb)
        have K9 := Lib.hid (below_step K9.out hb)
        have KO7 := Lib.hid (hb)
        clear hb
        obtain ⟨Ad7, cd7, u13, r, hb, nd⟩ := nds_more (w := u12) O7.out S7.out KO7.out rfl pairL_ok [opB 7] (by decide) (by decide)
        have RR77 := Lib.hid (r)
        have ND7 := Lib.hid (nd)
        have KW := Lib.hid (KW.out.trans (hb.mono LW7.out))
        have KG := Lib.hid (KG.out.trans (hb.mono LG7.out))
        have KX := Lib.hid (KX.out.trans (hb.mono LX7.out))
        have K9 := Lib.hid (K9.out.trans (hb.mono L9.out))
        clear hb r
        clear nd
        go_wp2_with (at_builtin; refine wpList_append_run (o := ⟨some 77, _, _, _, _, _⟩) rfl _ _ _ _ rfl rfl rfl RR77.out ?_)
        refine (eval_is HV7.out ND7.out (GV.out.up KG.out) HSH.out).mono ?_
        rintro e u14 ⟨rfl, hb⟩
        have KW := Lib.hid (below_step KW.out hb)
        have KG := Lib.hid (below_step KG.out hb)
        have KX := Lib.hid (below_step KX.out hb)
        have K9 := Lib.hid (below_step K9.out hb)
        clear hb
        have R11 := Lib.hid (Bx.made u14 0 0 ⟨#[]⟩)
        have KW := Lib.hid ((below_al (o := (.cells #[.int .i64 0, .int .i64 0, .string ⟨#[]⟩] 42)) KW.out))
        have R9 := Lib.hid (R9.out.then_ (below_al (o := (.cells #[.int .i64 0, .int .i64 0, .string ⟨#[]⟩] 42)) K9.out))
        go_upto_region 16 with fail
        generalize hWZ : (u14.alloc (.cells #[.int .i64 0, .int .i64 0, .string ⟨#[]⟩] 42)) = WZ at *
        clear hWZ
        obtain ⟨b1, o1, v1, hA1, _, _, hv1, _, ⟨s0, s1, s2⟩⟩ := (Vls.up T0.out KW.out).at_ (j := 0) (by omega)
        injection hA1 with hA1
        injection hA1 with hA2 hA3
        subst hA2 hA3
        simp at hv1
        subst hv1
        obtain ⟨b2, o2, v2, hB1, _, _, hv2, _, ⟨t0, t1, t2⟩⟩ := (Vls.up T1.out KW.out).at_ (j := 0) (by omega)
        injection hB1 with hB1
        injection hB1 with hB2 hB3
        subst hB2 hB3
        simp at hv2
        subst hv2
        simp only [Nat.zero_mul, Nat.add_zero] at s0 s1 s2 t0 t1 t2
        have s0 := fun d os => cell_regrown s0 d os
        have s1 := fun d os => cell_regrown s1 d os
        have s2 := fun d os => cell_regrown s2 d os
        have t0 := fun d os => cell_regrown t0 d os
        have t1 := fun d os => cell_regrown t1 d os
        have t2 := fun d os => cell_regrown t2 d os
        have Q0 := Lib.hid (fun d os => Calls.regrown_of (w := WZ) (d := d) (os := os) (HLX.out _))
        refine wp_region_quiet_below (by kernel_rfl) (by kernel_rfl) ?_
        repeat (go_big_quiet_step (first | (go_at_call 38; with_reducible exact Q0.out _ _)))
        refine wpQuiet_nil ?_
        intro _ hw'
        obtain ⟨⟨dq, osq⟩, hw''⟩ := hw'
        subst hw''
        have hq := below_regrown WZ dq osq
        clear Q0
        have R9 := Lib.hid (R9.out.then_ hq)
        have R11 := Lib.hid (R11.out.then_ hq)
        have KW := Lib.hid (below_step KW.out hq)
        clear hq s0 s1 s2 t0 t1 t2
        generalize hWY : grow (redrawn WZ dq) osq = WY at *
        clear hWY
        go_upto_region 17 with fail
        obtain ⟨b1, o1, v1, hA1, _, _, hv1, _, ⟨s0, s1, s2⟩⟩ := (Vls.up T0.out KW.out).at_ (j := 0) (by omega)
        injection hA1 with hA1
        injection hA1 with hA2 hA3
        subst hA2 hA3
        simp at hv1
        subst hv1
        obtain ⟨b2, o2, v2, hB1, _, _, hv2, _, ⟨t0, t1, t2⟩⟩ := (Vls.up T1.out KW.out).at_ (j := 0) (by omega)
        injection hB1 with hB1
        injection hB1 with hB2 hB3
        subst hB2 hB3
        simp at hv2
        subst hv2
        simp only [Nat.zero_mul, Nat.add_zero] at s0 s1 s2 t0 t1 t2
        have s0 := fun d os => cell_regrown s0 d os
        have s1 := fun d os => cell_regrown s1 d os
        have s2 := fun d os => cell_regrown s2 d os
        have t0 := fun d os => cell_regrown t0 d os
        have t1 := fun d os => cell_regrown t1 d os
        have t2 := fun d os => cell_regrown t2 d os
        refine wp_region_quiet_below (by kernel_rfl) (by kernel_rfl) ?_
        repeat (go_big_quiet_step (fail))
        refine wpQuiet_nil ?_
        intro _ hw'
        obtain ⟨⟨dq, osq⟩, hw''⟩ := hw'
        subst hw''
        have hq := below_regrown WY dq osq
        have R9 := Lib.hid (R9.out.then_ hq)
        have R11 := Lib.hid (R11.out.then_ hq)
        have KW := Lib.hid (below_step KW.out hq)
        clear hq s0 s1 s2 t0 t1 t2
        generalize hWY : grow (redrawn WY dq) osq = WX at *
        clear hWY
        have BB := Lib.hid (below_step BW.out KW.out)
        go_wp2_with (go_at_call 5; refine (eruns_any _).mono ?_; rintro e y3 ⟨rfl, hb⟩; have BB3 := Lib.hid (below_step BB.out hb); clear hb)
        go_ret
        exact ⟨rfl, BB3.out⟩
      have h6 : sameV x y = (⟨1, truthN (veq x y), ⟨#[]⟩⟩, 0) := if_pos hkk
      have h7 : lessV x y = if le = 0 then (⟨1, truthN lb, ⟨#[]⟩⟩, 0) else (⟨0, 0, ⟨#[]⟩⟩, le) := by unfold lessV; rw [← hle]; rfl
      rw [h6] at v6
      rw [h7] at v7
      have HV6 := Lib.hid v6
      obtain ⟨xk, xn, xs⟩ := x
      obtain ⟨yk, yn, ys⟩ := y
      simp only at hkk HLX
      have hve := fun W => val_eq xk xn yk yn xs ys W
      obtain ⟨be, hbe⟩ : ∃ be, be = veq ⟨xk, xn, xs⟩ ⟨yk, yn, ys⟩ := ⟨_, rfl⟩
      rw [← hbe] at hve HV6
      have hkb : (xk != yk) = false := by rw [bne_eq_false_iff_eq]; exact hkk
      clear v6 h6 h7 six seven hlo hle hxr hyr hxo hyo hkk hbe
      by_cases hle0 : le = 0
      · subst hle0
        rw [if_pos rfl] at v7
        have HV7 := Lib.hid v7
        clear v7
        go_wp2_with fail
        refine (bagc_is HB0.out (Vls.up T0.out KW.out)).mono ?_
        rintro e u1 ⟨rfl, hb⟩
        have KW := Lib.hid (below_step KW.out hb)
        clear hb
        go_wp2_with fail
        refine (bagc_is HB1.out (Vls.up T1.out KW.out)).mono ?_
        rintro e u2 ⟨rfl, hb⟩
        have KW := Lib.hid (below_step KW.out hb)
        clear hb
        have GV := Lib.hid (pair_gvs (w := u2) (Vls.up T0.out KW.out) (Vls.up T1.out KW.out))
        go_wp2_with fail
        refine (lattr_any 3 ⟨#[97]⟩ _).mono ?_
        rintro e u3 ⟨rfl, hb⟩
        have KW := Lib.hid (below_step KW.out (Below.lit hb))
        have KG := Lib.hid (hb)
        clear hb
        go_wp2_with fail
        refine (lop_any 3 _).mono ?_
        rintro e u4 ⟨rfl, hb⟩
        have KW := Lib.hid (below_step KW.out hb)
        have KG := Lib.hid (below_step KG.out hb)
        clear hb
        go_wp2_with fail
        refine (lattr_any 4 ⟨#[98]⟩ _).mono ?_
        rintro e u5 ⟨rfl, hb⟩
        have KW := Lib.hid (below_step KW.out hb)
        have KG := Lib.hid (below_step KG.out hb)
        clear hb
        go_wp2_with fail
        refine (lop_any 3 _).mono ?_
        rintro e u6 ⟨rfl, hb⟩
        have KW := Lib.hid (below_step KW.out hb)
        have KG := Lib.hid (below_step KG.out hb)
        clear hb
        have X : Hid (Nds (u6.alloc (.cells #[.int .i64 2, .int .i64 0, .int .i64 0, .string ⟨#[]⟩, .int .i64 3, .string ⟨#[97]⟩, .bool false, .int .i64 3, .int .i64 0, .int .i64 0, .string ⟨#[]⟩, .int .i64 0, .string ⟨#[]⟩, .bool false, .int .i64 2, .int .i64 0, .int .i64 0, .string ⟨#[]⟩, .int .i64 4, .string ⟨#[98]⟩, .bool false, .int .i64 3, .int .i64 0, .int .i64 0, .string ⟨#[]⟩, .int .i64 0, .string ⟨#[]⟩, .bool false] 51)) (fun _ => True) (some ⟨u6.heap.size, 0, none⟩) 4 4 pairL) := nds_lit u6 pairL (by decide) pairL_ok
        have LW6 := Lib.hid ((below_al (o := (.cells #[.int .i64 2, .int .i64 0, .int .i64 0, .string ⟨#[]⟩, .int .i64 3, .string ⟨#[97]⟩, .bool false, .int .i64 3, .int .i64 0, .int .i64 0, .string ⟨#[]⟩, .int .i64 0, .string ⟨#[]⟩, .bool false, .int .i64 2, .int .i64 0, .int .i64 0, .string ⟨#[]⟩, .int .i64 4, .string ⟨#[98]⟩, .bool false, .int .i64 3, .int .i64 0, .int .i64 0, .string ⟨#[]⟩, .int .i64 0, .string ⟨#[]⟩, .bool false] 51)) KW.out)).size
        have LG6 := Lib.hid ((below_al (o := (.cells #[.int .i64 2, .int .i64 0, .int .i64 0, .string ⟨#[]⟩, .int .i64 3, .string ⟨#[97]⟩, .bool false, .int .i64 3, .int .i64 0, .int .i64 0, .string ⟨#[]⟩, .int .i64 0, .string ⟨#[]⟩, .bool false, .int .i64 2, .int .i64 0, .int .i64 0, .string ⟨#[]⟩, .int .i64 4, .string ⟨#[98]⟩, .bool false, .int .i64 3, .int .i64 0, .int .i64 0, .string ⟨#[]⟩, .int .i64 0, .string ⟨#[]⟩, .bool false] 51)) KG.out)).size
        have LX6 := Lib.hid ((Below.refl ((u6.alloc (.cells #[.int .i64 2, .int .i64 0, .int .i64 0, .string ⟨#[]⟩, .int .i64 3, .string ⟨#[97]⟩, .bool false, .int .i64 3, .int .i64 0, .int .i64 0, .string ⟨#[]⟩, .int .i64 0, .string ⟨#[]⟩, .bool false, .int .i64 2, .int .i64 0, .int .i64 0, .string ⟨#[]⟩, .int .i64 4, .string ⟨#[98]⟩, .bool false, .int .i64 3, .int .i64 0, .int .i64 0, .string ⟨#[]⟩, .int .i64 0, .string ⟨#[]⟩, .bool false] 51))).heap.size (u6.alloc (.cells #[.int .i64 2, .int .i64 0, .int .i64 0, .string ⟨#[]⟩, .int .i64 3, .string ⟨#[97]⟩, .bool false, .int .i64 3, .int .i64 0, .int .i64 0, .string ⟨#[]⟩, .int .i64 0, .string ⟨#[]⟩, .bool false, .int .i64 2, .int .i64 0, .int .i64 0, .string ⟨#[]⟩, .int .i64 4, .string ⟨#[98]⟩, .bool false, .int .i64 3, .int .i64 0, .int .i64 0, .string ⟨#[]⟩, .int .i64 0, .string ⟨#[]⟩, .bool false] 51)))).size
        obtain ⟨Ac6, cc6, u7, r, hb, oc⟩ := nds_copy (X.out.up (Below.refl ((u6.alloc (.cells #[.int .i64 2, .int .i64 0, .int .i64 0, .string ⟨#[]⟩, .int .i64 3, .string ⟨#[97]⟩, .bool false, .int .i64 3, .int .i64 0, .int .i64 0, .string ⟨#[]⟩, .int .i64 0, .string ⟨#[]⟩, .bool false, .int .i64 2, .int .i64 0, .int .i64 0, .string ⟨#[]⟩, .int .i64 4, .string ⟨#[98]⟩, .bool false, .int .i64 3, .int .i64 0, .int .i64 0, .string ⟨#[]⟩, .int .i64 0, .string ⟨#[]⟩, .bool false] 51))).heap.size (u6.alloc (.cells #[.int .i64 2, .int .i64 0, .int .i64 0, .string ⟨#[]⟩, .int .i64 3, .string ⟨#[97]⟩, .bool false, .int .i64 3, .int .i64 0, .int .i64 0, .string ⟨#[]⟩, .int .i64 0, .string ⟨#[]⟩, .bool false, .int .i64 2, .int .i64 0, .int .i64 0, .string ⟨#[]⟩, .int .i64 4, .string ⟨#[98]⟩, .bool false, .int .i64 3, .int .i64 0, .int .i64 0, .string ⟨#[]⟩, .int .i64 0, .string ⟨#[]⟩, .bool false] 51)))) (by decide)
        have RR63 := Lib.hid ((by rw [size_al] at r; exact r))
        have O6 := Lib.hid (oc)
        have S6 := Lib.hid (hb.size)
        have KW := Lib.hid (below_step KW.out (Below.lit hb))
        have KG := Lib.hid (below_step KG.out (Below.lit hb))
        have KX := Lib.hid (hb)
        clear hb r
        clear oc
        go_wp2_with (at_builtin; refine wpList_append_run (o := ⟨some 63, _, _, _, _, _⟩) rfl _ _ _ _ rfl rfl rfl RR63.out ?_)
        refine (lop_any 6 _).mono ?_
        rintro e u8 ⟨rfl, hb⟩
        have KW := Lib.hid (below_step KW.out hb)
        have KG := Lib.hid (below_step KG.out hb)
        have KX := Lib.hid (below_step KX.out hb)
        have KO6 := Lib.hid (hb)
        clear hb
        obtain ⟨Ad6, cd6, u9, r, hb, nd⟩ := nds_more (w := u8) O6.out S6.out KO6.out rfl pairL_ok [opB 6] (by decide) (by decide)
        have RR66 := Lib.hid (r)
        have ND6 := Lib.hid (nd)
        have KW := Lib.hid (KW.out.trans (hb.mono LW6.out))
        have KG := Lib.hid (KG.out.trans (hb.mono LG6.out))
        have KX := Lib.hid (KX.out.trans (hb.mono LX6.out))
        clear hb r
        clear nd
        go_wp2_with (at_builtin; refine wpList_append_run (o := ⟨some 66, _, _, _, _, _⟩) rfl _ _ _ _ rfl rfl rfl RR66.out ?_)
        refine (eval_is HV6.out ND6.out (GV.out.up KG.out) HSH.out).mono ?_
        rintro e u10 ⟨rfl, hb⟩
        have KW := Lib.hid (below_step KW.out hb)
        have KG := Lib.hid (below_step KG.out hb)
        have KX := Lib.hid (below_step KX.out hb)
        clear hb
        have R9 := Lib.hid (Bx.made u10 1 (truthN be) ⟨#[]⟩)
        have LW7 := Lib.hid ((below_al (o := (.cells #[.int .i64 1, .int .i64 (truthN be), .string ⟨#[]⟩] 42)) KW.out)).size
        have LG7 := Lib.hid ((below_al (o := (.cells #[.int .i64 1, .int .i64 (truthN be), .string ⟨#[]⟩] 42)) KG.out)).size
        have LX7 := Lib.hid ((below_al (o := (.cells #[.int .i64 1, .int .i64 (truthN be), .string ⟨#[]⟩] 42)) KX.out)).size
        have L9 := Lib.hid ((Below.refl ((u10.alloc (.cells #[.int .i64 1, .int .i64 (truthN be), .string ⟨#[]⟩] 42))).heap.size (u10.alloc (.cells #[.int .i64 1, .int .i64 (truthN be), .string ⟨#[]⟩] 42)))).size
        obtain ⟨Ac7, cc7, u11, r, hb, oc⟩ := nds_copy (X.out.up (below_al (o := (.cells #[.int .i64 1, .int .i64 (truthN be), .string ⟨#[]⟩] 42)) KX.out)) (by decide)
        have RR74 := Lib.hid ((by rw [size_al] at r; exact r))
        have O7 := Lib.hid (oc)
        have S7 := Lib.hid (hb.size)
        have KW := Lib.hid (below_step KW.out (Below.lit hb))
        have KG := Lib.hid (below_step KG.out (Below.lit hb))
        have KX := Lib.hid (below_step KX.out (Below.lit hb))
        have K9 := Lib.hid (hb)
        clear hb r
        clear oc
        go_wp2_with (at_builtin; refine wpList_append_run (o := ⟨some 74, _, _, _, _, _⟩) rfl _ _ _ _ rfl rfl rfl RR74.out ?_)
        refine (lop_any 7 _).mono ?_
        rintro e u12 ⟨rfl, hb⟩
        have KW := Lib.hid (below_step KW.out hb)
        have KG := Lib.hid (below_step KG.out hb)
        have KX := Lib.hid (below_step KX.out hb)
        have K9 := Lib.hid (below_step K9.out hb)
        have KO7 := Lib.hid (hb)
        clear hb
        obtain ⟨Ad7, cd7, u13, r, hb, nd⟩ := nds_more (w := u12) O7.out S7.out KO7.out rfl pairL_ok [opB 7] (by decide) (by decide)
        have RR77 := Lib.hid (r)
        have ND7 := Lib.hid (nd)
        have KW := Lib.hid (KW.out.trans (hb.mono LW7.out))
        have KG := Lib.hid (KG.out.trans (hb.mono LG7.out))
        have KX := Lib.hid (KX.out.trans (hb.mono LX7.out))
        have K9 := Lib.hid (K9.out.trans (hb.mono L9.out))
        clear hb r
        clear nd
        go_wp2_with (at_builtin; refine wpList_append_run (o := ⟨some 77, _, _, _, _, _⟩) rfl _ _ _ _ rfl rfl rfl RR77.out ?_)
        refine (eval_is HV7.out ND7.out (GV.out.up KG.out) HSH.out).mono ?_
        rintro e u14 ⟨rfl, hb⟩
        have KW := Lib.hid (below_step KW.out hb)
        have KG := Lib.hid (below_step KG.out hb)
        have KX := Lib.hid (below_step KX.out hb)
        have K9 := Lib.hid (below_step K9.out hb)
        clear hb
        have R11 := Lib.hid (Bx.made u14 1 (truthN lb) ⟨#[]⟩)
        have KW := Lib.hid ((below_al (o := (.cells #[.int .i64 1, .int .i64 (truthN lb), .string ⟨#[]⟩] 42)) KW.out))
        have R9 := Lib.hid (R9.out.then_ (below_al (o := (.cells #[.int .i64 1, .int .i64 (truthN lb), .string ⟨#[]⟩] 42)) K9.out))
        go_upto_region 16 with fail
        generalize hWZ : (u14.alloc (.cells #[.int .i64 1, .int .i64 (truthN lb), .string ⟨#[]⟩] 42)) = WZ at *
        clear hWZ
        obtain ⟨b1, o1, v1, hA1, _, _, hv1, _, ⟨s0, s1, s2⟩⟩ := (Vls.up T0.out KW.out).at_ (j := 0) (by omega)
        injection hA1 with hA1
        injection hA1 with hA2 hA3
        subst hA2 hA3
        simp at hv1
        subst hv1
        obtain ⟨b2, o2, v2, hB1, _, _, hv2, _, ⟨t0, t1, t2⟩⟩ := (Vls.up T1.out KW.out).at_ (j := 0) (by omega)
        injection hB1 with hB1
        injection hB1 with hB2 hB3
        subst hB2 hB3
        simp at hv2
        subst hv2
        simp only [Nat.zero_mul, Nat.add_zero] at s0 s1 s2 t0 t1 t2
        have s0 := fun d os => cell_regrown s0 d os
        have s1 := fun d os => cell_regrown s1 d os
        have s2 := fun d os => cell_regrown s2 d os
        have t0 := fun d os => cell_regrown t0 d os
        have t1 := fun d os => cell_regrown t1 d os
        have t2 := fun d os => cell_regrown t2 d os
        have Q0 := Lib.hid (fun d os => Calls.regrown_of (w := WZ) (d := d) (os := os) (HLX.out _))
        refine wp_region_quiet_below (by kernel_rfl) (by kernel_rfl) ?_
        repeat (go_big_quiet_step (first | (go_at_call 38; with_reducible exact Q0.out _ _)))
        refine wpQuiet_nil ?_
        intro _ hw'
        obtain ⟨⟨dq, osq⟩, hw''⟩ := hw'
        subst hw''
        have hq := below_regrown WZ dq osq
        clear Q0
        have R9 := Lib.hid (R9.out.then_ hq)
        have R11 := Lib.hid (R11.out.then_ hq)
        have KW := Lib.hid (below_step KW.out hq)
        clear hq s0 s1 s2 t0 t1 t2
        generalize hWY : grow (redrawn WZ dq) osq = WY at *
        clear hWY
        go_upto_region 17 with fail
        obtain ⟨b1, o1, v1, hA1, _, _, hv1, _, ⟨s0, s1, s2⟩⟩ := (Vls.up T0.out KW.out).at_ (j := 0) (by omega)
        injection hA1 with hA1
        injection hA1 with hA2 hA3
        subst hA2 hA3
        simp at hv1
        subst hv1
        obtain ⟨b2, o2, v2, hB1, _, _, hv2, _, ⟨t0, t1, t2⟩⟩ := (Vls.up T1.out KW.out).at_ (j := 0) (by omega)
        injection hB1 with hB1
        injection hB1 with hB2 hB3
        subst hB2 hB3
        simp at hv2
        subst hv2
        simp only [Nat.zero_mul, Nat.add_zero] at s0 s1 s2 t0 t1 t2
        have s0 := fun d os => cell_regrown s0 d os
        have s1 := fun d os => cell_regrown s1 d os
        have s2 := fun d os => cell_regrown s2 d os
        have t0 := fun d os => cell_regrown t0 d os
        have t1 := fun d os => cell_regrown t1 d os
        have t2 := fun d os => cell_regrown t2 d os
        refine wp_region_quiet_below (by kernel_rfl) (by kernel_rfl) ?_
        repeat (go_big_quiet_step (fail))
        refine wpQuiet_nil ?_
        intro _ hw'
        obtain ⟨⟨dq, osq⟩, hw''⟩ := hw'
        subst hw''
        have hq := below_regrown WY dq osq
        have R9 := Lib.hid (R9.out.then_ hq)
        have R11 := Lib.hid (R11.out.then_ hq)
        have KW := Lib.hid (below_step KW.out hq)
        clear hq s0 s1 s2 t0 t1 t2
        generalize hWY : grow (redrawn WY dq) osq = WX at *
        clear hWY
        go_upto_region 19 with fail
        obtain ⟨b1, o1, v1, hA1, _, _, hv1, _, ⟨s0, s1, s2⟩⟩ := (Vls.up T0.out KW.out).at_ (j := 0) (by omega)
        injection hA1 with hA1
        injection hA1 with hA2 hA3
        subst hA2 hA3
        simp at hv1
        subst hv1
        obtain ⟨b2, o2, v2, hB1, _, _, hv2, _, ⟨t0, t1, t2⟩⟩ := (Vls.up T1.out KW.out).at_ (j := 0) (by omega)
        injection hB1 with hB1
        injection hB1 with hB2 hB3
        subst hB2 hB3
        simp at hv2
        subst hv2
        simp only [Nat.zero_mul, Nat.add_zero] at s0 s1 s2 t0 t1 t2
        have s0 := fun d os => cell_regrown s0 d os
        have s1 := fun d os => cell_regrown s1 d os
        have s2 := fun d os => cell_regrown s2 d os
        have t0 := fun d os => cell_regrown t0 d os
        have t1 := fun d os => cell_regrown t1 d os
        have t2 := fun d os => cell_regrown t2 d os
        obtain ⟨x00, x01, x02⟩ := R9.out.grown
        obtain ⟨x10, x11, x12⟩ := R11.out.grown
        have Q0 := Lib.hid (fun d os => Calls.regrown_of (w := WX) (d := d) (os := os) (ltruth_any be _))
        have Q1 := Lib.hid (fun d os => Calls.regrown_of (w := WX) (d := d) (os := os) (ltruth_any lb _))
        have Q2 := Lib.hid (fun d os => Calls.regrown_of (w := WX) (d := d) (os := os) (eruns_any _))
        have e0 := fun W => (val_eq 1 (truthN be) 1 (truthN be) ⟨#[]⟩ ⟨#[]⟩ W).trans (by rw [veq_true rfl])
        have e1 := fun W => (val_eq 1 (truthN lb) 1 (truthN lb) ⟨#[]⟩ ⟨#[]⟩ W).trans (by rw [veq_true rfl])
        refine wp_region_quiet_below (by kernel_rfl) (by kernel_rfl) ?_
        repeat (go_big_quiet_step (first | (go_at_call 32; with_reducible exact Q0.out _ _) | (go_at_call 32; with_reducible exact Q1.out _ _) | (go_at_call 5; with_reducible exact Q2.out _ _)))
        refine wpQuiet_nil ?_
        intro _ hw'
        obtain ⟨⟨dq, osq⟩, hw''⟩ := hw'
        subst hw''
        have hq := below_regrown WX dq osq
        clear x00 x01 x02 x10 x11 x12 Q0 Q1 Q2 e0 e1
        go_wp2_with fail
        go_ret
        exact ⟨rfl, below_step BW.out (below_step KW.out hq)⟩
      rw [if_neg hle0] at v7
      have HV7 := Lib.hid v7
      have hle1 : (le != 0) = true := by rw [bne_iff_ne]; exact hle0
      have hle2 : (le == 0) = false := by rw [beq_eq_false_iff_ne]; exact hle0
      clear v7 hle0
      go_wp2_with fail
      refine (bagc_is HB0.out (Vls.up T0.out KW.out)).mono ?_
      rintro e u1 ⟨rfl, hb⟩
      have KW := Lib.hid (below_step KW.out hb)
      clear hb
      go_wp2_with fail
      refine (bagc_is HB1.out (Vls.up T1.out KW.out)).mono ?_
      rintro e u2 ⟨rfl, hb⟩
      have KW := Lib.hid (below_step KW.out hb)
      clear hb
      have GV := Lib.hid (pair_gvs (w := u2) (Vls.up T0.out KW.out) (Vls.up T1.out KW.out))
      go_wp2_with fail
      refine (lattr_any 3 ⟨#[97]⟩ _).mono ?_
      rintro e u3 ⟨rfl, hb⟩
      have KW := Lib.hid (below_step KW.out (Below.lit hb))
      have KG := Lib.hid (hb)
      clear hb
      go_wp2_with fail
      refine (lop_any 3 _).mono ?_
      rintro e u4 ⟨rfl, hb⟩
      have KW := Lib.hid (below_step KW.out hb)
      have KG := Lib.hid (below_step KG.out hb)
      clear hb
      go_wp2_with fail
      refine (lattr_any 4 ⟨#[98]⟩ _).mono ?_
      rintro e u5 ⟨rfl, hb⟩
      have KW := Lib.hid (below_step KW.out hb)
      have KG := Lib.hid (below_step KG.out hb)
      clear hb
      go_wp2_with fail
      refine (lop_any 3 _).mono ?_
      rintro e u6 ⟨rfl, hb⟩
      have KW := Lib.hid (below_step KW.out hb)
      have KG := Lib.hid (below_step KG.out hb)
      clear hb
      have X : Hid (Nds (u6.alloc (.cells #[.int .i64 2, .int .i64 0, .int .i64 0, .string ⟨#[]⟩, .int .i64 3, .string ⟨#[97]⟩, .bool false, .int .i64 3, .int .i64 0, .int .i64 0, .string ⟨#[]⟩, .int .i64 0, .string ⟨#[]⟩, .bool false, .int .i64 2, .int .i64 0, .int .i64 0, .string ⟨#[]⟩, .int .i64 4, .string ⟨#[98]⟩, .bool false, .int .i64 3, .int .i64 0, .int .i64 0, .string ⟨#[]⟩, .int .i64 0, .string ⟨#[]⟩, .bool false] 51)) (fun _ => True) (some ⟨u6.heap.size, 0, none⟩) 4 4 pairL) := nds_lit u6 pairL (by decide) pairL_ok
      have LW6 := Lib.hid ((below_al (o := (.cells #[.int .i64 2, .int .i64 0, .int .i64 0, .string ⟨#[]⟩, .int .i64 3, .string ⟨#[97]⟩, .bool false, .int .i64 3, .int .i64 0, .int .i64 0, .string ⟨#[]⟩, .int .i64 0, .string ⟨#[]⟩, .bool false, .int .i64 2, .int .i64 0, .int .i64 0, .string ⟨#[]⟩, .int .i64 4, .string ⟨#[98]⟩, .bool false, .int .i64 3, .int .i64 0, .int .i64 0, .string ⟨#[]⟩, .int .i64 0, .string ⟨#[]⟩, .bool false] 51)) KW.out)).size
      have LG6 := Lib.hid ((below_al (o := (.cells #[.int .i64 2, .int .i64 0, .int .i64 0, .string ⟨#[]⟩, .int .i64 3, .string ⟨#[97]⟩, .bool false, .int .i64 3, .int .i64 0, .int .i64 0, .string ⟨#[]⟩, .int .i64 0, .string ⟨#[]⟩, .bool false, .int .i64 2, .int .i64 0, .int .i64 0, .string ⟨#[]⟩, .int .i64 4, .string ⟨#[98]⟩, .bool false, .int .i64 3, .int .i64 0, .int .i64 0, .string ⟨#[]⟩, .int .i64 0, .string ⟨#[]⟩, .bool false] 51)) KG.out)).size
      have LX6 := Lib.hid ((Below.refl ((u6.alloc (.cells #[.int .i64 2, .int .i64 0, .int .i64 0, .string ⟨#[]⟩, .int .i64 3, .string ⟨#[97]⟩, .bool false, .int .i64 3, .int .i64 0, .int .i64 0, .string ⟨#[]⟩, .int .i64 0, .string ⟨#[]⟩, .bool false, .int .i64 2, .int .i64 0, .int .i64 0, .string ⟨#[]⟩, .int .i64 4, .string ⟨#[98]⟩, .bool false, .int .i64 3, .int .i64 0, .int .i64 0, .string ⟨#[]⟩, .int .i64 0, .string ⟨#[]⟩, .bool false] 51))).heap.size (u6.alloc (.cells #[.int .i64 2, .int .i64 0, .int .i64 0, .string ⟨#[]⟩, .int .i64 3, .string ⟨#[97]⟩, .bool false, .int .i64 3, .int .i64 0, .int .i64 0, .string ⟨#[]⟩, .int .i64 0, .string ⟨#[]⟩, .bool false, .int .i64 2, .int .i64 0, .int .i64 0, .string ⟨#[]⟩, .int .i64 4, .string ⟨#[98]⟩, .bool false, .int .i64 3, .int .i64 0, .int .i64 0, .string ⟨#[]⟩, .int .i64 0, .string ⟨#[]⟩, .bool false] 51)))).size
      obtain ⟨Ac6, cc6, u7, r, hb, oc⟩ := nds_copy (X.out.up (Below.refl ((u6.alloc (.cells #[.int .i64 2, .int .i64 0, .int .i64 0, .string ⟨#[]⟩, .int .i64 3, .string ⟨#[97]⟩, .bool false, .int .i64 3, .int .i64 0, .int .i64 0, .string ⟨#[]⟩, .int .i64 0, .string ⟨#[]⟩, .bool false, .int .i64 2, .int .i64 0, .int .i64 0, .string ⟨#[]⟩, .int .i64 4, .string ⟨#[98]⟩, .bool false, .int .i64 3, .int .i64 0, .int .i64 0, .string ⟨#[]⟩, .int .i64 0, .string ⟨#[]⟩, .bool false] 51))).heap.size (u6.alloc (.cells #[.int .i64 2, .int .i64 0, .int .i64 0, .string ⟨#[]⟩, .int .i64 3, .string ⟨#[97]⟩, .bool false, .int .i64 3, .int .i64 0, .int .i64 0, .string ⟨#[]⟩, .int .i64 0, .string ⟨#[]⟩, .bool false, .int .i64 2, .int .i64 0, .int .i64 0, .string ⟨#[]⟩, .int .i64 4, .string ⟨#[98]⟩, .bool false, .int .i64 3, .int .i64 0, .int .i64 0, .string ⟨#[]⟩, .int .i64 0, .string ⟨#[]⟩, .bool false] 51)))) (by decide)
      have RR63 := Lib.hid ((by rw [size_al] at r; exact r))
      have O6 := Lib.hid (oc)
      have S6 := Lib.hid (hb.size)
      have KW := Lib.hid (below_step KW.out (Below.lit hb))
      have KG := Lib.hid (below_step KG.out (Below.lit hb))
      have KX := Lib.hid (hb)
      clear hb r
      clear oc
      go_wp2_with (at_builtin; refine wpList_append_run (o := ⟨some 63, _, _, _, _, _⟩) rfl _ _ _ _ rfl rfl rfl RR63.out ?_)
      refine (lop_any 6 _).mono ?_
      rintro e u8 ⟨rfl, hb⟩
      have KW := Lib.hid (below_step KW.out hb)
      have KG := Lib.hid (below_step KG.out hb)
      have KX := Lib.hid (below_step KX.out hb)
      have KO6 := Lib.hid (hb)
      clear hb
      obtain ⟨Ad6, cd6, u9, r, hb, nd⟩ := nds_more (w := u8) O6.out S6.out KO6.out rfl pairL_ok [opB 6] (by decide) (by decide)
      have RR66 := Lib.hid (r)
      have ND6 := Lib.hid (nd)
      have KW := Lib.hid (KW.out.trans (hb.mono LW6.out))
      have KG := Lib.hid (KG.out.trans (hb.mono LG6.out))
      have KX := Lib.hid (KX.out.trans (hb.mono LX6.out))
      clear hb r
      clear nd
      go_wp2_with (at_builtin; refine wpList_append_run (o := ⟨some 66, _, _, _, _, _⟩) rfl _ _ _ _ rfl rfl rfl RR66.out ?_)
      refine (eval_is HV6.out ND6.out (GV.out.up KG.out) HSH.out).mono ?_
      rintro e u10 ⟨rfl, hb⟩
      have KW := Lib.hid (below_step KW.out hb)
      have KG := Lib.hid (below_step KG.out hb)
      have KX := Lib.hid (below_step KX.out hb)
      clear hb
      have R9 := Lib.hid (Bx.made u10 1 (truthN be) ⟨#[]⟩)
      have LW7 := Lib.hid ((below_al (o := (.cells #[.int .i64 1, .int .i64 (truthN be), .string ⟨#[]⟩] 42)) KW.out)).size
      have LG7 := Lib.hid ((below_al (o := (.cells #[.int .i64 1, .int .i64 (truthN be), .string ⟨#[]⟩] 42)) KG.out)).size
      have LX7 := Lib.hid ((below_al (o := (.cells #[.int .i64 1, .int .i64 (truthN be), .string ⟨#[]⟩] 42)) KX.out)).size
      have L9 := Lib.hid ((Below.refl ((u10.alloc (.cells #[.int .i64 1, .int .i64 (truthN be), .string ⟨#[]⟩] 42))).heap.size (u10.alloc (.cells #[.int .i64 1, .int .i64 (truthN be), .string ⟨#[]⟩] 42)))).size
      obtain ⟨Ac7, cc7, u11, r, hb, oc⟩ := nds_copy (X.out.up (below_al (o := (.cells #[.int .i64 1, .int .i64 (truthN be), .string ⟨#[]⟩] 42)) KX.out)) (by decide)
      have RR74 := Lib.hid ((by rw [size_al] at r; exact r))
      have O7 := Lib.hid (oc)
      have S7 := Lib.hid (hb.size)
      have KW := Lib.hid (below_step KW.out (Below.lit hb))
      have KG := Lib.hid (below_step KG.out (Below.lit hb))
      have KX := Lib.hid (below_step KX.out (Below.lit hb))
      have K9 := Lib.hid (hb)
      clear hb r
      clear oc
      go_wp2_with (at_builtin; refine wpList_append_run (o := ⟨some 74, _, _, _, _, _⟩) rfl _ _ _ _ rfl rfl rfl RR74.out ?_)
      refine (lop_any 7 _).mono ?_
      rintro e u12 ⟨rfl, hb⟩
      have KW := Lib.hid (below_step KW.out hb)
      have KG := Lib.hid (below_step KG.out hb)
      have KX := Lib.hid (below_step KX.out hb)
      have K9 := Lib.hid (below_step K9.out hb)
      have KO7 := Lib.hid (hb)
      clear hb
      obtain ⟨Ad7, cd7, u13, r, hb, nd⟩ := nds_more (w := u12) O7.out S7.out KO7.out rfl pairL_ok [opB 7] (by decide) (by decide)
      have RR77 := Lib.hid (r)
      have ND7 := Lib.hid (nd)
      have KW := Lib.hid (KW.out.trans (hb.mono LW7.out))
      have KG := Lib.hid (KG.out.trans (hb.mono LG7.out))
      have KX := Lib.hid (KX.out.trans (hb.mono LX7.out))
      have K9 := Lib.hid (K9.out.trans (hb.mono L9.out))
      clear hb r
      clear nd
      go_wp2_with (at_builtin; refine wpList_append_run (o := ⟨some 77, _, _, _, _, _⟩) rfl _ _ _ _ rfl rfl rfl RR77.out ?_)
      refine (eval_is HV7.out ND7.out (GV.out.up KG.out) HSH.out).mono ?_
      rintro e u14 ⟨rfl, hb⟩
      have KW := Lib.hid (below_step KW.out hb)
      have KG := Lib.hid (below_step KG.out hb)
      have KX := Lib.hid (below_step KX.out hb)
      have K9 := Lib.hid (below_step K9.out hb)
      clear hb
      have R11 := Lib.hid (Bx.made u14 0 0 ⟨#[]⟩)
      have KW := Lib.hid ((below_al (o := (.cells #[.int .i64 0, .int .i64 0, .string ⟨#[]⟩] 42)) KW.out))
      have R9 := Lib.hid (R9.out.then_ (below_al (o := (.cells #[.int .i64 0, .int .i64 0, .string ⟨#[]⟩] 42)) K9.out))
      go_upto_region 16 with fail
      generalize hWZ : (u14.alloc (.cells #[.int .i64 0, .int .i64 0, .string ⟨#[]⟩] 42)) = WZ at *
      clear hWZ
      obtain ⟨b1, o1, v1, hA1, _, _, hv1, _, ⟨s0, s1, s2⟩⟩ := (Vls.up T0.out KW.out).at_ (j := 0) (by omega)
      injection hA1 with hA1
      injection hA1 with hA2 hA3
      subst hA2 hA3
      simp at hv1
      subst hv1
      obtain ⟨b2, o2, v2, hB1, _, _, hv2, _, ⟨t0, t1, t2⟩⟩ := (Vls.up T1.out KW.out).at_ (j := 0) (by omega)
      injection hB1 with hB1
      injection hB1 with hB2 hB3
      subst hB2 hB3
      simp at hv2
      subst hv2
      simp only [Nat.zero_mul, Nat.add_zero] at s0 s1 s2 t0 t1 t2
      have s0 := fun d os => cell_regrown s0 d os
      have s1 := fun d os => cell_regrown s1 d os
      have s2 := fun d os => cell_regrown s2 d os
      have t0 := fun d os => cell_regrown t0 d os
      have t1 := fun d os => cell_regrown t1 d os
      have t2 := fun d os => cell_regrown t2 d os
      have Q0 := Lib.hid (fun d os => Calls.regrown_of (w := WZ) (d := d) (os := os) (HLX.out _))
      refine wp_region_quiet_below (by kernel_rfl) (by kernel_rfl) ?_
      repeat (go_big_quiet_step (first | (go_at_call 38; with_reducible exact Q0.out _ _)))
      refine wpQuiet_nil ?_
      intro _ hw'
      obtain ⟨⟨dq, osq⟩, hw''⟩ := hw'
      subst hw''
      have hq := below_regrown WZ dq osq
      clear Q0
      have R9 := Lib.hid (R9.out.then_ hq)
      have R11 := Lib.hid (R11.out.then_ hq)
      have KW := Lib.hid (below_step KW.out hq)
      clear hq s0 s1 s2 t0 t1 t2
      generalize hWY : grow (redrawn WZ dq) osq = WY at *
      clear hWY
      go_upto_region 17 with fail
      obtain ⟨b1, o1, v1, hA1, _, _, hv1, _, ⟨s0, s1, s2⟩⟩ := (Vls.up T0.out KW.out).at_ (j := 0) (by omega)
      injection hA1 with hA1
      injection hA1 with hA2 hA3
      subst hA2 hA3
      simp at hv1
      subst hv1
      obtain ⟨b2, o2, v2, hB1, _, _, hv2, _, ⟨t0, t1, t2⟩⟩ := (Vls.up T1.out KW.out).at_ (j := 0) (by omega)
      injection hB1 with hB1
      injection hB1 with hB2 hB3
      subst hB2 hB3
      simp at hv2
      subst hv2
      simp only [Nat.zero_mul, Nat.add_zero] at s0 s1 s2 t0 t1 t2
      have s0 := fun d os => cell_regrown s0 d os
      have s1 := fun d os => cell_regrown s1 d os
      have s2 := fun d os => cell_regrown s2 d os
      have t0 := fun d os => cell_regrown t0 d os
      have t1 := fun d os => cell_regrown t1 d os
      have t2 := fun d os => cell_regrown t2 d os
      refine wp_region_quiet_below (by kernel_rfl) (by kernel_rfl) ?_
      repeat (go_big_quiet_step (fail))
      refine wpQuiet_nil ?_
      intro _ hw'
      obtain ⟨⟨dq, osq⟩, hw''⟩ := hw'
      subst hw''
      have hq := below_regrown WY dq osq
      have R9 := Lib.hid (R9.out.then_ hq)
      have R11 := Lib.hid (R11.out.then_ hq)
      have KW := Lib.hid (below_step KW.out hq)
      clear hq s0 s1 s2 t0 t1 t2
      generalize hWY : grow (redrawn WY dq) osq = WX at *
      clear hWY
      go_upto_region 19 with fail
      obtain ⟨b1, o1, v1, hA1, _, _, hv1, _, ⟨s0, s1, s2⟩⟩ := (Vls.up T0.out KW.out).at_ (j := 0) (by omega)
      injection hA1 with hA1
      injection hA1 with hA2 hA3
      subst hA2 hA3
      simp at hv1
      subst hv1
      obtain ⟨b2, o2, v2, hB1, _, _, hv2, _, ⟨t0, t1, t2⟩⟩ := (Vls.up T1.out KW.out).at_ (j := 0) (by omega)
      injection hB1 with hB1
      injection hB1 with hB2 hB3
      subst hB2 hB3
      simp at hv2
      subst hv2
      simp only [Nat.zero_mul, Nat.add_zero] at s0 s1 s2 t0 t1 t2
      have s0 := fun d os => cell_regrown s0 d os
      have s1 := fun d os => cell_regrown s1 d os
      have s2 := fun d os => cell_regrown s2 d os
      have t0 := fun d os => cell_regrown t0 d os
      have t1 := fun d os => cell_regrown t1 d os
      have t2 := fun d os => cell_regrown t2 d os
      obtain ⟨x00, x01, x02⟩ := R9.out.grown
      obtain ⟨x10, x11, x12⟩ := R11.out.grown
      have Q0 := Lib.hid (fun d os => Calls.regrown_of (w := WX) (d := d) (os := os) (ltruth_any be _))
      have Q1 := Lib.hid (fun d os => Calls.regrown_of (w := WX) (d := d) (os := os) (eruns_any _))
      have e0 := fun W => (val_eq 1 (truthN be) 1 (truthN be) ⟨#[]⟩ ⟨#[]⟩ W).trans (by rw [veq_true rfl])
      refine wp_region_quiet_below (by kernel_rfl) (by kernel_rfl) ?_
      repeat (go_big_quiet_step (first | (go_at_call 32; with_reducible exact Q0.out _ _) | (go_at_call 5; with_reducible exact Q1.out _ _)))
      refine wpQuiet_nil ?_
      intro _ hw'
      obtain ⟨⟨dq, osq⟩, hw''⟩ := hw'
      subst hw''
      have hq := below_regrown WX dq osq
      clear x00 x01 x02 x10 x11 x12 Q0 Q1 e0
      go_wp2_with fail
      go_ret
      exact ⟨rfl, below_step BW.out (below_step KW.out hq)⟩
end Go.Proofs.Ytmpldpfgnakbkaa
