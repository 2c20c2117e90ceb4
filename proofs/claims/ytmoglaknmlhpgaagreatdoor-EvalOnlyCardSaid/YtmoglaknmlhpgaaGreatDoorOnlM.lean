/- Several texts in one: HTail, ExprVal, ExprCond, MarkIndets. -/
import Derived.StillTail
import Derived.OrdersHeld
import Derived.RegionTactic
import Derived.Test.YtmoglaknmlhpgaaGreatDoorOnlA
import Derived.Test.YtmoglaknmlhpgaaGreatDoorOnlL
import Derived.Test.YtmoglaknmlhpgaaGreatDoorOnlD
import Derived.Test.YtmoglaknmlhpgaaGreatDoorOnlB
import Derived.Deep.CutRange
import Derived.Test.YtmoglaknmlhpgaaGreatDoorOnlF
/- A region that draws its order: its head, in whatever order, under a condition on the world (loads that it tells are taken first); and a forced tail, that may break the condition. -/
namespace Go.Proofs.YtmoglaknmlhpgaaGreatDoor
open Go Go.RowKit

section
variable {P : Program} {ops : Array Oper} {md : Region.Mode} {Q : Exit → Act → World → Prop} {S : World → Prop} {L : Array Bool → Act → World → Prop} {n : Nat}

def HeadS (P : Program) (md : Region.Mode) (ops : Array Oper) (Q : Exit → Act → World → Prop) (S : World → Prop) (n : Nat) (L : Array Bool → Act → World → Prop) : Nat → Array Bool → Act → World → Prop
 | 0, listed, a, w => L listed a w
 | f + 1, listed, a, w => Region.ready md ops listed ≠ [] ∧ ∀ i ∈ Region.ready md ops listed, i < n ∧ wpOp P ops Q i (fun a' w' => S w' ∧ HeadS P md ops Q S n L f (listed.setIfInBounds i true) a' w') a w

theorem HeadS.any {g : Nat} (hL : ∀ listed a w, L listed a w → wpAny P md ops Q g listed a w) :
  ∀ (f : Nat) (listed : Array Bool) (a : Act) (w : World), HeadS P md ops Q S n L f listed a w → wpAny P md ops Q (f + g) listed a w
 | 0, _, _, _, h => by rw [Nat.zero_add]; exact hL _ _ _ h
 | f + 1, _, _, _, h => by
  rw [show f + 1 + g = (f + g) + 1 by omega]
  exact ⟨fun h0 => absurd h0 h.1, fun i hi => wpOp_mono (fun a' w' h' => HeadS.any hL f _ a' w' h'.2) (h.2 i hi).2⟩

theorem HeadS.first {i : Nat} {oi : Oper} {v : Value} (hi : ops[i]? = some oi) (hsel : ∀ (j : Nat) (o : Oper) cs b, ops[j]? = some o → o.op ≠ .select cs b)
  (hQ : ∀ c a w, Q (.panic c) (a.put oi.dst v) w → Q (.panic c) a w)
  (hs : Region.sinkB md ops n = true) (hc : Region.chainB md ops n = true) (hn : n < ops.size) (hin : i < n) (hdone : ∀ listed a w, L listed a w → ∀ j ∈ Region.ready md ops listed, n ≤ j) :
  ∀ (f : Nat) (listed : Array Bool) (a : Act) (w : World), HeadInv md ops n listed →
   (∀ j oj, ops[j]? = some oj → j ≠ i → listed.getD j true = false → (∀ e ∈ oj.after, Region.binds md e = true → e.on ≠ i) → oi.apart ops oj = true) →
   i ∈ Region.ready md ops listed → YieldsIf P ops S oi v a → S w → HeadS P md ops Q S n L f (listed.setIfInBounds i true) (a.put oi.dst v) w → HeadS P md ops Q S n L (f + 1) listed a w := by
 intro f
 induction f with
 | zero =>
  intro listed a w inv _ hr hy hS H
  refine ⟨fun h => (by rw [h] at hr; cases hr), fun j hj => ?_⟩
  have hjn : j < n := Nat.lt_of_not_le fun h => tail_waits hs hc hn inv _ i rfl hin (mem_ready.1 hr).1 j h hj
  refine ⟨hjn, ?_⟩
  by_cases hji : j = i
  ·subst hji; exact hy.wpOp hi hS ⟨hS, H⟩
  ·have := hdone _ _ _ H j (ready_mono hj hji)
   omega
 | succ f ih =>
  intro listed a w inv hfree hr hy hS H
  have hun := (mem_ready.1 hr).1
  refine ⟨fun h => (by rw [h] at hr; cases hr), fun j hj => ?_⟩
  have hjn : j < n := Nat.lt_of_not_le fun h => tail_waits hs hc hn inv _ i rfl hin hun j h hj
  refine ⟨hjn, ?_⟩
  by_cases hji : j = i
  ·subst hji; exact hy.wpOp hi hS ⟨hS, H⟩
  ·have h1 := (H.2 j (ready_mono hj hji)).2
   obtain ⟨hjun, oj, hoj, hall⟩ := mem_ready.1 hj
   have hnot : ∀ e ∈ oj.after, Region.binds md e = true → e.on ≠ i := fun e he hb heq => by
    have h1 := hall e he hb
    rw [heq, getD_both hun] at h1
    cases h1
   have h2 := wpOp_putIf hoj (hfree j oj hoj hji hjun hnot) (fun cs b => hsel i oi cs b hi) (fun cs b => hsel j oj cs b hoj) hQ hy h1
   have hfree' : ∀ k ok, ops[k]? = some ok → k ≠ i → (listed.setIfInBounds j true).getD k true = false →
     (∀ e ∈ ok.after, Region.binds md e = true → e.on ≠ i) → oi.apart ops ok = true := fun k ok hk hki hun' hno => by
    refine hfree k ok hk hki ?_ hno
    by_cases hjk : j = k
    ·subst hjk; exact hjun
    ·rw [getD_set_ne true hjk] at hun'; exact hun'
   refine wpOp_mono (fun a' w' h3 => ⟨h3.2.1, ih (listed.setIfInBounds j true) a' w' (inv.set hj hjn) hfree' (ready_mono hr (Ne.symm hji)) h3.1 h3.2.1 ?_⟩) h2
   rw [Array.setIfInBounds_comm _ _ hji]
   exact h3.2.2

def HeadW (P : Program) (md : Region.Mode) (ops : Array Oper) (Q : Exit → Act → World → Prop) (S : World → Prop) (n : Nat) (L : Array Bool → Act → World → Prop) (f : Nat) (listed : Array Bool) (a : Act) (w : World) : Prop :=
 HeadInv md ops n listed → HeadS P md ops Q S n L f listed a w
def HeadG (md : Region.Mode) (ops : Array Oper) (n : Nat) (L : Array Bool → Act → World → Prop) : Prop :=
 Region.noSelect ops = true ∧ Region.sinkB md ops n = true ∧ Region.chainB md ops n = true ∧ n < ops.size ∧ ∀ listed a w, L listed a w → ∀ j ∈ Region.ready md ops listed, n ≤ j

theorem HeadW_take {i : Nat} {oi : Oper} {v : Value} {f : Nat} {listed : Array Bool} {a : Act} {w : World} (G : HeadG md ops n L) (hi : ops[i]? = some oi)
  (hin : Nat.blt i n = true) (hf : Region.free md ops listed i = true) (hr : (Region.ready md ops listed).contains i = true)
  (hQ : ∀ c a w, Q (.panic c) (a.put oi.dst v) w → Q (.panic c) a w) (hy : YieldsIf P ops S oi v a) (hS : S w)
  (h : HeadW P md ops Q S n L f (listed.setIfInBounds i true) (a.put oi.dst v) w) : HeadW P md ops Q S n L (f + 1) listed a w := fun inv => by
 have hin' : i < n := by simpa using hin
 have hr' : i ∈ Region.ready md ops listed := by simpa using hr
 exact HeadS.first hi (Region.noSelect_spec G.1) hQ G.2.1 G.2.2.1 G.2.2.2.1 hin' G.2.2.2.2 f listed a w inv (Region.free_spec hi hf) hr' hy hS (h (inv.set hr' hin'))

def AllW (P : Program) (md : Region.Mode) (ops : Array Oper) (Q : Exit → Act → World → Prop) (S : World → Prop) (n : Nat) (L : Array Bool → Act → World → Prop) (f : Nat) (listed : Array Bool) (a : Act) (w : World) (rs : List Nat) : Prop :=
 ∀ i ∈ rs, wpOp P ops Q i (fun a' w' => S w' ∧ HeadW P md ops Q S n L f (listed.setIfInBounds i true) a' w') a w
theorem AllW.nil {f : Nat} {listed : Array Bool} {a : Act} {w : World} : AllW P md ops Q S n L f listed a w [] := fun _ h => by cases h
theorem AllW.cons {f : Nat} {listed : Array Bool} {a : Act} {w : World} {i : Nat} {o : Oper} {rs : List Nat} (ho : ops[i]? = some o)
  (h : ∀ K' : Act → World → Prop, (∀ a w, S w → HeadW P md ops Q S n L f (listed.setIfInBounds i true) a w → K' a w) → if Region.wanted o (yielded ops a.tmps) = true then Oper.wp P o a w K' Q else K' (a.put o.dst undef) w)
  (hs : AllW P md ops Q S n L f listed a w rs) : AllW P md ops Q S n L f listed a w (i :: rs) := fun j hj => by
 rcases List.mem_cons.1 hj with rfl | hj
 ·exact wpOp_step ho fun K' hK => h K' fun a w h1 h2 => hK a w ⟨h1, h2⟩
 ·exact hs j hj
theorem HeadW_ready {rs : List Nat} {f : Nat} {listed : Array Bool} {a : Act} {w : World} (hr : Region.ready md ops listed = rs) (hne : rs.isEmpty = false) (hin : rs.all (fun i => Nat.blt i n) = true)
  (h : AllW P md ops Q S n L f listed a w rs) : HeadW P md ops Q S n L (f + 1) listed a w := fun inv => by
 subst hr
 refine ⟨fun h0 => (by rw [h0] at hne; cases hne), fun i hi => ?_⟩
 have hin' : i < n := by simpa using List.all_eq_true.1 hin i hi
 exact ⟨hin', wpOp_mono (fun a' w' h' => ⟨h'.1, h'.2 (inv.set hi hin')⟩) (h i hi)⟩

def TailL (P : Program) (ops : Array Oper) (Q : Exit → Act → World → Prop) (n g : Nat) (r : List Oper) (listed : Array Bool) (a : Act) (w : World) : Prop := Region.seqB .any ops g n listed = true ∧ wpList P ops Q r a w

theorem wp_region_held_tail {id : Nat} {a : Act} {w : World} {l : List Oper} (S : World → Prop) (n : Nat) (hm : P.follows .mixedOrders = true)
  (hB : (Region.noSelect l.toArray && Nat.blt n l.length && Region.sinkB .any l.toArray n && Region.chainB .any l.toArray n) = true)
  (h : HeadG .any l.toArray n (TailL P l.toArray Q n (l.length - n) (l.drop n)) → HeadW P .any l.toArray Q S n (TailL P l.toArray Q n (l.length - n) (l.drop n)) n (Array.replicate l.toArray.size false) a { w with drawn := w.drawn + 1 }) :
  (Code.region id l.toArray true).wp P Q a w := by
 simp only [Bool.and_eq_true] at hB
 obtain ⟨⟨⟨hsel, hn⟩, hs⟩, hc⟩ := hB
 have hn' : n < l.length := by simpa using hn
 have hdl : (l.drop n).length = l.toArray.size - n := by simp
 have inv0 : HeadInv .any l.toArray n (Array.replicate l.toArray.size false) :=
  ⟨by simp, fun j oj _ hl => (by rw [getD_replicate_false] at hl; cases hl), fun t _ ht => getD_in (by simpa using ht) (getD_replicate_false _ _)⟩
 have H := h ⟨hsel, hs, hc, by simpa using hn', fun listed a w hL => seqB_ready hL.1⟩ inv0
 refine wp_region_any hm ?_
 have := HeadS.any (g := l.toArray.size - n) (fun listed a' w' hL => by
  have := wpAny_of_seq (md := .any) (Q' := Q) (l.drop n) n listed a' w' (fun j => by simp [List.getElem?_drop]) (by rw [hdl]; simpa using hL.1) hL.2
  rwa [hdl] at this) _ _ _ _ H
 rw [show n + (l.toArray.size - n) = l.toArray.size by simp; omega] at this
 exact this
end
end Go.Proofs.YtmoglaknmlhpgaaGreatDoor
/- expr.Value. -/
namespace Go.Proofs.YtmoglaknmlhpgaaGreatDoor
set_option linter.unusedVariables false
open Go.RowKit Go.Sort

theorem Gr.prts {w : World} {base n c : Nat} {A : Option Addr} {l : List Prt} (h : Gr 5 PartAt w base 222 A n c l) (hn : n ≤ 1000000) : Prts w (fun b => base ≤ b) A n c l := Gr.rw keeps_part h (by omega)
theorem round_part {ask : List Giv} {wr w1 : World} {base h c : Nat} {A A1 : Option Addr} {n1 c1 : Nat} {st : List Prt} {n : Nod} (G : Gr 5 PartAt wr base 222 A h c st) (hh : h ≤ 1000) (ht : takesN n.op ≤ h) (hn : n.v.ok)
  (hb : Below wr.heap.size wr w1) {lo : Nat} (hlo : wr.heap.size ≤ lo) (hv : Vls w1 (fun b => lo ≤ b) A1 n1 c1 (madeP ask n (st.drop (h - takesN n.op))).bag) :
  ∃ A' c' w', (Builtin.append_ #[220, 220] 220 #[.slice A (h - takesN n.op) c, .slice (some ⟨w1.heap.size, 0, none⟩) 1 1]).run Tryz.prog (w1.alloc (.cells #[.slice A1 n1 c1, .int .i64 (madeP ask n (st.drop (h - takesN n.op))).v.k, .int .i64 (madeP ask n (st.drop (h - takesN n.op))).v.n, .string (madeP ask n (st.drop (h - takesN n.op))).v.s, .int .i64 (madeP ask n (st.drop (h - takesN n.op))).e] 222)) = .ok (.slice A' (h - takesN n.op + 1) c') w' ∧
   Gr 5 PartAt w' base 222 A' (h - takesN n.op + 1) c' (stepP ask st n) ∧ Below base wr w' := by
 have hlen : st.length = h := Gr.len G
 have hok := madeP_ok (ask := ask) (of := st.drop (h - takesN n.op)) hn (fun p hp => (G.prts (by omega)).oks p (List.mem_of_mem_drop hp))
 have G1 := (Gr.below keeps_part G hb).take keeps_part (j := h - takesN n.op) (by omega)
 obtain ⟨A', c', w', r, g, b⟩ := push_part (p := madeP ask n (st.drop (h - takesN n.op))) G1 hok (hv.keep (Kept.refl _ _) (fun b hb' _ => by
  have := G.apart b (Nat.le_trans hlo hb')
  exact ⟨this.1, by rw [own_block A _ h c c]; exact this.2⟩)) (by omega)
 refine ⟨A', c', w', r, ?_, (hb.mono G.2).trans b⟩
 have : stepP ask st n = st.take (h - takesN n.op) ++ [madeP ask n (st.drop (h - takesN n.op))] := by unfold stepP; rw [hlen]
 rw [this]
 exact g

set_option maxRecDepth 100000 in
set_option maxHeartbeats 3200000 in
theorem eval_bad {ask : List Giv} {w : World} {R : Nat → Prop} {A : Option Addr} {n c : Nat} {l : List Nod} (h : Nds w R A n c l) (A2 : Option Addr) (n2 c2 : Nat) (hb : l = [] ∨ exprE l ≠ 0) :
    Calls Tryz.prog 126 #[.slice A n c, .slice A2 n2 c2] w fun e w' => e = .returned (.tuple #[(valP ask l).1.val, .int .i64 (valP ask l).2]) ∧ Below w.heap.size w w' := by
  have hle := Rw.le h
  have hcap := Rw.cap h
  unfold maxLen at hcap
  have HQ := Lib.hid (valP_bad (ask := ask) hb)
  have HX := Lib.hid (fun W (hW : Below w.heap.size w W) => expr_any W (h.keep (Kept.all hW R) (fun _ h _ => h)))
  have hlen := Rw.len h
  by_cases h0 : n = 0
  · subst h0
    clear h hb hlen HX
    go_enter Tryz.func126, Tryz.ntmps126
    go_wp2_with fail
    try simp only [Exit.inBlock, Exit.then]
    refine bodyPost_ret (box_ret2 rfl rfl rfl (Bx.made _ _ _ _)) rfl ?_
    exact ⟨eret_pair (v := noneV) HQ.out, below1 _ _⟩
  · have hz : ((n : Int) == 0) = false := by rw [beq_eq_false_iff_ne]; omega
    have he : exprE l ≠ 0 := hb.elim (fun e => absurd (by rw [← hlen, e]; rfl) h0) id
    have hne : (exprE l != 0) = true := by rw [bne_iff_ne]; exact he
    generalize exprE l = xe at *
    have HD := Lib.hid (below1 w (.cells #[.int .i64 0, .int .i64 0, .string ⟨#[]⟩] 31))
    clear h hb hlen he
    go_enter Tryz.func126, Tryz.ntmps126
    go_wp2_with (go_at_call 78; refine (HX.out _ HD.out).mono ?_; rintro e w1 ⟨rfl, hb1⟩
                 have R1 := Lib.hid ((Bx.made w 0 0 ⟨#[]⟩).then_ hb1)
                 have D1 := Lib.hid (Below.lit hb1)
                 have c0 := R1.out.c3
                 have f0 := R1.out.fz
                 clear hb1)
    try simp only [Exit.inBlock, Exit.then]
    refine bodyPost_ret (box_ret2 rfl rfl rfl (R1.out.put _ _ _)) rfl ?_
    exact ⟨eret_pair (v := noneV) HQ.out, below_put D1.out (Nat.le_refl _) _ _ _⟩
set_option maxRecDepth 100000 in
set_option maxHeartbeats 6400000 in
theorem eval_good {ask : List Giv} {w : World} {R R2 : Nat → Prop} {A A2 : Option Addr} {n c n2 c2 : Nat} {l : List Nod} (h : Nds w R A n c l) (hA : Gvs w R2 A2 n2 c2 ask) (hG : ShortG ask) (h0 : l ≠ []) (he : exprE l = 0) :
    Calls Tryz.prog 126 #[.slice A n c, .slice A2 n2 c2] w fun e w' => e = .returned (.tuple #[(valP ask l).1.val, .int .i64 (valP ask l).2]) ∧ Below w.heap.size w w' := by
  have hle := Rw.le h
  have hcap := Rw.cap h
  unfold maxLen at hcap
  have hl32 := (exprE_ok he h0).1
  have HL := Lib.hid (Rw.len h)
  have hn32 : n ≤ 32 := by have := HL.out; omega
  have HX := Lib.hid (fun W (hW : Below w.heap.size w W) => expr_any W (h.keep (Kept.all hW R) (fun _ h _ => h)))
  have hz : ((n : Int) == 0) = false := by rw [beq_eq_false_iff_ne]; have : l.length ≠ 0 := fun e => h0 (List.eq_nil_of_length_eq_zero e); have := HL.out; omega
  obtain ⟨pz, hpz, hvz⟩ := run_end (ask := ask) he h0
  have HEND := Lib.hid hpz
  have HV := Lib.hid hvz
  have HRUN := Lib.hid (fun (k : Nat) (x : Nod) (hx : l[k]? = some x) => run_at (ask := ask) he hx)
  have HND := Lib.hid (fun W (hW : Below w.heap.size w W) => h.keep (Kept.all hW R) (fun _ h _ => h))
  have HGV := Lib.hid (fun W (hW : Below w.heap.size w W) => hA.keep (Kept.all hW R2) (fun _ h _ => h))
  have HG := Lib.hid hG
  rw [he] at HX
  have HD := Lib.hid (below1 w (.cells #[.int .i64 0, .int .i64 0, .string ⟨#[]⟩] 31))
  generalize valP ask l = rr at *
  clear h hA hG h0 he hpz hvz hl32
  go_enter Tryz.func126, Tryz.ntmps126
  go_wp2_with (go_at_call 78; refine (HX.out _ HD.out).mono ?_; rintro e w1 ⟨rfl, hb1⟩
               have R1 := Lib.hid ((Bx.made w 0 0 ⟨#[]⟩).then_ hb1)
               have D1 := Lib.hid (Below.lit hb1)
               have Z1 := Lib.hid (Nat.lt_of_lt_of_le (Nat.lt_succ_self _) (size_al w (.cells #[.int .i64 0, .int .i64 0, .string ⟨#[]⟩] 31) ▸ hb1.size))
               clear hb1)
  go_loopw [6, 21] (fun out i wr => ∃ (k h : Nat) (A' : Option Addr) (c' : Nat), k ≤ n ∧ i = .int .i64 k ∧ out = .slice A' h c' ∧ Gr 5 PartAt wr (w.heap.size + 1) 222 A' h c' (runP ask (l.take k) []) ∧ Below (w.heap.size + 1) w1 wr) (fun out i _ => n - (intOf i).toNat)
  case atStart => exact ⟨0, 0, none, 0, Nat.zero_le _, rfl, rfl, Gr.nil _ _ Z1.out, Below.refl _ _⟩
  case round =>
    obtain ⟨k, hh, A', c', hk, rfl, rfl, hgr, hb⟩ := hrel
    have HGR := Lib.hid hgr
    have HB := Lib.hid hb
    have HW := Lib.hid (D1.out.trans (hb.mono (Nat.le_succ _)))
    have R2 := Lib.hid (R1.out.below hb (Nat.lt_succ_self _))
    clear hgr hb
    by_cases hlt : k < n
    · obtain ⟨b, o, x, rfl, hRb, hbl, hx, hok, c0, c1, c2', c3, c4, c5, c6⟩ := (HND.out wr HW.out).at_ hlt
      obtain ⟨ht, hst, hsx, hhk⟩ := HRUN.out k x hx
      have hlen : (runP ask (l.take k) []).length = hh := Gr.len HGR.out
      rw [hlen] at ht hhk
      generalize runP ask (l.take k) [] = st at *
      have HST := Lib.hid hst
      have HOK := Lib.hid hok
      have hhc : hh ≤ c' := Rw.le (HGR.out.prts (by omega))
      have hcm : c' ≤ maxLen := Rw.cap (HGR.out.prts (by omega))
      unfold maxLen at hcm
      have HTK := Lib.hid (etakes_any x.op)
      have d1 : Below wr.heap.size wr (wr.alloc (.cells #[.int .i64 x.op, .int .i64 x.v.k, .int .i64 x.v.n, .string x.v.s, .int .i64 x.a.cat, .string x.a.name, .bool x.a.must] 81)) := below1 _ _
      have hpr := (HGR.out.prts (by omega)).up d1
      have ND := Lib.hid (Ob.made wr 81 #[.int .i64 x.op, .int .i64 x.v.k, .int .i64 x.v.n, .string x.v.s, .int .i64 x.a.cat, .string x.a.name, .bool x.a.must])
      have DD := Lib.hid d1
      have HM := Lib.hid (fun W (hW : Below (wr.alloc (.cells #[.int .i64 x.op, .int .i64 x.v.k, .int .i64 x.v.n, .string x.v.s, .int .i64 x.a.cat, .string x.a.name, .bool x.a.must] 81)).heap.size (wr.alloc (.cells #[.int .i64 x.op, .int .i64 x.v.k, .int .i64 x.v.n, .string x.v.s, .int .i64 x.a.cat, .string x.a.name, .bool x.a.must] 81)) W) =>
        emade_any (ask := ask) x hsx W ((hpr.up hW).drop (m := hh - takesN x.op) (by omega)) (by omega) (HGV.out W (HW.out.trans ((DD.out.trans (hW.mono DD.out.size)).mono HW.out.size))) HG.out)
      have HR := Lib.hid (fun w1 (hb : Below wr.heap.size wr w1) A1 n1 c1 lo hlo hv => round_part (ask := ask) (n := x) HGR.out (by omega) ht hok.2.1 hb (A1 := A1) (n1 := n1) (c1 := c1) (lo := lo) hlo hv)
      obtain ⟨pm, hpm⟩ : ∃ pm, pm = madeP ask x (st.drop (hh - takesN x.op)) := ⟨_, rfl⟩
      rw [← hpm] at HM HR
      obtain ⟨tk, htk⟩ : ∃ tk, tk = takesN x.op := ⟨_, rfl⟩
      rw [← htk] at HTK HM HR ht
      obtain ⟨xo, ⟨xk, xn, xs⟩, ⟨xc, xm, xu⟩⟩ := x
      simp only at c0 c1 c2' c3 c4 c5 c6 HTK ND DD HM
      unfold Nod.val at HM
      simp only at HM
      have hsub : IntKind.i64.wrap ((hh : Int) - (tk : Int)) = ((hh - tk : Nat) : Int) := by rw [IntKind.wrap_i64]; omega
      clear hpr d1 hx hok hst hsx hlen hRb hpm htk
      go_upto_region 8 with (go_at_call 151; refine (HTK.out _).mono ?_; rintro e w2 ⟨rfl, rfl⟩)
      generalize wr.alloc (.cells #[.int .i64 xo, .int .i64 xk, .int .i64 xn, .string xs, .int .i64 xc, .string xm, .bool xu] 81) = W1 at *
      have hjh : hh - tk ≤ hh := by omega
      generalize hh - tk = jj at *
      have q0 : (0 : Int) ≤ (jj : Int) := by omega
      have q1 : (jj : Int) ≤ (c' : Int) := by omega
      have q2 : (jj : Int) ≤ (hh : Int) := by omega
      generalize hAq : (if c' = jj then A' else A'.map (·.add (jj * 5))) = Aq at *
      have KN : Hid (∀ W, Below W1.heap.size W1 W → Ob W wr.heap.size 81 #[.int .i64 xo, .int .i64 xk, .int .i64 xn, .string xs, .int .i64 xc, .string xm, .bool xu]) := by
        show ∀ W, _ → _
        intro W hb
        exact ND.out.below hb ND.out.lt
      refine wp_region_held_tail (fun w' => Below W1.heap.size W1 w') 10 (by kernel_rfl) (by kernel_rfl) ?_
      intro G
      change HeadW _ _ _ _ _ _ _ _ _ _ (W1.drewN 1)
      have S0 := Lib.hid (below_drewN (Below.refl W1.heap.size W1) 1)
      generalize W1.drewN 1 = v0 at *
      refine HeadW_take (i := 0) (v := ?_) G rfl (by kernel_rfl) (by kernel_rfl) (by kernel_rfl) (fun _ _ _ h => h) (Or.inl ⟨by rfl, ?_⟩) S0.out ?_
      rotate_left
      · intro wz hS
        go_simp
        try with_reducible rfl
      refine HeadW_take (i := 1) (v := ?_) G rfl (by kernel_rfl) (by kernel_rfl) (by kernel_rfl) (fun _ _ _ h => h) (Or.inl ⟨by rfl, ?_⟩) S0.out ?_
      rotate_left
      · intro wz hS
        go_simp
        try with_reducible rfl
      refine HeadW_take (i := 2) (v := ?_) G rfl (by kernel_rfl) (by kernel_rfl) (by kernel_rfl) (fun _ _ _ h => h) (Or.inl ⟨by rfl, ?_⟩) S0.out ?_
      rotate_left
      · intro wz hS
        go_simp
        try with_reducible rfl
      refine HeadW_take (i := 3) (v := ?_) G rfl (by kernel_rfl) (by kernel_rfl) (by kernel_rfl) (fun _ _ _ h => h) (Or.inl ⟨by rfl, ?_⟩) S0.out ?_
      rotate_left
      · intro wz hS
        have hk0 := (KN.out _ hS).cell 0
        have hk1 := (KN.out _ hS).cell 1
        have hk2 := (KN.out _ hS).cell 2
        have hk3 := (KN.out _ hS).cell 3
        have hk4 := (KN.out _ hS).cell 4
        have hk5 := (KN.out _ hS).cell 5
        have hk6 := (KN.out _ hS).cell 6
        go_simp
        try with_reducible rfl
      refine HeadW_take (i := 4) (v := ?_) G rfl (by kernel_rfl) (by kernel_rfl) (by kernel_rfl) (fun _ _ _ h => h) (Or.inl ⟨by rfl, ?_⟩) S0.out ?_
      rotate_left
      · intro wz hS
        go_simp
        try with_reducible rfl
      refine HeadW_take (i := 5) (v := ?_) G rfl (by kernel_rfl) (by kernel_rfl) (by kernel_rfl) (fun _ _ _ h => h) (Or.inl ⟨by rfl, ?_⟩) S0.out ?_
      rotate_left
      · intro wz hS
        go_simp
        try with_reducible rfl
      refine HeadW_take (i := 6) (v := ?_) G rfl (by kernel_rfl) (by kernel_rfl) (by kernel_rfl) (fun _ _ _ h => h) (Or.inl ⟨by rfl, ?_⟩) S0.out ?_
      rotate_left
      · intro wz hS
        go_simp
        try rw [hAq]
        try with_reducible rfl
      refine HeadW_take (i := 7) (v := ?_) G rfl (by kernel_rfl) (by kernel_rfl) (by kernel_rfl) (fun _ _ _ h => h) (Or.inl ⟨by rfl, ?_⟩) S0.out ?_
      rotate_left
      · intro wz hS
        go_simp
        try with_reducible rfl
      refine HeadW_ready (rs := [8]) (by kernel_rfl) rfl rfl ?_
      refine AllW.cons rfl (fun K hK => ?_) AllW.nil
      go_simp
      refine (HM.out _ S0.out).mono ?_
      rintro e v2 ⟨A3, n3, c3, rfl, hb, hv⟩
      have S2 := Lib.hid (S0.out.trans (hb.mono S0.out.size))
      have hwv : Below wr.heap.size wr v2 := DD.out.trans (S2.out.mono DD.out.size)
      obtain ⟨A4, c4, v4, r4, g4, b4⟩ := HR.out v2 hwv A3 n3 c3 _ (Nat.le_trans DD.out.size S0.out.size) hv
      have R4 := Lib.hid r4
      have G4 := Lib.hid g4
      have B4 := Lib.hid (HB.out.trans b4)
      refine hK _ _ S2.out ?_
      clear hK K hb hv hwv r4 g4 b4
      refine HeadW_ready (rs := [9]) (by kernel_rfl) rfl rfl ?_
      refine AllW.cons rfl (fun K hK => ?_) AllW.nil
      go_simp
      refine hK _ _ (S2.out.alloc S2.out.size _) ?_
      clear hK K
      intro _
      refine ⟨by kernel_rfl, ?_⟩
      simp only [List.drop_succ_cons, List.drop_zero]
      at_builtin
      refine wpList_append_run rfl _ _ _ _ rfl rfl rfl R4.out ?_
      go_wp2_with fail
      go_roundw
      case rel => exact ⟨k + 1, jj + 1, A4, c4, by omega, by go_num, rfl, by rw [HST.out]; exact G4.out, B4.out⟩
      case measure => simp [intOf]; omega
    · obtain rfl : k = n := by omega
      have hg := HGR.out
      rw [List.take_of_length_le (by have := HL.out; omega), HEND.out] at hg
      obtain rfl : hh = 1 := (Gr.len hg).symm
      obtain ⟨b, o, x, Ax, nx, cx, rfl, hbb, _, hx, _, ⟨_, x1, x2, x3, x4⟩, _⟩ := (hg.prts (by omega)).at_ (j := 0) (by omega)
      simp at hx
      subst hx
      have hle' : 1 ≤ c' := Rw.le (hg.prts (by omega))
      obtain ⟨pb, ⟨pk, pn, ps⟩, pe⟩ := pz
      simp only [Nat.zero_mul, Nat.add_zero] at x1 x2 x3 x4
      have hbn : b ≠ w.heap.size := by omega
      clear hg
      go_upto_region 10 with fail
      refine wp_region_held_tail (fun w' => w'.heap[b]? = wr.heap[b]?) 9 (by kernel_rfl) (by kernel_rfl) ?_
      intro G
      change HeadW _ _ _ _ _ _ _ _ _ _ (wr.drewN 1)
      have S0 : Hid ((wr.drewN 1).heap[b]? = wr.heap[b]?) := rfl
      have R3 := Lib.hid (R2.out.drewN 1)
      have D3 := Lib.hid (below_drewN HW.out 1)
      generalize wr.drewN 1 = v0 at *
      refine HeadW_take (i := 0) (v := ?_) G rfl (by kernel_rfl) (by kernel_rfl) (by kernel_rfl) (fun _ _ _ h => h) (Or.inl ⟨by rfl, ?_⟩) S0.out ?_
      rotate_left
      · intro wz hS
        go_simp
        try with_reducible rfl
      refine HeadW_take (i := 1) (v := ?_) G rfl (by kernel_rfl) (by kernel_rfl) (by kernel_rfl) (fun _ _ _ h => h) (Or.inl ⟨by rfl, ?_⟩) S0.out ?_
      rotate_left
      · intro wz hS
        go_simp
        try with_reducible rfl
      refine HeadW_take (i := 2) (v := ?_) G rfl (by kernel_rfl) (by kernel_rfl) (by kernel_rfl) (fun _ _ _ h => h) (Or.inl ⟨by rfl, ?_⟩) S0.out ?_
      rotate_left
      · intro wz hS
        go_simp
        try with_reducible rfl
      refine HeadW_take (i := 3) (v := ?_) G rfl (by kernel_rfl) (by kernel_rfl) (by kernel_rfl) (fun _ _ _ h => h) (Or.inl ⟨by rfl, ?_⟩) S0.out ?_
      rotate_left
      · intro wz hS
        have y1 := (World.cell?_of_block hS).trans x1
        have y2 := (World.cell?_of_block hS).trans x2
        have y3 := (World.cell?_of_block hS).trans x3
        have y4 := (World.cell?_of_block hS).trans x4
        go_simp
        try with_reducible rfl
      refine HeadW_take (i := 4) (v := ?_) G rfl (by kernel_rfl) (by kernel_rfl) (by kernel_rfl) (fun _ _ _ h => h) (Or.inl ⟨by rfl, ?_⟩) S0.out ?_
      rotate_left
      · intro wz hS
        go_simp
        try with_reducible rfl
      refine HeadW_take (i := 5) (v := ?_) G rfl (by kernel_rfl) (by kernel_rfl) (by kernel_rfl) (fun _ _ _ h => h) (Or.inl ⟨by rfl, ?_⟩) S0.out ?_
      rotate_left
      · intro wz hS
        go_simp
        try with_reducible rfl
      refine HeadW_take (i := 6) (v := ?_) G rfl (by kernel_rfl) (by kernel_rfl) (by kernel_rfl) (fun _ _ _ h => h) (Or.inl ⟨by rfl, ?_⟩) S0.out ?_
      rotate_left
      · intro wz hS
        go_simp
        try with_reducible rfl
      refine HeadW_take (i := 7) (v := ?_) G rfl (by kernel_rfl) (by kernel_rfl) (by kernel_rfl) (fun _ _ _ h => h) (Or.inl ⟨by rfl, ?_⟩) S0.out ?_
      rotate_left
      · intro wz hS
        have y1 := (World.cell?_of_block hS).trans x1
        have y2 := (World.cell?_of_block hS).trans x2
        have y3 := (World.cell?_of_block hS).trans x3
        have y4 := (World.cell?_of_block hS).trans x4
        go_simp
        try with_reducible rfl
      have c0 := R3.out.c3
      have f0 := R3.out.fz
      have R4 := R3.out.put pk pn ps
      have f1 := (R3.out.put pk pn ps).fz
      refine HeadW_ready (rs := [8]) (by kernel_rfl) rfl rfl ?_
      refine AllW.cons rfl (fun K hK => ?_) AllW.nil
      go_simp
      refine hK _ _ (by
        show (World.heap _)[b]? = _
        rw [Below.heap_setCell _ _ _ _ (by show b ≠ w.heap.size; exact hbn), Below.heap_setCell _ _ _ _ (by show b ≠ w.heap.size; exact hbn), Below.heap_setCell _ _ _ _ (by show b ≠ w.heap.size; exact hbn)]
        exact S0.out) ?_
      clear hK K
      intro _
      refine ⟨by kernel_rfl, ?_⟩
      simp only [List.drop_succ_cons, List.drop_zero]
      go_wp2_with fail
      try simp only [Exit.inBlock, Exit.then]
      refine bodyPost_ret (box_ret2 rfl rfl rfl (R3.out.put _ _ _)) rfl ?_
      exact ⟨eret_pair HV.out, below_put D3.out (Nat.le_refl _) _ _ _⟩
theorem eval_any {ask : List Giv} {w : World} {R R2 : Nat → Prop} {A A2 : Option Addr} {n c n2 c2 : Nat} {l : List Nod} (h : Nds w R A n c l) (hA : Gvs w R2 A2 n2 c2 ask) (hG : ShortG ask) :
  Calls Tryz.prog 126 #[.slice A n c, .slice A2 n2 c2] w fun e w' => e = .returned (.tuple #[(valP ask l).1.val, .int .i64 (valP ask l).2]) ∧ Below w.heap.size w w' := by
 by_cases h0 : l = []
 ·exact eval_bad h A2 n2 c2 (.inl h0)
 ·by_cases he : exprE l = 0
  ·exact eval_good h hA hG h0 he
  ·exact eval_bad h A2 n2 c2 (.inr he)
end Go.Proofs.YtmoglaknmlhpgaaGreatDoor
/- expr.Cond. -/
namespace Go.Proofs.YtmoglaknmlhpgaaGreatDoor
set_option linter.unusedVariables false
open Go.RowKit Go.Sort

theorem etruth_t (w : World) : Calls Tryz.prog 127 #[.bool true] w fun e w' => e = .returned (.agg #[.int .i64 1, .int .i64 1, .string ⟨#[]⟩]) ∧ Below w.heap.size w w' := etruth_any true w
theorem etruth_f (w : World) : Calls Tryz.prog 127 #[.bool false] w fun e w' => e = .returned (.agg #[.int .i64 1, .int .i64 0, .string ⟨#[]⟩]) ∧ Below w.heap.size w w' := etruth_any false w
theorem condV_veq (k m : Int) (s : ByteArray) : condV ⟨k, m, s⟩ = if veq ⟨k, m, s⟩ ⟨1, 1, ⟨#[]⟩⟩ = true then 2 else if veq ⟨k, m, s⟩ ⟨1, 0, ⟨#[]⟩⟩ = true then 0 else 1 := by
 rcases condV_cases ⟨k, m, s⟩ with ⟨h1, h2⟩ | ⟨h1, h2⟩ | ⟨⟨h1, h3⟩, h2⟩ <;> rw [h2]
 ·have ht : veq ⟨k, m, s⟩ ⟨1, 1, ⟨#[]⟩⟩ = true := veq_true h1
  rw [ht, if_pos rfl]
 ·have hne : veq ⟨k, m, s⟩ ⟨1, 1, ⟨#[]⟩⟩ = false := veq_false (by rw [h1]; exact truth_ne.symm)
  have ht : veq ⟨k, m, s⟩ ⟨1, 0, ⟨#[]⟩⟩ = true := veq_true h1
  rw [hne, if_neg (by simp), ht, if_pos rfl]
 ·have hne : veq ⟨k, m, s⟩ ⟨1, 1, ⟨#[]⟩⟩ = false := veq_false h1
  have hnf : veq ⟨k, m, s⟩ ⟨1, 0, ⟨#[]⟩⟩ = false := veq_false h3
  rw [hne, hnf, if_neg (by simp), if_neg (by simp)]
set_option maxRecDepth 100000 in
set_option maxHeartbeats 3200000 in
theorem econd_any {ask : List Giv} {w : World} {R R2 : Nat → Prop} {A A2 : Option Addr} {n c n2 c2 : Nat} {l : List Nod} (h : Nds w R A n c l) (hA : Gvs w R2 A2 n2 c2 ask) (hG : ShortG ask) :
  Calls Tryz.prog 99 #[.slice A n c, .slice A2 n2 c2] w fun e w' => e = .returned (.int .i64 (condP ask l)) ∧ Below w.heap.size w w' := by
 have hle := Rw.le h
 have hcap := Rw.cap h
 have hlen := Rw.len h
 unfold maxLen at hcap
 have HVAL := Lib.hid (eval_any h hA hG)
 by_cases h0 : n = 0
 ·subst h0
  have hl : l = [] := List.eq_nil_of_length_eq_zero hlen
  have HQ : Hid (condP ask l = 2) := by show _ = _; unfold condP; rw [if_pos hl]
  clear h hA HVAL hlen
  go_enter Tryz.func99, Tryz.ntmps99
  go_wp2_with fail
  go_ret
  exact ⟨ret_int HQ.out.symm, Below.refl _ _⟩
 have hz : ((n : Int) == 0) = false := by rw [beq_eq_false_iff_ne]; omega
 have hl : l ≠ [] := by rintro rfl; exact h0 hlen.symm
 have HQ : Hid (condP ask l = condV (valP ask l).1) := condP_val hl
 generalize condP ask l = cc at *
 obtain ⟨⟨⟨k, m, s⟩, ee⟩, hp⟩ : ∃ q, q = valP ask l := ⟨_, rfl⟩
 rw [← hp] at HVAL HQ
 have HT := Lib.hid etruth_t
 have HF := Lib.hid etruth_f
 have e1 := fun W => val_eq k m 1 1 s ⟨#[]⟩ W
 have e2 := fun W => val_eq k m 1 0 s ⟨#[]⟩ W
 have HQ' : Hid (cc = if veq ⟨k, m, s⟩ ⟨1, 1, ⟨#[]⟩⟩ = true then 2 else if veq ⟨k, m, s⟩ ⟨1, 0, ⟨#[]⟩⟩ = true then 0 else 1) := by
  show _ = _
  rw [HQ.out]
  exact condV_veq k m s
 generalize veq ⟨k, m, s⟩ ⟨1, 1, ⟨#[]⟩⟩ = v1 at *
 generalize veq ⟨k, m, s⟩ ⟨1, 0, ⟨#[]⟩⟩ = v2 at *
 clear h hA hlen h0 hl hp HQ
 cases v1
 ·cases v2
  ·have hcc : cc = 1 := HQ'.out
   subst hcc
   go_enter Tryz.func99, Tryz.ntmps99
   go_wp2_with (first
    | (go_at_call 126; refine HVAL.out.mono ?_; rintro e w1 ⟨rfl, hb1⟩; have B1 := Lib.hid (hb1.alloc hb1.size (.cells #[.int .i64 k, .int .i64 m, .string s] 31)); simp only [Vl.val]; clear hb1)
    | (go_at_call 127; (with_reducible refine (HT.out _).mono ?_); rintro e w2 ⟨rfl, hb2⟩; have B2 := Lib.hid (below_step B1.out hb2); clear hb2)
    | (go_at_call 127; (with_reducible refine (HF.out _).mono ?_); rintro e w3 ⟨rfl, hb3⟩; have B3 := Lib.hid (below_step B2.out hb3); clear hb3))
   go_ret
   exact ⟨rfl, B3.out⟩
  ·have hcc : cc = 0 := HQ'.out
   subst hcc
   go_enter Tryz.func99, Tryz.ntmps99
   go_wp2_with (first
    | (go_at_call 126; refine HVAL.out.mono ?_; rintro e w1 ⟨rfl, hb1⟩; have B1 := Lib.hid (hb1.alloc hb1.size (.cells #[.int .i64 k, .int .i64 m, .string s] 31)); simp only [Vl.val]; clear hb1)
    | (go_at_call 127; (with_reducible refine (HT.out _).mono ?_); rintro e w2 ⟨rfl, hb2⟩; have B2 := Lib.hid (below_step B1.out hb2); clear hb2)
    | (go_at_call 127; (with_reducible refine (HF.out _).mono ?_); rintro e w3 ⟨rfl, hb3⟩; have B3 := Lib.hid (below_step B2.out hb3); clear hb3))
   go_ret
   exact ⟨rfl, B3.out⟩
 ·have hcc : cc = 2 := HQ'.out
  subst hcc
  go_enter Tryz.func99, Tryz.ntmps99
  go_wp2_with (first
   | (go_at_call 126; refine HVAL.out.mono ?_; rintro e w1 ⟨rfl, hb1⟩; have B1 := Lib.hid (hb1.alloc hb1.size (.cells #[.int .i64 k, .int .i64 m, .string s] 31)); simp only [Vl.val]; clear hb1)
   | (go_at_call 127; (with_reducible refine (HT.out _).mono ?_); rintro e w2 ⟨rfl, hb2⟩; have B2 := Lib.hid (below_step B1.out hb2); clear hb2))
  go_ret
  exact ⟨rfl, B2.out⟩
end Go.Proofs.YtmoglaknmlhpgaaGreatDoor
/- Indet: the project's and the reference's. -/
namespace Go.Proofs.YtmoglaknmlhpgaaGreatDoor
open Go.RowKit
attribute [local go_sem] eq0 feq2 eq4 fgt0 gt2 ord_eq ord_gt ord_lt run_max_fl

set_option maxHeartbeats 3200000 in
theorem indet_any (p d : Fin 5) (w : World) : Calls Tryz.prog 35 #[.complex .f64 (fl p) (fl d)] w fun z w' => z = .returned (.complex .f64 (fl (indetP p d)) (fl (indetD p d))) ∧ w = w' := by
 obtain rfl | rfl | rfl | rfl | rfl := five p
 all_goals
  obtain rfl | rfl | rfl | rfl | rfl := five d
  all_goals
   go_enter Tryz.func35, Tryz.ntmps35
   go_wp2
   go_ret
   exact ⟨ret_c (by decide +kernel) (by decide +kernel), rfl⟩
end Go.Proofs.YtmoglaknmlhpgaaGreatDoor
