/- Several texts in one: ExprReck, ExprMade, ExprOk. -/
import Derived.Test.YtmoglaknmlhpgaaGreatDoorOnlJ
import Derived.Test.YtmoglaknmlhpgaaGreatDoorOnlK
import Derived.Test.YtmoglaknmlhpgaaGreatDoorOnlI
/- reckoned: what a function makes of parts none of which is an error. -/
namespace Go.Proofs.YtmoglaknmlhpgaaGreatDoor
set_option linter.unusedVariables false
open Go.RowKit Go.Sort

theorem Prts.up {w w' : World} {R : Nat → Prop} {A : Option Addr} {n c : Nat} {l : List Prt} (h : Prts w R A n c l) (hb : Below w.heap.size w w') : Prts w' R A n c l := h.keep (Kept.all hb R) (fun _ h _ => h)
theorem Vls.up {w w' : World} {R : Nat → Prop} {A : Option Addr} {n c : Nat} {l : List Vl} (h : Vls w R A n c l) (hb : Below w.heap.size w w') : Vls w' R A n c l := h.keep (Kept.all hb R) (fun _ h _ => h)
set_option maxRecDepth 100000 in
set_option maxHeartbeats 3200000 in
theorem ereck_3 {w : World} {R : Nat → Prop} {A : Option Addr} {n c : Nat} {of : List Prt} (h : Prts w R A n c of) (hn : 1 ≤ n) :
    Calls Tryz.prog 165 #[.int .i64 3, .slice A n c] w fun e w' => e = .returned (.tuple #[(reckP 3 of).1.val, .int .i64 (reckP 3 of).2]) ∧ Below w.heap.size w w' := by
  have hle := Rw.le h
  have hcap := Rw.cap h
  unfold maxLen at hcap
  have h' := h.up (below1 w (.cells #[.int .i64 0, .int .i64 0, .string ⟨#[]⟩] 31))
  obtain ⟨b, o, p, A', n', c', rfl, hRb, hbl, hx, hok, ⟨x0, _, _, _, _⟩, hin⟩ := h'.at_ (j := 0) (by omega)
  have hq : reckP 3 of = singleV p.bag := by
    match of, hx with
    | q :: _, hx => simp at hx; subst hx; rfl
  rw [hq]
  have HS := Lib.hid (esingle_any hin)
  obtain ⟨⟨⟨rk, rn, rs⟩, re⟩, hp⟩ : ∃ q, q = singleV p.bag := ⟨_, rfl⟩
  rw [← hp] at HS
  rw [← hp]
  simp only [Nat.zero_mul, Nat.add_zero] at x0
  clear hok hin hx hq h h' hRb hbl hp
  go_enter Tryz.func165, Tryz.ntmps165
  go_wp2_with (go_at_call 175; refine HS.out.mono ?_; rintro e w1 ⟨rfl, hb1⟩
               have R1 := Lib.hid ((Bx.made w 0 0 ⟨#[]⟩).then_ hb1)
               have D1 := Lib.hid (Below.lit hb1)
               have c0 := R1.out.c3
               have f0 := R1.out.fz
               simp only [Vl.val]
               clear hb1)
  try simp only [Exit.inBlock, Exit.then]
  refine bodyPost_ret (box_ret2 rfl rfl rfl (R1.out.put _ _ _)) rfl ?_
  exact ⟨rfl, below_put D1.out (Nat.le_refl _) _ _ _⟩
set_option maxRecDepth 100000 in
set_option maxHeartbeats 3200000 in
theorem ereck_4 {w : World} {R : Nat → Prop} {A : Option Addr} {n c : Nat} {of : List Prt} (h : Prts w R A n c of) (hn : 1 ≤ n) :
  Calls Tryz.prog 165 #[.int .i64 4, .slice A n c] w fun e w' => e = .returned (.tuple #[(reckP 4 of).1.val, .int .i64 (reckP 4 of).2]) ∧ Below w.heap.size w w' := by
 have hle := Rw.le h
 have hcap := Rw.cap h
 unfold maxLen at hcap
 have h' := h.up (below1 w (.cells #[.int .i64 0, .int .i64 0, .string ⟨#[]⟩] 31))
 obtain ⟨b, o, p, A', n', c', rfl, hRb, hbl, hx, hok, ⟨x0, _, _, _, _⟩, hin⟩ := h'.at_ (j := 0) (by omega)
 have hlen : p.bag.length = n' := Rw.len hin
 have HQ : Hid (reckP 4 of = (⟨2, (n' : Int), ⟨#[]⟩⟩, 0)) := by
  show _ = _
  match of, hx with
  | q :: _, hx =>
   simp at hx
   subst hx
   rw [← hlen]
   rfl
 simp only [Nat.zero_mul, Nat.add_zero] at x0
 have c0 := (Bx.made w 0 0 ⟨#[]⟩).c3
 have f0 := (Bx.made w 0 0 ⟨#[]⟩).fz
 clear hok hin hx h h' hRb hbl hlen
 go_enter Tryz.func165, Tryz.ntmps165
 go_wp2_with fail
 try simp only [Exit.inBlock, Exit.then]
 refine bodyPost_ret (box_ret2 rfl rfl rfl (Bx.made _ _ _ _)) rfl ?_
 exact ⟨eret_pair HQ.out, below1 _ _⟩
set_option maxRecDepth 100000 in
set_option maxHeartbeats 3200000 in
theorem ereck_5 {w : World} {R : Nat → Prop} {A : Option Addr} {n c : Nat} {of : List Prt} (h : Prts w R A n c of) (hn : 2 ≤ n) :
  Calls Tryz.prog 165 #[.int .i64 5, .slice A n c] w fun e w' => e = .returned (.tuple #[(reckP 5 of).1.val, .int .i64 (reckP 5 of).2]) ∧ Below w.heap.size w w' := by
 have hle := Rw.le h
 have hcap := Rw.cap h
 unfold maxLen at hcap
 have h' := h.up (below1 w (.cells #[.int .i64 0, .int .i64 0, .string ⟨#[]⟩] 31))
 obtain ⟨b, o, p, A', n', c', rfl, hRb, hbl, hx, hok, ⟨x0, _, _, _, _⟩, hin⟩ := h'.at_ (j := 0) (by omega)
 obtain ⟨b', o', q, A'', n'', c'', hA, _, _, hy, _, ⟨_, y1, y2, y3, _⟩, _⟩ := h'.at_ (j := 1) (by omega)
 injection hA with hA
 injection hA with hA1 hA2
 subst hA1 hA2
 obtain ⟨qb, ⟨qk, qn, qs⟩, qe⟩ := q
 simp only [Nat.zero_mul, Nat.one_mul, Nat.add_zero] at x0 y1 y2 y3
 have HQ : Hid (reckP 5 of = (⟨1, truthN (hasB p.bag ⟨qk, qn, qs⟩), ⟨#[]⟩⟩, 0)) := by
  show _ = _
  match of, hx, hy with
  | _ :: _ :: _, hx, hy =>
   simp at hx hy
   subst hx hy
   rfl
 obtain ⟨bx, hbx⟩ : ∃ bx, bx = hasB p.bag ⟨qk, qn, qs⟩ := ⟨_, rfl⟩
 rw [← hbx] at HQ
 have HR0 := Lib.hid (Bx.made w 0 0 ⟨#[]⟩)
 have HD0 := Lib.hid (below1 w (.cells #[.int .i64 0, .int .i64 0, .string ⟨#[]⟩] 31))
 have HIN := Lib.hid hin
 generalize reckP 5 of = RR at *
 clear hok hin hx hy h h' hRb
 go_enter Tryz.func165, Tryz.ntmps165
 go_wp2_with fail
 generalize w.alloc (.cells #[.int .i64 0, .int .i64 0, .string ⟨#[]⟩] 31) = W1 at *
 have QH := Lib.hid (fun d os => Calls.regrown_of (w := W1) (d := d) (os := os) (by have := vhas_any (HIN.out.up (below_regrown W1 d os)).vs (Nat.le_refl _) qk qn qs; rwa [← hbx] at this))
 have QT := Lib.hid (fun d os => Calls.regrown_of (w := W1) (d := d) (os := os) (etruth_any bx (grow (redrawn W1 d) os)))
 have z0 := fun d os => cell_regrown x0 d os
 have z3 := fun d os => cell_regrown y1 d os
 have z4 := fun d os => cell_regrown y2 d os
 have z5 := fun d os => cell_regrown y3 d os
 clear hbx
 have hz2 : (1 : Int) < (n : Int) := by omega
 have hz1 : (0 : Int) < (n : Int) := by omega
 clear x0 y1 y2 y3
 refine wp_region_below_tail 10 (by kernel_rfl) (by kernel_rfl) ?_
 simp only [List.take_succ_cons, List.take_zero, List.drop_succ_cons, List.drop_zero]
 repeat (go_big_quiet_step (first | (go_at_call 176; exact QH.out _ _) | (go_at_call 127; exact QT.out _ _)))
 refine wpQuiet_nil ?_
 intro _ hw'
 obtain ⟨⟨dq, osq⟩, hw''⟩ := hw'
 subst hw''
 have hbel := below_regrown W1 dq osq
 have R3 := Lib.hid (HR0.out.then_ hbel)
 have D3 := Lib.hid (below_step HD0.out hbel)
 clear hbel z0 z3 z4 z5 QH QT
 have c0 := R3.out.c3
 have f0 := R3.out.fz
 go_wp2_with fail
 try simp only [Exit.inBlock, Exit.then]
 refine bodyPost_ret (box_ret2 rfl rfl rfl (R3.out.put _ _ _)) rfl ?_
 exact ⟨eret_pair HQ.out, below_put D3.out (Nat.le_refl _) _ _ _⟩
theorem call_is {w : World} {R : Nat → Prop} {A : Option Addr} {n c : Nat} {l : List Vl} {op : Int} (h : Vls w R A n c l) (hn : n ≤ 1000000) : Calls Tryz.prog 177 #[.int .i64 op, .slice A n c] w fun e w' => e = .returned (.tuple #[(callV op l).1.val, .int .i64 (callV op l).2]) ∧ Below w.heap.size w w' := call_any h.vs (Nat.le_refl _) hn op
set_option maxRecDepth 100000 in
set_option maxHeartbeats 3200000 in
theorem ereck_any {op : Int} (h3 : op ≠ 3) (h4 : op ≠ 4) (h5 : op ≠ 5) {w : World} {R : Nat → Prop} {A : Option Addr} {n c : Nat} {of : List Prt} (h : Prts w R A n c of) (hn : n ≤ 1000) :
    Calls Tryz.prog 165 #[.int .i64 op, .slice A n c] w fun e w' => e = .returned (.tuple #[(reckP op of).1.val, .int .i64 (reckP op of).2]) ∧ Below w.heap.size w w' := by
  have hle := Rw.le h
  have hcap := Rw.cap h
  have HL := Lib.hid (Rw.len h)
  unfold maxLen at hcap
  have b3 : (op == 3) = false := by rw [beq_eq_false_iff_ne]; exact h3
  have b4 : (op == 4) = false := by rw [beq_eq_false_iff_ne]; exact h4
  have b5 : (op == 5) = false := by rw [beq_eq_false_iff_ne]; exact h5
  have HQ : Hid (reckP op of = callV op (of.map Prt.v)) := by show _ = _; unfold reckP; rw [if_neg h3, if_neg h4, if_neg h5]
  have H := Lib.hid (h.up (below1 w (.cells #[.int .i64 0, .int .i64 0, .string ⟨#[]⟩] 31)))
  have HR0 := Lib.hid (Bx.made w 0 0 ⟨#[]⟩)
  have HD0 := Lib.hid (below1 w (.cells #[.int .i64 0, .int .i64 0, .string ⟨#[]⟩] 31))
  generalize reckP op of = RR at *
  clear h3 h4 h5 h
  go_enter Tryz.func165, Tryz.ntmps165
  go_wp2_with fail
  generalize w.alloc (.cells #[.int .i64 0, .int .i64 0, .string ⟨#[]⟩] 31) = W1 at *
  go_loopw [6, 41] (fun out i wr => ∃ (k : Nat) (A' : Option Addr) (c' : Nat), k ≤ n ∧ i = .int .i64 k ∧ out = .slice A' k c' ∧ (wr.ownsRow W1.heap.size 31 3 (.slice A' k c') k (cells3 ((of.map Prt.v).take k)) ∧ (∀ v ∈ (of.map Prt.v).take k, v.ok)) ∧ Below W1.heap.size W1 wr) (fun out i _ => n - (intOf i).toNat)
  case atStart => exact ⟨0, none, 0, Nat.zero_le _, rfl, rfl, ⟨World.ownsRow_nil W1 W1.heap.size 31 3, by simp⟩, Below.refl _ _⟩
  case round =>
    obtain ⟨k, A', c', hk, rfl, rfl, ⟨ho, hoks⟩, hb⟩ := hrel
    have HO := Lib.hid ho
    have HB := Lib.hid hb
    have HOKS := Lib.hid hoks
    clear ho hb hoks
    by_cases hlt : k < n
    · obtain ⟨b, o, p, Ap, np, cp, rfl, hRb, hbl, hx, hok, ⟨x0, x1, x2, x3, x4⟩, hin⟩ := (H.out.up HB.out).at_ hlt
      obtain ⟨pb, ⟨pk, pn, ps⟩, pe⟩ := p
      simp only at x0 x1 x2 x3 x4 hok
      have hxm : (of.map Prt.v)[k]? = some ⟨pk, pn, ps⟩ := by rw [List.getElem?_map, hx]; rfl
      have HX := Lib.hid hxm
      have hd1 := (Below.refl wr.heap.size wr).alloc (Nat.le_refl _) (.cells #[.slice Ap np cp, .int .i64 pk, .int .i64 pn, .string ps, .int .i64 pe] 222)
      have hob := Ob.made wr 222 #[.slice Ap np cp, .int .i64 pk, .int .i64 pn, .string ps, .int .i64 pe]
      have q1 := hob.cell 1
      have q2 := hob.cell 2
      have q3 := hob.cell 3
      obtain ⟨A2, c2, w2, r2, o2, b2⟩ := push_val (v := ⟨pk, pn, ps⟩) (own_then HO.out hd1) (Nat.le_trans HB.out.size hd1.size) hok.1 (by omega)
      simp only [size_al] at r2
      have R2 := Lib.hid r2
      have O2 := Lib.hid o2
      have B2 := Lib.hid (HB.out.trans ((hd1.mono HB.out.size).trans b2))
      have K2 : Hid (∀ v ∈ (of.map Prt.v).take (k + 1), v.ok) := by
        show ∀ v ∈ (of.map Prt.v).take (k + 1), v.ok
        rw [take_one HX.out]
        intro v hv
        rcases List.mem_append.1 hv with hv | hv
        · exact HOKS.out v hv
        · simp at hv; subst hv; exact hok.1
      clear hx hxm hok hin hRb hd1 hob r2 o2 b2
      go_wp2_with (at_builtin; refine wpList_append_run rfl _ _ _ _ rfl rfl rfl R2.out ?_)
      go_roundw
      case rel => exact ⟨k + 1, A2, c2, by omega, by go_num, rfl, ⟨by rw [take_one HX.out]; exact O2.out, K2.out⟩, B2.out⟩
      case measure => simp [intOf]; omega
    · obtain rfl : k = n := by omega
      have ho := HO.out
      have hoks := HOKS.out
      rw [List.take_of_length_le (by rw [List.length_map]; have := HL.out; omega)] at ho hoks
      rw [cells3_flat] at ho
      have hv : Vls wr (fun b => W1.heap.size ≤ b) A' k c' (of.map Prt.v) := Rw.flat_own ho (by omega) (by rw [List.length_map]; exact HL.out) (fun _ => rfl) hoks (fun _ _ h => h)
      have HC := Lib.hid (call_is (op := op) hv (by omega))
      obtain ⟨⟨⟨rk, rn, rs⟩, re⟩, hp⟩ : ∃ q, q = callV op (of.map Prt.v) := ⟨_, rfl⟩
      rw [← hp] at HC HQ
      clear ho hoks hv hp
      have R1 := Lib.hid (HR0.out.then_ (HB.out.mono (Nat.le_refl _)))
      go_wp2_with (go_at_call 177; refine HC.out.mono ?_; rintro e w1 ⟨rfl, hb1⟩
                   have R2 := Lib.hid (R1.out.then_ hb1)
                   have D2 := Lib.hid (below_step HD0.out (below_step HB.out hb1))
                   have c0 := R2.out.c3
                   have f0 := R2.out.fz
                   simp only [Vl.val]
                   clear hb1)
      try simp only [Exit.inBlock, Exit.then]
      refine bodyPost_ret (box_ret2 rfl rfl rfl (R2.out.put _ _ _)) rfl ?_
      exact ⟨eret_pair HQ.out, below_put D2.out (Nat.le_refl _) _ _ _⟩
end Go.Proofs.YtmoglaknmlhpgaaGreatDoor
/- made: what a node makes of what stands ahead. -/
namespace Go.Proofs.YtmoglaknmlhpgaaGreatDoor
set_option linter.unusedVariables false
open Go.RowKit Go.Sort

def MadeTo (w : World) (p : Prt) (e : Ending) (w' : World) : Prop := ∃ A n c, e = .returned (.agg #[.slice A n c, .int .i64 p.v.k, .int .i64 p.v.n, .string p.v.s, .int .i64 p.e]) ∧ Below w.heap.size w w' ∧ Vls w' (fun b => w.heap.size ≤ b) A n c p.bag
theorem MadeTo.nobag {w w' : World} {p : Prt} {k n e : Int} {s : ByteArray} (h : p = ⟨[], ⟨k, n, s⟩, e⟩) (hb : Below w.heap.size w w') : MadeTo w p (.returned (.agg #[.slice none 0 0, .int .i64 k, .int .i64 n, .string s, .int .i64 e])) w' := by
 subst h
 exact ⟨none, 0, 0, rfl, hb, Rw.nil_ _ _ _ _⟩
theorem made_1 {ask : List Giv} {n : Nod} {of : List Prt} (h : n.op = 1) : madeP ask n of = ⟨[], n.v, 0⟩ := if_pos h
theorem made_2 {ask : List Giv} {n : Nod} {of : List Prt} (h : n.op = 2) : madeP ask n of = ⟨getR ask n.a, noneV, getE ask n.a⟩ := by unfold madeP; rw [if_neg (by omega), if_pos h]
theorem made_dec {ask : List Giv} {n : Nod} {of : List Prt} (h1 : n.op ≠ 1) (h2 : n.op ≠ 2) (h : decB n.op of = true) : madeP ask n of = ⟨[], decV n.op, 0⟩ := by unfold madeP; rw [if_neg h1, if_neg h2, if_pos h]; rfl
theorem made_err {ask : List Giv} {n : Nod} {of : List Prt} (h1 : n.op ≠ 1) (h2 : n.op ≠ 2) (h : decB n.op of = false) (he : errL of ≠ 0) : madeP ask n of = ⟨[], noneV, errL of⟩ := by unfold madeP; rw [if_neg h1, if_neg h2, if_neg (by simp [h]), if_pos he]
theorem made_reck {ask : List Giv} {n : Nod} {of : List Prt} (h1 : n.op ≠ 1) (h2 : n.op ≠ 2) (h : decB n.op of = false) (he : errL of = 0) : madeP ask n of = ⟨[], (reckP n.op of).1, (reckP n.op of).2⟩ := by unfold madeP; rw [if_neg h1, if_neg h2, if_neg (by simp [h]), if_neg (by simp [he])]
def W0 (w : World) (n : Nod) : World := (w.alloc (.cells #[.int .i64 n.op, .int .i64 n.v.k, .int .i64 n.v.n, .string n.v.s, .int .i64 n.a.cat, .string n.a.name, .bool n.a.must] 81)).alloc (.cells #[.slice none 0 0, .int .i64 0, .int .i64 0, .string ⟨#[]⟩, .int .i64 0] 222)
theorem W0.below (w : World) (n : Nod) : Below w.heap.size w (W0 w n) := below2 _ _ _
theorem W0.part (w : World) (n : Nod) : Ob (W0 w n) (w.heap.size + 1) 222 #[.slice none 0 0, .int .i64 0, .int .i64 0, .string ⟨#[]⟩, .int .i64 0] := by
 have := Ob.made (w.alloc (.cells #[.int .i64 n.op, .int .i64 n.v.k, .int .i64 n.v.n, .string n.v.s, .int .i64 n.a.cat, .string n.a.name, .bool n.a.must] 81)) 222 #[.slice none 0 0, .int .i64 0, .int .i64 0, .string ⟨#[]⟩, .int .i64 0]
 rwa [size_al] at this
theorem W0.node (w : World) (n : Nod) : Ob (W0 w n) w.heap.size 81 #[.int .i64 n.op, .int .i64 n.v.k, .int .i64 n.v.n, .string n.v.s, .int .i64 n.a.cat, .string n.a.name, .bool n.a.must] :=
 (Ob.made w _ _).keep (Below.heap_alloc _ _ _ (by rw [size_al]; omega))
theorem W0.size (w : World) (n : Nod) : (W0 w n).heap.size = w.heap.size + 2 := by unfold W0; rw [size_al, size_al]
set_option maxRecDepth 100000 in
set_option maxHeartbeats 3200000 in
theorem emade_1 (ask : List Giv) (n : Nod) (h1 : n.op = 1) (hs : n.v.s.size ≤ 1000000) (of : List Prt) (A : Option Addr) (m c : Nat) (A2 : Option Addr) (n2 c2 : Nat) (w : World) :
    Calls Tryz.prog 152 #[n.val, .slice A m c, .slice A2 n2 c2] w (MadeTo w (madeP ask n of)) := by
  have HL := Lib.hid (fun W => eliteral_any n.v hs W)
  have HM := Lib.hid (made_1 (ask := ask) (of := of) h1)
  have HB := Lib.hid (W0.below w n)
  have HP := Lib.hid (W0.part w n)
  have HZ := Lib.hid (W0.size w n)
  generalize madeP ask n of = pp at *
  obtain ⟨op, ⟨k, nn, s⟩, ⟨ac, an, am⟩⟩ := n
  simp only at h1 HL HM HP
  subst h1
  unfold Nod.val
  go_enter Tryz.func152, Tryz.ntmps152
  go_wp2_with (go_at_call 163; refine (HL.out _).mono ?_; rintro e w1 ⟨rfl, hb1⟩
               have O1 := Lib.hid (HP.out.below hb1 (by rw [size_al, size_al]; omega))
               have D1 := Lib.hid (below_step HB.out hb1)
               have o0 := O1.out.cell
               have g0 := O1.out.frozen
               clear hb1)
  try simp only [Exit.inBlock, Exit.then]
  refine bodyPost_ret (part_ret rfl rfl (ob_put5 O1.out _ _ _ _ _)) rfl ?_
  exact MadeTo.nobag HM.out (below_put5 D1.out (by omega) _ _ _ _ _)
set_option maxRecDepth 100000 in
set_option maxHeartbeats 3200000 in
theorem emade_2 {ask : List Giv} (n : Nod) (h2 : n.op = 2) (of : List Prt) (A : Option Addr) (m c : Nat) {A2 : Option Addr} {n2 c2 : Nat} {R2 : Nat → Prop} (w : World) (hA : Gvs w R2 A2 n2 c2 ask) (hs : ShortG ask) :
    Calls Tryz.prog 152 #[n.val, .slice A m c, .slice A2 n2 c2] w (MadeTo w (madeP ask n of)) := by
  have HG := Lib.hid (fun W (hW : Below w.heap.size w W) => aget_any n.a (hA.keep (Kept.all hW R2) (fun _ h _ => h)) hs)
  have HM := Lib.hid (made_2 (ask := ask) (of := of) h2)
  have HB := Lib.hid (W0.below w n)
  have HP := Lib.hid (W0.part w n)
  have HZ := Lib.hid (W0.size w n)
  clear hA hs
  generalize madeP ask n of = pp at *
  obtain ⟨op, ⟨k, nn, s⟩, ⟨ac, an, am⟩⟩ := n
  simp only at h2 HG HM HP
  subst h2
  unfold Nod.val
  generalize getR ask ⟨ac, an, am⟩ = rr at *
  generalize getE ask ⟨ac, an, am⟩ = ee at *
  go_enter Tryz.func152, Tryz.ntmps152
  go_wp2_with (go_at_call 149; refine (HG.out _ HB.out).mono ?_; rintro e w1 ⟨A3, n3, c3, rfl, hb1, hv1⟩
               have O1 := Lib.hid (HP.out.below hb1 (by rw [HZ.out]; omega))
               have D1 := Lib.hid (below_step HB.out hb1)
               have V1 := Lib.hid hv1
               have Z1 := Lib.hid hb1.size
               have o0 := O1.out.cell
               have g0 := O1.out.frozen
               clear hb1 hv1)
  try simp only [Exit.inBlock, Exit.then]
  refine bodyPost_ret (part_ret rfl rfl (ob_put5 O1.out _ _ _ _ _)) rfl ?_
  have hm := HM.out
  subst hm
  refine ⟨A3, n3, c3, rfl, below_put5 D1.out (by omega) _ _ _ _ _, ?_⟩
  have hz := HZ.out
  refine V1.out.keep ⟨by simp [World.setCell], fun b hb _ => ?_⟩ (fun b hb _ => ?_)
  · have hb' : (W0 w _).heap.size ≤ b := hb
    rw [hz] at hb'
    rw [Below.heap_setCell _ _ _ _ (by show b ≠ w.heap.size + 1; omega), Below.heap_setCell _ _ _ _ (by show b ≠ w.heap.size + 1; omega), Below.heap_setCell _ _ _ _ (by show b ≠ w.heap.size + 1; omega), Below.heap_setCell _ _ _ _ (by show b ≠ w.heap.size + 1; omega), Below.heap_setCell _ _ _ _ (by show b ≠ w.heap.size + 1; omega)]
  · have hb' : (W0 w _).heap.size ≤ b := hb
    rw [hz] at hb'
    show w.heap.size ≤ b
    omega
theorem decB_no {op : Int} {of : List Prt} (h1 : op ≠ 12) (h2 : op ≠ 13) : decB op of = false := by
 unfold decB
 split
 ·simp [h1, h2]
 ·rfl
theorem two_prt {l : List Prt} (h : l.length = 2) : ∃ a b, l = [a, b] := by
 match l, h with
 | [a, b], _ => exact ⟨a, b, rfl⟩
theorem edec_any {op : Int} {w : World} {R : Nat → Prop} {A : Option Addr} {m c : Nat} {of : List Prt} (h : Prts w R A m c of) (hm : m = takesN op) :
  Calls Tryz.prog 164 #[.int .i64 op, .slice A m c] w fun e w' => e = .returned (.tuple #[.agg #[.int .i64 (if decB op of = true then 1 else 0), .int .i64 (if decB op of = true then truthN (decide (op = 13)) else 0), .string ⟨#[]⟩], .bool (decB op of)]) ∧ Below w.heap.size w w' := by
 by_cases h12 : op = 12 ∨ op = 13
 ·obtain rfl : m = 2 := by rcases h12 with rfl | rfl <;> exact hm
  obtain ⟨p, q, rfl⟩ := two_prt (Rw.len h)
  exact edecided_two h12 h
 ·have e1 : op ≠ 12 := fun e => h12 (.inl e)
  have e2 : op ≠ 13 := fun e => h12 (.inr e)
  have := edecided_no e1 e2 A m c w
  rw [decB_no e1 e2]
  exact this
theorem ereck {op : Int} {w : World} {R : Nat → Prop} {A : Option Addr} {m c : Nat} {of : List Prt} (h : Prts w R A m c of) (hm : m = takesN op) (h1 : op ≠ 1) (h2 : op ≠ 2) :
  Calls Tryz.prog 165 #[.int .i64 op, .slice A m c] w fun e w' => e = .returned (.tuple #[(reckP op of).1.val, .int .i64 (reckP op of).2]) ∧ Below w.heap.size w w' := by
 by_cases h3 : op = 3
 ·subst h3; exact ereck_3 h (by rw [hm]; decide)
 by_cases h4 : op = 4
 ·subst h4; exact ereck_4 h (by rw [hm]; decide)
 by_cases h5 : op = 5
 ·subst h5; exact ereck_5 h (by rw [hm]; decide)
 refine ereck_any h3 h4 h5 h ?_
 rw [hm]
 unfold takesN
 repeat' split
 all_goals omega
theorem errL_take {of : List Prt} : ∀ {k : Nat} {p : Prt}, errL (of.take k) = 0 → of[k]? = some p → errL (of.take (k + 1)) = p.e := by
 induction of with
 | nil => intro k p _ h; simp at h
 | cons x r ih =>
  intro k p h0 hx
  cases k with
  | zero =>
   simp at hx
   subst hx
   simp [errL]
   intro e
   exact e.symm
  | succ k =>
   simp only [List.take_succ_cons, errL] at h0 ⊢
   by_cases he : x.e = 0
   ·simp only [he, ne_eq, not_true, if_false] at h0 ⊢
    exact ih h0 (by simpa using hx)
   ·simp only [ne_eq, he, not_false_eq_true, if_true] at h0
theorem errL_hit {of : List Prt} : ∀ {k : Nat} {p : Prt}, errL (of.take k) = 0 → of[k]? = some p → p.e ≠ 0 → errL of = p.e := by
 induction of with
 | nil => intro k p _ h; simp at h
 | cons x r ih =>
  intro k p h0 hx hne
  cases k with
  | zero =>
   simp at hx
   subst hx
   simp [errL, hne]
  | succ k =>
   simp only [List.take_succ_cons, errL] at h0 ⊢
   by_cases he : x.e = 0
   ·simp only [he, ne_eq, not_true, if_false] at h0 ⊢
    exact ih h0 (by simpa using hx) hne
   ·simp only [ne_eq, he, not_false_eq_true, if_true] at h0
set_option maxRecDepth 100000 in
set_option maxHeartbeats 3200000 in
theorem emade_dec {ask : List Giv} (n : Nod) (h1 : n.op ≠ 1) (h2 : n.op ≠ 2) {of : List Prt} {R : Nat → Prop} {A : Option Addr} {m c : Nat} (A2 : Option Addr) (n2 c2 : Nat) (w : World) (h : Prts w R A m c of) (hm : m = takesN n.op) (hd : decB n.op of = true) :
    Calls Tryz.prog 152 #[n.val, .slice A m c, .slice A2 n2 c2] w (MadeTo w (madeP ask n of)) := by
  have HB := Lib.hid (W0.below w n)
  have HP := Lib.hid (W0.part w n)
  have HZ := Lib.hid (W0.size w n)
  have HDC := Lib.hid (edec_any (h.up HB.out) hm)
  rw [hd] at HDC
  simp only [if_true] at HDC
  have HM := Lib.hid (made_dec (ask := ask) h1 h2 hd)
  clear h hm hd
  generalize madeP ask n of = pp at *
  obtain ⟨op, ⟨k, nn, s⟩, ⟨ac, an, am⟩⟩ := n
  simp only at h1 h2 HM HP HDC
  have b1 : (op == 1) = false := by rw [beq_eq_false_iff_ne]; exact h1
  have b2 : (op == 2) = false := by rw [beq_eq_false_iff_ne]; exact h2
  clear h1 h2
  have HMM : Hid (pp = ⟨[], ⟨1, truthN (decide (op = 13)), ⟨#[]⟩⟩, 0⟩) := HM
  generalize truthN (decide (op = 13)) = tn at *
  unfold Nod.val
  go_enter Tryz.func152, Tryz.ntmps152
  go_wp2_with (go_at_call 164; refine HDC.out.mono ?_; rintro e w1 ⟨rfl, hb1⟩
               have O1 := Lib.hid ((HP.out.below hb1 (by rw [HZ.out]; omega)).keep (w' := w1.alloc (.cells #[.int .i64 1, .int .i64 tn, .string ⟨#[]⟩] 31)) (Below.heap_alloc _ _ _ (by have := hb1.size; have := HZ.out; omega)))
               have D1 := Lib.hid ((below_step HB.out hb1).alloc (below_step HB.out hb1).size (.cells #[.int .i64 1, .int .i64 tn, .string ⟨#[]⟩] 31))
               have o0 := O1.out.cell
               have g0 := O1.out.frozen
               have k0 := (Bx.made w1 1 tn ⟨#[]⟩).c3
               clear hb1)
  try simp only [Exit.inBlock, Exit.then]
  refine bodyPost_ret (part_ret rfl rfl (ob_put5 O1.out _ _ _ _ _)) rfl ?_
  exact MadeTo.nobag HMM.out (below_put5 D1.out (by omega) _ _ _ _ _)
set_option maxRecDepth 100000 in
set_option maxHeartbeats 3200000 in
theorem emade_rest {ask : List Giv} (n : Nod) (h1 : n.op ≠ 1) (h2 : n.op ≠ 2) {of : List Prt} {R : Nat → Prop} {A : Option Addr} {m c : Nat} (A2 : Option Addr) (n2 c2 : Nat) (w : World) (h : Prts w R A m c of) (hm : m = takesN n.op) (hd : decB n.op of = false) :
    Calls Tryz.prog 152 #[n.val, .slice A m c, .slice A2 n2 c2] w (MadeTo w (madeP ask n of)) := by
  have HB := Lib.hid (W0.below w n)
  have HP := Lib.hid (W0.part w n)
  have HN := Lib.hid (W0.node w n)
  have HZ := Lib.hid (W0.size w n)
  have HDC := Lib.hid (edec_any (h.up HB.out) hm)
  rw [hd] at HDC
  simp only [Bool.false_eq_true, if_false] at HDC
  have HME := Lib.hid (fun he => made_err (ask := ask) h1 h2 hd he)
  have HMR := Lib.hid (fun he => made_reck (ask := ask) h1 h2 hd he)
  have HRK := Lib.hid (fun W (hW : Below w.heap.size w W) => ereck (h.up hW) hm h1 h2)
  have H := Lib.hid h
  have hle := Rw.le h
  have hcap := Rw.cap h
  have HL := Lib.hid (Rw.len h)
  unfold maxLen at hcap
  have hbig := Rw.big h
  clear h hm hd
  generalize madeP ask n of = pp at *
  obtain ⟨op, ⟨k, nn, s⟩, ⟨ac, an, am⟩⟩ := n
  simp only at h1 h2 HME HMR HRK HP HN HDC
  have b1 : (op == 1) = false := by rw [beq_eq_false_iff_ne]; exact h1
  have b2 : (op == 2) = false := by rw [beq_eq_false_iff_ne]; exact h2
  clear h1 h2
  obtain ⟨⟨⟨rk, rn, rs⟩, re⟩, hp⟩ : ∃ q, q = reckP op of := ⟨_, rfl⟩
  rw [← hp] at HMR HRK
  clear hp
  unfold Nod.val
  go_enter Tryz.func152, Tryz.ntmps152
  go_wp2_with (go_at_call 164; refine HDC.out.mono ?_; rintro e w1 ⟨rfl, hb1⟩
               have O1 := Lib.hid ((HP.out.below hb1 (by rw [HZ.out]; omega)).keep (w' := w1.alloc (.cells #[.int .i64 0, .int .i64 0, .string ⟨#[]⟩] 31)) (Below.heap_alloc _ _ _ (by have := hb1.size; have := HZ.out; omega)))
               have N1 := Lib.hid ((HN.out.below hb1 (by rw [HZ.out]; omega)).keep (w' := w1.alloc (.cells #[.int .i64 0, .int .i64 0, .string ⟨#[]⟩] 31)) (Below.heap_alloc _ _ _ (by have := hb1.size; have := HZ.out; omega)))
               have D1 := Lib.hid ((below_step HB.out hb1).alloc (below_step HB.out hb1).size (.cells #[.int .i64 0, .int .i64 0, .string ⟨#[]⟩] 31))
               clear hb1)
  generalize w1.alloc (.cells #[.int .i64 0, .int .i64 0, .string ⟨#[]⟩] 31) = W1 at *
  go_loopw [46] (fun i wr => ∃ k : Nat, k ≤ m ∧ i = .int .i64 k ∧ errL (of.take k) = 0 ∧ Below W1.heap.size W1 wr) (fun i _ => m - (intOf i).toNat)
  case atStart => exact ⟨0, Nat.zero_le _, rfl, rfl, Below.refl _ _⟩
  case round =>
    obtain ⟨k, hk, rfl, he, hb⟩ := hrel
    have HE := Lib.hid he
    have HW := Lib.hid hb
    have O2 := Lib.hid (O1.out.below hb O1.out.lt)
    have N2 := Lib.hid (N1.out.below hb N1.out.lt)
    have D2 := Lib.hid (below_step D1.out hb)
    clear he hb
    by_cases hlt : k < m
    · obtain ⟨b, o, p, Ap, np, cp, rfl, hRb, hbl, hx, hok, ⟨x0, x1, x2, x3, x4⟩, hin⟩ := (H.out.up D2.out).at_ hlt
      have HT := Lib.hid (errL_take HE.out hx)
      have HH := Lib.hid (errL_hit HE.out hx)
      obtain ⟨pb, ⟨pk, pn, ps⟩, pe⟩ := p
      simp only at x0 x1 x2 x3 x4 HT HH
      have q4 := (Ob.made wr 222 #[.slice Ap np cp, .int .i64 pk, .int .i64 pn, .string ps, .int .i64 pe]).cell 4
      clear hx hok hin hRb
      by_cases hpe : pe = 0
      · subst hpe
        go_wp2_with fail
        go_roundw
        case rel => exact ⟨k + 1, by omega, by go_num, HT.out, HW.out.alloc HW.out.size _⟩
        case measure => simp [intOf]; omega
      · have hne : (pe != 0) = true := by rw [bne_iff_ne]; exact hpe
        have HM := Lib.hid (HME.out (by rw [HH.out hpe]; exact hpe))
        have HHE := Lib.hid (HH.out hpe)
        clear hpe
        have O3 := Lib.hid (O2.out.keep (w' := wr.alloc (.cells #[.slice Ap np cp, .int .i64 pk, .int .i64 pn, .string ps, .int .i64 pe] 222)) (Below.heap_alloc _ _ _ O2.out.lt))
        have o0 := O3.out.cell
        have g0 := O3.out.frozen
        go_wp2_with fail
        try simp only [Exit.inBlock, Exit.then]
        refine bodyPost_ret (part_ret rfl rfl (ob_put5 O3.out _ _ _ _ _)) rfl ?_
        exact MadeTo.nobag (by rw [HM.out, HHE.out]; rfl) (below_put5 (D2.out.alloc D2.out.size _) (by omega) _ _ _ _ _)
    · obtain rfl : k = m := by omega
      have hT := HE.out
      rw [List.take_of_length_le (by have := HL.out; omega)] at hT
      have HM := Lib.hid (HMR.out hT)
      have n0 := N2.out.cell 0
      clear hT
      go_wp2_with (go_at_call 165; refine (HRK.out _ D2.out).mono ?_; rintro e w3 ⟨rfl, hb3⟩
                   have O4 := Lib.hid ((O2.out.below hb3 O2.out.lt).keep (w' := w3.alloc (.cells #[.int .i64 rk, .int .i64 rn, .string rs] 31)) (Below.heap_alloc _ _ _ (Nat.lt_of_lt_of_le O2.out.lt hb3.size)))
                   have D4 := Lib.hid ((below_step D2.out hb3).alloc (below_step D2.out hb3).size (.cells #[.int .i64 rk, .int .i64 rn, .string rs] 31))
                   have o0 := O4.out.cell
                   have g0 := O4.out.frozen
                   have k0 := (Bx.made w3 rk rn rs).c3
                   simp only [Vl.val]
                   clear hb3)
      try simp only [Exit.inBlock, Exit.then]
      refine bodyPost_ret (part_ret rfl rfl (ob_put5 O4.out _ _ _ _ _)) rfl ?_
      exact MadeTo.nobag HM.out (below_put5 D4.out (by omega) _ _ _ _ _)
theorem emade_any {ask : List Giv} (n : Nod) (hs : n.op = 1 → n.v.s.size ≤ 1000000) {of : List Prt} {R R2 : Nat → Prop} {A A2 : Option Addr} {m c n2 c2 : Nat} (w : World) (h : Prts w R A m c of) (hm : m = takesN n.op) (hA : Gvs w R2 A2 n2 c2 ask) (hG : ShortG ask) :
  Calls Tryz.prog 152 #[n.val, .slice A m c, .slice A2 n2 c2] w (MadeTo w (madeP ask n of)) := by
 by_cases h1 : n.op = 1
 ·exact emade_1 ask n h1 (hs h1) of A m c A2 n2 c2 w
 by_cases h2 : n.op = 2
 ·exact emade_2 n h2 of A m c w hA hG
 cases hd : decB n.op of with
 | true => exact emade_dec n h1 h2 A2 n2 c2 w h hm hd
 | false => exact emade_rest n h1 h2 A2 n2 c2 w h hm hd
end Go.Proofs.YtmoglaknmlhpgaaGreatDoor
/- What a node makes is a value that memory bears; a right expression at each of its nodes. Plain. -/
namespace Go.Proofs.YtmoglaknmlhpgaaGreatDoor
set_option linter.unusedVariables false
open Go.RowKit

theorem truthV_ok (b : Bool) : (truthV b).ok := by cases b <;> decide
theorem noneV_ok : noneV.ok := by decide
theorem ini0 : InI 0 := by decide
theorem ini2 : InI 2 := by decide
theorem ini3 : InI 3 := by decide
theorem ini4 : InI 4 := by decide
theorem numV_ok {n : Int} (h : InI n) : (numV n).ok := ⟨ini2, h, (by decide : (⟨#[]⟩ : ByteArray).size ≤ maxLen)⟩
def OkR (p : Vl × Int) : Prop := p.1.ok ∧ InI p.2
theorem okR_none {e : Int} (h : InI e) : OkR (noneV, e) := ⟨noneV_ok, h⟩
theorem okR_truth (b : Bool) : OkR (truthV b, 0) := ⟨truthV_ok b, ini0⟩
theorem lessOf_err (a b : Vl) : (lessOf a b).2 = 0 ∨ (lessOf a b).2 = 1 ∨ (lessOf a b).2 = 2 := by
 unfold lessOf
 repeat' split
 all_goals simp
theorem callV_ok (op : Int) (l : List Vl) : OkR (callV op l) := by
 unfold callV
 split
 ·match l with
  | [] => exact okR_none (by decide)
  | [a] =>
   show OkR (notV a)
   unfold notV
   split
   ·exact okR_truth _
   ·exact okR_none (by decide)
  | [a, b] =>
   show OkR (callTwo op a b)
   unfold callTwo
   split
   ·unfold sameV; split
    ·exact okR_truth _
    ·exact okR_none (by decide)
   ·split
    ·unfold lessV; split
     ·exact okR_truth _
     ·rcases lessOf_err a b with h | h | h <;> rw [h] <;> exact okR_none (by decide)
    ·split
     ·unfold bothV; split
      ·exact okR_truth _
      ·exact okR_none (by decide)
     ·unfold reckV; split
      ·by_cases h2 : In64 (opF op a.n b.n)
       ·rw [fits_in h2]
        exact ⟨numV_ok h2, ini0⟩
       ·rw [fits_out h2]
        exact okR_none ini3
      ·exact okR_none (by decide)
  | _ :: _ :: _ :: _ => exact okR_none (by decide)
 ·exact okR_none (by decide)
def OkP (p : Prt) : Prop := (p.v.ok ∧ InI p.e) ∧ (∀ v ∈ p.bag, v.ok) ∧ p.bag.length ≤ 140737488351232
theorem single_ok {l : List Vl} (h : ∀ v ∈ l, v.ok) : OkR (singleV l) := by
 match l, h with
 | [], _ => exact okR_none ini4
 | [v], h => exact ⟨h v (by simp), ini0⟩
 | _ :: _ :: _, _ => exact okR_none ini4
theorem reckP_ok (op : Int) {of : List Prt} (h : ∀ p ∈ of, OkP p) : OkR (reckP op of) := by
 unfold reckP
 split
 ·match of, h with
  | [], _ => exact okR_none ini0
  | p :: _, h => exact single_ok (h p (by simp)).2.1
 ·split
  ·match of, h with
   | [], _ => exact okR_none ini0
   | p :: _, h =>
    have hp := (h p (by simp)).2.2
    exact ⟨numV_ok (by unfold InI; omega), ini0⟩
  ·split
   ·match of with
    | [] => exact okR_none ini0
    | [_] => exact okR_none ini0
    | _ :: _ :: _ => exact okR_truth _
   ·exact callV_ok op _
theorem errL_ok {of : List Prt} (h : ∀ p ∈ of, OkP p) : InI (errL of) := by
 induction of with
 | nil => exact ini0
 | cons p r ih =>
  unfold errL
  split
  ·exact (h p (by simp)).1.2
  ·exact ih fun q hq => h q (by simp [hq])
theorem getE_ok (ask : List Giv) (a : Atr) : InI (getE ask a) := by
 unfold getE
 split
 ·exact ini4
 ·exact ini0
theorem madeP_ok {ask : List Giv} {n : Nod} {of : List Prt} (hn : n.v.ok) (h : ∀ p ∈ of, OkP p) : (madeP ask n of).v.ok ∧ InI (madeP ask n of).e := by
 unfold madeP
 split
 ·exact ⟨hn, ini0⟩
 ·split
  ·exact ⟨noneV_ok, getE_ok _ _⟩
  ·split
   ·exact ⟨truthV_ok _, ini0⟩
   ·split
    ·exact ⟨noneV_ok, errL_ok h⟩
    ·exact reckP_ok _ h
theorem Prts.oks {w : World} {R : Nat → Prop} {A : Option Addr} {n c : Nat} {l : List Prt} (h : Prts w R A n c l) : ∀ p ∈ l, OkP p := by
 intro p hp
 obtain ⟨j, hj, rfl⟩ := List.getElem_of_mem hp
 obtain ⟨b, o, x, A', n', c', e, _, _, hx, hok, _, hin⟩ := h.at_ (j := j) (by have := Rw.len h; omega)
 rw [List.getElem?_eq_getElem hj] at hx
 injection hx with hx
 subst hx
 exact ⟨hok, hin.oks, by rw [Rw.len hin]; exact Rw.big hin⟩

theorem runX_take : ∀ {l : List Nod} {s s' : List Bool} {k : Nat} {n : Nod}, runX l s = some s' → l[k]? = some n → ∃ u u', runX (l.take k) s = some u ∧ stepX n u = some u' ∧ runX (l.take (k + 1)) s = some u'
 | [], _, _, _, _, _, h => by simp at h
 | x :: l, s, s', 0, n, h, hn => by
  simp at hn
  subst hn
  simp only [runX] at h
  cases hs : stepX x s with
  | none => rw [hs] at h; cases h
  | some u => exact ⟨s, u, rfl, hs, by simp [runX, hs]⟩
 | x :: l, s, s', k + 1, n, h, hn => by
  simp only [runX] at h
  cases hs : stepX x s with
  | none => rw [hs] at h; cases h
  | some u =>
   rw [hs] at h
   obtain ⟨a, b, h1, h2, h3⟩ := runX_take h (by simpa using hn)
   refine ⟨a, b, ?_, h2, ?_⟩
   ·simp only [List.take_succ_cons, runX, hs]; exact h1
   ·simp only [List.take_succ_cons, runX, hs]; exact h3
theorem right_size {v : Vl} (h : v.right) : v.s.size ≤ 64 := by
 have e : v.s.size = v.l.length := by unfold Vl.l; rfl
 rw [e]
 unfold Vl.right RightV Named at h
 rcases h with ⟨_, h, _⟩ | ⟨_, h⟩ | ⟨_, _, h⟩ | ⟨_, h, _⟩ | ⟨_, _, h, _⟩
 all_goals first | (rw [h]; simp) | omega
theorem run_at {ask : List Giv} {l : List Nod} (h : exprE l = 0) {k : Nat} {n : Nod} (hn : l[k]? = some n) :
  takesN n.op ≤ (runP ask (l.take k) []).length ∧ runP ask (l.take (k + 1)) [] = stepP ask (runP ask (l.take k) []) n ∧ (n.op = 1 → n.v.s.size ≤ 1000000) ∧ (runP ask (l.take k) []).length ≤ k := by
 have hne : l ≠ [] := by rintro rfl; simp at hn
 obtain ⟨_, hr⟩ := exprE_ok h hne
 obtain ⟨u, u', h1, h2, h3⟩ := runX_take hr hn
 have hf := (runP_frame (ask := ask) (t := []) (st := []) h1 rfl).2
 obtain ⟨a, b, c⟩ := stepX_len h2
 refine ⟨by omega, ?_, fun h1 => ?_, ?_⟩
 ·rw [take_next hn, runP_app]; rfl
 ·unfold holdsB at c
  rw [if_pos h1] at c
  simp at c
  have := right_size c.1
  omega
 ·have : ∀ (m : List Nod) (s : List Prt), (runP ask m s).length ≤ s.length + m.length := by
   intro m
   induction m with
   | nil => intro s; simp [runP]
   | cons x m ih =>
    intro s
    rw [runP_cons]
    have h1 := ih (stepP ask s x)
    have h2 : (stepP ask s x).length ≤ s.length + 1 := by unfold stepP; rw [List.length_append, List.length_take]; simp
    simp; omega
  have := this (l.take k) []
  rw [List.length_take] at this
  simp at this
  omega
theorem run_end {ask : List Giv} {l : List Nod} (h : exprE l = 0) (hn : l ≠ []) : ∃ p, runP ask l [] = [p] ∧ valP ask l = (p.v, p.e) := by
 obtain ⟨p, h1, h2⟩ := run_right (ask := ask) h hn
 exact ⟨p, h1 [], h2⟩
theorem valP_bad {ask : List Giv} {l : List Nod} (h : l = [] ∨ exprE l ≠ 0) : valP ask l = (noneV, 1) := if_pos h
end Go.Proofs.YtmoglaknmlhpgaaGreatDoor
