/- Several texts in one: VHas, ExprReck, ExprMade, ExprOk, ExprVal, ExprCond, VarsAsk, KeepTgt, KeepPol, VarsShort, CellRows, MarkApp, EvalMem, EvalOn, MarkIndets, EvalRule, CombAll, EvalParts, OperApp, EvalDec. -/
import Derived.Test.YtadjfkgnoklmiaaGreatVrsA
import Derived.Test.YtadjfkgnoklmiaaGreatVrsF
import Derived.Test.YtadjfkgnoklmiaaGreatVrsB
import Derived.Deep.CutRange
import Derived.Test.YtadjfkgnoklmiaaGreatVrsC
import Derived.Maps.AppendAt
import Derived.Deep.RegionLaw
import Derived.Laws.ResultCell
/- Has: the project's and the reference's. -/
namespace Go.Proofs.YtadjfkgnoklmiaaGreat
set_option linter.unusedVariables false
open Go.RowKit Go.Sort

set_option maxHeartbeats 1600000 in
theorem vhas_any {w : World} {B n c : Nat} {A : Option Addr} {l : List Vl} (h : Vs w B A n c l) (hB : B ≤ w.heap.size) (k0 n0 : Int) (s0 : ByteArray) :
    Calls Tryz.prog 106 #[.slice A n c, .agg #[.int .i64 k0, .int .i64 n0, .string s0]] w fun e w' => e = .returned (.bool (hasB l ⟨k0, n0, s0⟩)) ∧ Below w.heap.size w w' := by
  have hlen := h.1
  have hcap := h.2.2.1
  have hle := h.2.1
  unfold maxLen at hcap
  have hb0 := Bx.made w k0 n0 s0
  have hvs : Vs (w.alloc (.cells #[.int .i64 k0, .int .i64 n0, .string s0] 40)) B A n c l := h.keep fun k hk => Below.heap_alloc w _ k (by omega)
  have hd : Below w.heap.size w (w.alloc (.cells #[.int .i64 k0, .int .i64 n0, .string s0] 40)) := (Below.refl _ _).alloc (Nat.le_refl _) _
  have hsz := size_al w (.cells #[.int .i64 k0, .int .i64 n0, .string s0] 40)
  have H0 := Lib.hid hb0
  have HV := Lib.hid hvs
  have HD := Lib.hid hd
  have HL := Lib.hid hlen
  clear h hb0 hvs hd hlen
  generalize hw1 : w.alloc (.cells #[.int .i64 k0, .int .i64 n0, .string s0] 40) = w1 at *
  have HW := Lib.hid hw1
  clear hw1
  go_enter Tryz.func106, Tryz.ntmps106
  go_wp2_with fail
  rw [HW.out]
  go_loopw [9] (fun i wr => ∃ k : Nat, k ≤ n ∧ i = .int .i64 k ∧ HasTo l ⟨k0, n0, s0⟩ k ∧ Below w1.heap.size w1 wr) (fun i _ => n - (intOf i).toNat)
  case atStart => exact ⟨0, Nat.zero_le _, rfl, fun j x _ hj => by omega, Below.refl _ _⟩
  case round =>
    obtain ⟨k, hk, rfl, ht, hb⟩ := hrel
    have HT := Lib.hid ht
    have HB := Lib.hid hb
    by_cases hlt : k < n
    · obtain ⟨b, o, x, rfl, hbB, hx, hok, x0, x1, x2⟩ := (HV.out.below (hb.mono (by omega))).at_ hlt
      obtain ⟨kx, nx, sx⟩ := x
      have y := (H0.out.then_ hb).c3
      have HX := Lib.hid hx
      have hlt2 : w.heap.size < wr.heap.size := by have := hb.size; omega
      have hve := val_eq kx nx k0 n0 sx s0
      clear ht hb hx hok
      cases he : veq ⟨kx, nx, sx⟩ ⟨k0, n0, s0⟩
      · rw [he] at hve
        have HE := Lib.hid he
        clear he
        go_wp2_with fail
        go_roundw
        case rel => exact ⟨k + 1, by omega, by go_num, HT.out.step HX.out HE.out, HB.out.alloc HB.out.size _⟩
        case measure => simp [intOf]; omega
      · rw [he] at hve
        have HE := Lib.hid he
        clear he
        go_wp2_with fail
        go_ret
        exact ⟨ret_bool (has_true HX.out HE.out).symm, (HD.out.trans (HB.out.mono (by omega))).alloc (by omega) _⟩
    · obtain rfl : k = n := by omega
      clear ht hb
      go_wp2_with fail
      go_ret
      exact ⟨ret_bool (HT.out.all HL.out).symm, HD.out.trans (HB.out.mono (by omega))⟩

end Go.Proofs.YtadjfkgnoklmiaaGreat
/- reckoned: what a function makes of parts none of which is an error. -/
namespace Go.Proofs.YtadjfkgnoklmiaaGreat
set_option linter.unusedVariables false
open Go.RowKit Go.Sort

theorem Prts.up {w w' : World} {R : Nat → Prop} {A : Option Addr} {n c : Nat} {l : List Prt} (h : Prts w R A n c l) (hb : Below w.heap.size w w') : Prts w' R A n c l := h.keep (Kept.all hb R) (fun _ h _ => h)
theorem Vls.up {w w' : World} {R : Nat → Prop} {A : Option Addr} {n c : Nat} {l : List Vl} (h : Vls w R A n c l) (hb : Below w.heap.size w w') : Vls w' R A n c l := h.keep (Kept.all hb R) (fun _ h _ => h)
set_option maxRecDepth 100000 in
set_option maxHeartbeats 3200000 in
theorem ereck_3 {w : World} {R : Nat → Prop} {A : Option Addr} {n c : Nat} {of : List Prt} (h : Prts w R A n c of) (hn : 1 ≤ n) :
    Calls Tryz.prog 62 #[.int .i64 3, .slice A n c] w fun e w' => e = .returned (.tuple #[(reckP 3 of).1.val, .int .i64 (reckP 3 of).2]) ∧ Below w.heap.size w w' := by
  have hle := Rw.le h
  have hcap := Rw.cap h
  unfold maxLen at hcap
  have h' := h.up (below1 w (.cells #[.int .i64 0, .int .i64 0, .string ⟨#[]⟩] 40))
  obtain ⟨b, o, p, A', n', c', rfl, hRb, hbl, hx, hok, ⟨x0, _, _, _, _⟩, hin⟩ := h'.at_ (j := 0) (by omega)
  have hq : reckP 3 of = singleV p.bag := by
    match of, hx with
    | q :: _, hx => simp at hx; subst hx; rfl
  rw [hq]
  have HS := Lib.hid (esingle_any hin)
  obtain ⟨⟨⟨rk, rn, rs⟩, re⟩, hp⟩ : ∃ q, q = singleV p.bag := ⟨_, rfl⟩
  rw [← hp] at HS
  rw [← hp]
  simp only [Nat.zero_mul, Nat.add_zero] at x0
  clear hok hin hx hq h h' hRb hbl hp
  go_enter Tryz.func62, Tryz.ntmps62
  go_wp2_with (go_at_call 105; refine HS.out.mono ?_; rintro e w1 ⟨rfl, hb1⟩
               have R1 := Lib.hid ((Bx.made w 0 0 ⟨#[]⟩).then_ hb1)
               have D1 := Lib.hid (Below.lit hb1)
               have c0 := R1.out.c3
               have f0 := R1.out.fz
               simp only [Vl.val]
               clear hb1)
  try simp only [Exit.inBlock, Exit.then]
  refine bodyPost_ret (box_ret2 rfl rfl rfl (R1.out.put _ _ _)) rfl ?_
  exact ⟨rfl, below_put D1.out (Nat.le_refl _) _ _ _⟩
set_option maxRecDepth 100000 in
set_option maxHeartbeats 3200000 in
theorem ereck_4 {w : World} {R : Nat → Prop} {A : Option Addr} {n c : Nat} {of : List Prt} (h : Prts w R A n c of) (hn : 1 ≤ n) :
    Calls Tryz.prog 62 #[.int .i64 4, .slice A n c] w fun e w' => e = .returned (.tuple #[(reckP 4 of).1.val, .int .i64 (reckP 4 of).2]) ∧ Below w.heap.size w w' := by
  have hle := Rw.le h
  have hcap := Rw.cap h
  unfold maxLen at hcap
  have h' := h.up (below1 w (.cells #[.int .i64 0, .int .i64 0, .string ⟨#[]⟩] 40))
  obtain ⟨b, o, p, A', n', c', rfl, hRb, hbl, hx, hok, ⟨x0, _, _, _, _⟩, hin⟩ := h'.at_ (j := 0) (by omega)
  have hlen : p.bag.length = n' := Rw.len hin
  have HQ : Hid (reckP 4 of = (⟨2, (n' : Int), ⟨#[]⟩⟩, 0)) := by
    show _ = _
    match of, hx with
    | q :: _, hx =>
      simp at hx
      subst hx
      rw [← hlen]
      rfl
  simp only [Nat.zero_mul, Nat.add_zero] at x0
  have c0 := (Bx.made w 0 0 ⟨#[]⟩).c3
  have f0 := (Bx.made w 0 0 ⟨#[]⟩).fz
  clear hok hin hx h h' hRb hbl hlen
  go_enter Tryz.func62, Tryz.ntmps62
  go_wp2_with fail
  try simp only [Exit.inBlock, Exit.then]
  refine bodyPost_ret (box_ret2 rfl rfl rfl (Bx.made _ _ _ _)) rfl ?_
  exact ⟨eret_pair HQ.out, below1 _ _⟩
set_option maxRecDepth 100000 in
set_option maxHeartbeats 3200000 in
theorem ereck_5 {w : World} {R : Nat → Prop} {A : Option Addr} {n c : Nat} {of : List Prt} (h : Prts w R A n c of) (hn : 2 ≤ n) :
    Calls Tryz.prog 62 #[.int .i64 5, .slice A n c] w fun e w' => e = .returned (.tuple #[(reckP 5 of).1.val, .int .i64 (reckP 5 of).2]) ∧ Below w.heap.size w w' := by
  have hle := Rw.le h
  have hcap := Rw.cap h
  unfold maxLen at hcap
  have h' := h.up (below1 w (.cells #[.int .i64 0, .int .i64 0, .string ⟨#[]⟩] 40))
  obtain ⟨b, o, p, A', n', c', rfl, hRb, hbl, hx, hok, ⟨x0, _, _, _, _⟩, hin⟩ := h'.at_ (j := 0) (by omega)
  obtain ⟨b', o', q, A'', n'', c'', hA, _, _, hy, _, ⟨_, y1, y2, y3, _⟩, _⟩ := h'.at_ (j := 1) (by omega)
  injection hA with hA
  injection hA with hA1 hA2
  subst hA1 hA2
  obtain ⟨qb, ⟨qk, qn, qs⟩, qe⟩ := q
  simp only [Nat.zero_mul, Nat.one_mul, Nat.add_zero] at x0 y1 y2 y3
  have HQ : Hid (reckP 5 of = (⟨1, truthN (hasB p.bag ⟨qk, qn, qs⟩), ⟨#[]⟩⟩, 0)) := by
    show _ = _
    match of, hx, hy with
    | _ :: _ :: _, hx, hy =>
      simp at hx hy
      subst hx hy
      rfl
  obtain ⟨bx, hbx⟩ : ∃ bx, bx = hasB p.bag ⟨qk, qn, qs⟩ := ⟨_, rfl⟩
  rw [← hbx] at HQ
  have HR0 := Lib.hid (Bx.made w 0 0 ⟨#[]⟩)
  have HD0 := Lib.hid (below1 w (.cells #[.int .i64 0, .int .i64 0, .string ⟨#[]⟩] 40))
  have HIN := Lib.hid hin
  generalize reckP 5 of = RR at *
  clear hok hin hx hy h h' hRb
  go_enter Tryz.func62, Tryz.ntmps62
  go_wp2_with fail
  generalize w.alloc (.cells #[.int .i64 0, .int .i64 0, .string ⟨#[]⟩] 40) = W1 at *
  have QH := Lib.hid (fun d os => Calls.regrown_of (w := W1) (d := d) (os := os) (by have := vhas_any (HIN.out.up (below_regrown W1 d os)).vs (Nat.le_refl _) qk qn qs; rwa [← hbx] at this))
  have QT := Lib.hid (fun d os => Calls.regrown_of (w := W1) (d := d) (os := os) (etruth_any bx (grow (redrawn W1 d) os)))
  have z0 := fun d os => cell_regrown x0 d os
  have z3 := fun d os => cell_regrown y1 d os
  have z4 := fun d os => cell_regrown y2 d os
  have z5 := fun d os => cell_regrown y3 d os
  clear hbx
  have hz2 : (1 : Int) < (n : Int) := by omega
  have hz1 : (0 : Int) < (n : Int) := by omega
  clear x0 y1 y2 y3
  refine wp_region_below_tail 10 (by kernel_rfl) (by kernel_rfl) ?_
  simp only [List.take_succ_cons, List.take_zero, List.drop_succ_cons, List.drop_zero]
  repeat (go_big_quiet_step (first | (go_at_call 106; exact QH.out _ _) | (go_at_call 26; exact QT.out _ _)))
  refine wpQuiet_nil ?_
  intro _ hw'
  obtain ⟨⟨dq, osq⟩, hw''⟩ := hw'
  subst hw''
  have hbel := below_regrown W1 dq osq
  have R3 := Lib.hid (HR0.out.then_ hbel)
  have D3 := Lib.hid (below_step HD0.out hbel)
  clear hbel z0 z3 z4 z5 QH QT
  have c0 := R3.out.c3
  have f0 := R3.out.fz
  go_wp2_with fail
  try simp only [Exit.inBlock, Exit.then]
  refine bodyPost_ret (box_ret2 rfl rfl rfl (R3.out.put _ _ _)) rfl ?_
  exact ⟨eret_pair HQ.out, below_put D3.out (Nat.le_refl _) _ _ _⟩
theorem call_is {w : World} {R : Nat → Prop} {A : Option Addr} {n c : Nat} {l : List Vl} {op : Int} (h : Vls w R A n c l) (hn : n ≤ 1000000) : Calls Tryz.prog 107 #[.int .i64 op, .slice A n c] w fun e w' => e = .returned (.tuple #[(callV op l).1.val, .int .i64 (callV op l).2]) ∧ Below w.heap.size w w' := call_any h.vs (Nat.le_refl _) hn op
set_option maxRecDepth 100000 in
set_option maxHeartbeats 3200000 in
theorem ereck_any {op : Int} (h3 : op ≠ 3) (h4 : op ≠ 4) (h5 : op ≠ 5) {w : World} {R : Nat → Prop} {A : Option Addr} {n c : Nat} {of : List Prt} (h : Prts w R A n c of) (hn : n ≤ 1000) :
    Calls Tryz.prog 62 #[.int .i64 op, .slice A n c] w fun e w' => e = .returned (.tuple #[(reckP op of).1.val, .int .i64 (reckP op of).2]) ∧ Below w.heap.size w w' := by
  have hle := Rw.le h
  have hcap := Rw.cap h
  have HL := Lib.hid (Rw.len h)
  unfold maxLen at hcap
  have b3 : (op == 3) = false := by rw [beq_eq_false_iff_ne]; exact h3
  have b4 : (op == 4) = false := by rw [beq_eq_false_iff_ne]; exact h4
  have b5 : (op == 5) = false := by rw [beq_eq_false_iff_ne]; exact h5
  have HQ : Hid (reckP op of = callV op (of.map Prt.v)) := by show _ = _; unfold reckP; rw [if_neg h3, if_neg h4, if_neg h5]
  have H := Lib.hid (h.up (below1 w (.cells #[.int .i64 0, .int .i64 0, .string ⟨#[]⟩] 40)))
  have HR0 := Lib.hid (Bx.made w 0 0 ⟨#[]⟩)
  have HD0 := Lib.hid (below1 w (.cells #[.int .i64 0, .int .i64 0, .string ⟨#[]⟩] 40))
  generalize reckP op of = RR at *
  clear h3 h4 h5 h
  go_enter Tryz.func62, Tryz.ntmps62
  go_wp2_with fail
  generalize w.alloc (.cells #[.int .i64 0, .int .i64 0, .string ⟨#[]⟩] 40) = W1 at *
  go_loopw [6, 41] (fun out i wr => ∃ (k : Nat) (A' : Option Addr) (c' : Nat), k ≤ n ∧ i = .int .i64 k ∧ out = .slice A' k c' ∧ (wr.ownsRow W1.heap.size 40 3 (.slice A' k c') k (cells3 ((of.map Prt.v).take k)) ∧ (∀ v ∈ (of.map Prt.v).take k, v.ok)) ∧ Below W1.heap.size W1 wr) (fun out i _ => n - (intOf i).toNat)
  case atStart => exact ⟨0, none, 0, Nat.zero_le _, rfl, rfl, ⟨World.ownsRow_nil W1 W1.heap.size 40 3, by simp⟩, Below.refl _ _⟩
  case round =>
    obtain ⟨k, A', c', hk, rfl, rfl, ⟨ho, hoks⟩, hb⟩ := hrel
    have HO := Lib.hid ho
    have HB := Lib.hid hb
    have HOKS := Lib.hid hoks
    clear ho hb hoks
    by_cases hlt : k < n
    · obtain ⟨b, o, p, Ap, np, cp, rfl, hRb, hbl, hx, hok, ⟨x0, x1, x2, x3, x4⟩, hin⟩ := (H.out.up HB.out).at_ hlt
      obtain ⟨pb, ⟨pk, pn, ps⟩, pe⟩ := p
      simp only at x0 x1 x2 x3 x4 hok
      have hxm : (of.map Prt.v)[k]? = some ⟨pk, pn, ps⟩ := by rw [List.getElem?_map, hx]; rfl
      have HX := Lib.hid hxm
      have hd1 := (Below.refl wr.heap.size wr).alloc (Nat.le_refl _) (.cells #[.slice Ap np cp, .int .i64 pk, .int .i64 pn, .string ps, .int .i64 pe] 111)
      have hob := Ob.made wr 111 #[.slice Ap np cp, .int .i64 pk, .int .i64 pn, .string ps, .int .i64 pe]
      have q1 := hob.cell 1
      have q2 := hob.cell 2
      have q3 := hob.cell 3
      obtain ⟨A2, c2, w2, r2, o2, b2⟩ := push_val (v := ⟨pk, pn, ps⟩) (own_then HO.out hd1) (Nat.le_trans HB.out.size hd1.size) hok.1 (by omega)
      simp only [size_al] at r2
      have R2 := Lib.hid r2
      have O2 := Lib.hid o2
      have B2 := Lib.hid (HB.out.trans ((hd1.mono HB.out.size).trans b2))
      have K2 : Hid (∀ v ∈ (of.map Prt.v).take (k + 1), v.ok) := by
        show ∀ v ∈ (of.map Prt.v).take (k + 1), v.ok
        rw [take_one HX.out]
        intro v hv
        rcases List.mem_append.1 hv with hv | hv
        · exact HOKS.out v hv
        · simp at hv; subst hv; exact hok.1
      clear hx hxm hok hin hRb hd1 hob r2 o2 b2
      go_wp2_with (at_builtin; refine wpList_append_run rfl _ _ _ _ rfl rfl rfl R2.out ?_)
      go_roundw
      case rel => exact ⟨k + 1, A2, c2, by omega, by go_num, rfl, ⟨by rw [take_one HX.out]; exact O2.out, K2.out⟩, B2.out⟩
      case measure => simp [intOf]; omega
    · obtain rfl : k = n := by omega
      have ho := HO.out
      have hoks := HOKS.out
      rw [List.take_of_length_le (by rw [List.length_map]; have := HL.out; omega)] at ho hoks
      rw [cells3_flat] at ho
      have hv : Vls wr (fun b => W1.heap.size ≤ b) A' k c' (of.map Prt.v) := Rw.flat_own ho (by omega) (by rw [List.length_map]; exact HL.out) (fun _ => rfl) hoks (fun _ _ h => h)
      have HC := Lib.hid (call_is (op := op) hv (by omega))
      obtain ⟨⟨⟨rk, rn, rs⟩, re⟩, hp⟩ : ∃ q, q = callV op (of.map Prt.v) := ⟨_, rfl⟩
      rw [← hp] at HC HQ
      clear ho hoks hv hp
      have R1 := Lib.hid (HR0.out.then_ (HB.out.mono (Nat.le_refl _)))
      go_wp2_with (go_at_call 107; refine HC.out.mono ?_; rintro e w1 ⟨rfl, hb1⟩
                   have R2 := Lib.hid (R1.out.then_ hb1)
                   have D2 := Lib.hid (below_step HD0.out (below_step HB.out hb1))
                   have c0 := R2.out.c3
                   have f0 := R2.out.fz
                   simp only [Vl.val]
                   clear hb1)
      try simp only [Exit.inBlock, Exit.then]
      refine bodyPost_ret (box_ret2 rfl rfl rfl (R2.out.put _ _ _)) rfl ?_
      exact ⟨eret_pair HQ.out, below_put D2.out (Nat.le_refl _) _ _ _⟩
end Go.Proofs.YtadjfkgnoklmiaaGreat
/- made: what a node makes of what stands ahead. -/
namespace Go.Proofs.YtadjfkgnoklmiaaGreat
set_option linter.unusedVariables false
open Go.RowKit Go.Sort

def MadeTo (w : World) (p : Prt) (e : Ending) (w' : World) : Prop := ∃ A n c, e = .returned (.agg #[.slice A n c, .int .i64 p.v.k, .int .i64 p.v.n, .string p.v.s, .int .i64 p.e]) ∧ Below w.heap.size w w' ∧ Vls w' (fun b => w.heap.size ≤ b) A n c p.bag
theorem MadeTo.nobag {w w' : World} {p : Prt} {k n e : Int} {s : ByteArray} (h : p = ⟨[], ⟨k, n, s⟩, e⟩) (hb : Below w.heap.size w w') : MadeTo w p (.returned (.agg #[.slice none 0 0, .int .i64 k, .int .i64 n, .string s, .int .i64 e])) w' := by
  subst h
  exact ⟨none, 0, 0, rfl, hb, Rw.nil_ _ _ _ _⟩
theorem made_1 {ask : List Giv} {n : Nod} {of : List Prt} (h : n.op = 1) : madeP ask n of = ⟨[], n.v, 0⟩ := if_pos h
theorem made_2 {ask : List Giv} {n : Nod} {of : List Prt} (h : n.op = 2) : madeP ask n of = ⟨getR ask n.a, noneV, getE ask n.a⟩ := by unfold madeP; rw [if_neg (by omega), if_pos h]
theorem made_dec {ask : List Giv} {n : Nod} {of : List Prt} (h1 : n.op ≠ 1) (h2 : n.op ≠ 2) (h : decB n.op of = true) : madeP ask n of = ⟨[], decV n.op, 0⟩ := by unfold madeP; rw [if_neg h1, if_neg h2, if_pos h]; rfl
theorem made_err {ask : List Giv} {n : Nod} {of : List Prt} (h1 : n.op ≠ 1) (h2 : n.op ≠ 2) (h : decB n.op of = false) (he : errL of ≠ 0) : madeP ask n of = ⟨[], noneV, errL of⟩ := by unfold madeP; rw [if_neg h1, if_neg h2, if_neg (by simp [h]), if_pos he]
theorem made_reck {ask : List Giv} {n : Nod} {of : List Prt} (h1 : n.op ≠ 1) (h2 : n.op ≠ 2) (h : decB n.op of = false) (he : errL of = 0) : madeP ask n of = ⟨[], (reckP n.op of).1, (reckP n.op of).2⟩ := by unfold madeP; rw [if_neg h1, if_neg h2, if_neg (by simp [h]), if_neg (by simp [he])]
def W0 (w : World) (n : Nod) : World := (w.alloc (.cells #[.int .i64 n.op, .int .i64 n.v.k, .int .i64 n.v.n, .string n.v.s, .int .i64 n.a.cat, .string n.a.name, .bool n.a.must] 72)).alloc (.cells #[.slice none 0 0, .int .i64 0, .int .i64 0, .string ⟨#[]⟩, .int .i64 0] 111)
theorem W0.below (w : World) (n : Nod) : Below w.heap.size w (W0 w n) := below2 _ _ _
theorem W0.part (w : World) (n : Nod) : Ob (W0 w n) (w.heap.size + 1) 111 #[.slice none 0 0, .int .i64 0, .int .i64 0, .string ⟨#[]⟩, .int .i64 0] := by
  have := Ob.made (w.alloc (.cells #[.int .i64 n.op, .int .i64 n.v.k, .int .i64 n.v.n, .string n.v.s, .int .i64 n.a.cat, .string n.a.name, .bool n.a.must] 72)) 111 #[.slice none 0 0, .int .i64 0, .int .i64 0, .string ⟨#[]⟩, .int .i64 0]
  rwa [size_al] at this
theorem W0.node (w : World) (n : Nod) : Ob (W0 w n) w.heap.size 72 #[.int .i64 n.op, .int .i64 n.v.k, .int .i64 n.v.n, .string n.v.s, .int .i64 n.a.cat, .string n.a.name, .bool n.a.must] :=
  (Ob.made w _ _).keep (Below.heap_alloc _ _ _ (by rw [size_al]; omega))
theorem W0.size (w : World) (n : Nod) : (W0 w n).heap.size = w.heap.size + 2 := by unfold W0; rw [size_al, size_al]
set_option maxRecDepth 100000 in
set_option maxHeartbeats 3200000 in
theorem emade_1 (ask : List Giv) (n : Nod) (h1 : n.op = 1) (hs : n.v.s.size ≤ 1000000) (of : List Prt) (A : Option Addr) (m c : Nat) (A2 : Option Addr) (n2 c2 : Nat) (w : World) :
    Calls Tryz.prog 44 #[n.val, .slice A m c, .slice A2 n2 c2] w (MadeTo w (madeP ask n of)) := by
  have HL := Lib.hid (fun W => eliteral_any n.v hs W)
  have HM := Lib.hid (made_1 (ask := ask) (of := of) h1)
  have HB := Lib.hid (W0.below w n)
  have HP := Lib.hid (W0.part w n)
  have HZ := Lib.hid (W0.size w n)
  generalize madeP ask n of = pp at *
  obtain ⟨op, ⟨k, nn, s⟩, ⟨ac, an, am⟩⟩ := n
  simp only at h1 HL HM HP
  subst h1
  unfold Nod.val
  go_enter Tryz.func44, Tryz.ntmps44
  go_wp2_with (go_at_call 60; refine (HL.out _).mono ?_; rintro e w1 ⟨rfl, hb1⟩
               have O1 := Lib.hid (HP.out.below hb1 (by rw [size_al, size_al]; omega))
               have D1 := Lib.hid (below_step HB.out hb1)
               have o0 := O1.out.cell
               have g0 := O1.out.frozen
               clear hb1)
  try simp only [Exit.inBlock, Exit.then]
  refine bodyPost_ret (part_ret rfl rfl (ob_put5 O1.out _ _ _ _ _)) rfl ?_
  exact MadeTo.nobag HM.out (below_put5 D1.out (by omega) _ _ _ _ _)
set_option maxRecDepth 100000 in
set_option maxHeartbeats 3200000 in
theorem emade_2 {ask : List Giv} (n : Nod) (h2 : n.op = 2) (of : List Prt) (A : Option Addr) (m c : Nat) {A2 : Option Addr} {n2 c2 : Nat} {R2 : Nat → Prop} (w : World) (hA : Gvs w R2 A2 n2 c2 ask) (hs : ShortG ask) :
    Calls Tryz.prog 44 #[n.val, .slice A m c, .slice A2 n2 c2] w (MadeTo w (madeP ask n of)) := by
  have HG := Lib.hid (fun W (hW : Below w.heap.size w W) => aget_any n.a (hA.keep (Kept.all hW R2) (fun _ h _ => h)) hs)
  have HM := Lib.hid (made_2 (ask := ask) (of := of) h2)
  have HB := Lib.hid (W0.below w n)
  have HP := Lib.hid (W0.part w n)
  have HZ := Lib.hid (W0.size w n)
  clear hA hs
  generalize madeP ask n of = pp at *
  obtain ⟨op, ⟨k, nn, s⟩, ⟨ac, an, am⟩⟩ := n
  simp only at h2 HG HM HP
  subst h2
  unfold Nod.val
  generalize getR ask ⟨ac, an, am⟩ = rr at *
  generalize getE ask ⟨ac, an, am⟩ = ee at *
  go_enter Tryz.func44, Tryz.ntmps44
  go_wp2_with (go_at_call 34; refine (HG.out _ HB.out).mono ?_; rintro e w1 ⟨A3, n3, c3, rfl, hb1, hv1⟩
               have O1 := Lib.hid (HP.out.below hb1 (by rw [HZ.out]; omega))
               have D1 := Lib.hid (below_step HB.out hb1)
               have V1 := Lib.hid hv1
               have Z1 := Lib.hid hb1.size
               have o0 := O1.out.cell
               have g0 := O1.out.frozen
               clear hb1 hv1)
  try simp only [Exit.inBlock, Exit.then]
  refine bodyPost_ret (part_ret rfl rfl (ob_put5 O1.out _ _ _ _ _)) rfl ?_
  have hm := HM.out
  subst hm
  refine ⟨A3, n3, c3, rfl, below_put5 D1.out (by omega) _ _ _ _ _, ?_⟩
  have hz := HZ.out
  refine V1.out.keep ⟨by simp [World.setCell], fun b hb _ => ?_⟩ (fun b hb _ => ?_)
  · have hb' : (W0 w _).heap.size ≤ b := hb
    rw [hz] at hb'
    rw [Below.heap_setCell _ _ _ _ (by show b ≠ w.heap.size + 1; omega), Below.heap_setCell _ _ _ _ (by show b ≠ w.heap.size + 1; omega), Below.heap_setCell _ _ _ _ (by show b ≠ w.heap.size + 1; omega), Below.heap_setCell _ _ _ _ (by show b ≠ w.heap.size + 1; omega), Below.heap_setCell _ _ _ _ (by show b ≠ w.heap.size + 1; omega)]
  · have hb' : (W0 w _).heap.size ≤ b := hb
    rw [hz] at hb'
    show w.heap.size ≤ b
    omega
theorem decB_no {op : Int} {of : List Prt} (h1 : op ≠ 12) (h2 : op ≠ 13) : decB op of = false := by
  unfold decB
  split
  · simp [h1, h2]
  · rfl
theorem two_prt {l : List Prt} (h : l.length = 2) : ∃ a b, l = [a, b] := by
  match l, h with
  | [a, b], _ => exact ⟨a, b, rfl⟩
theorem edec_any {op : Int} {w : World} {R : Nat → Prop} {A : Option Addr} {m c : Nat} {of : List Prt} (h : Prts w R A m c of) (hm : m = takesN op) :
    Calls Tryz.prog 61 #[.int .i64 op, .slice A m c] w fun e w' => e = .returned (.tuple #[.agg #[.int .i64 (if decB op of = true then 1 else 0), .int .i64 (if decB op of = true then truthN (decide (op = 13)) else 0), .string ⟨#[]⟩], .bool (decB op of)]) ∧ Below w.heap.size w w' := by
  by_cases h12 : op = 12 ∨ op = 13
  · obtain rfl : m = 2 := by rcases h12 with rfl | rfl <;> exact hm
    obtain ⟨p, q, rfl⟩ := two_prt (Rw.len h)
    exact edecided_two h12 h
  · have e1 : op ≠ 12 := fun e => h12 (.inl e)
    have e2 : op ≠ 13 := fun e => h12 (.inr e)
    have := edecided_no e1 e2 A m c w
    rw [decB_no e1 e2]
    exact this
theorem ereck {op : Int} {w : World} {R : Nat → Prop} {A : Option Addr} {m c : Nat} {of : List Prt} (h : Prts w R A m c of) (hm : m = takesN op) (h1 : op ≠ 1) (h2 : op ≠ 2) :
    Calls Tryz.prog 62 #[.int .i64 op, .slice A m c] w fun e w' => e = .returned (.tuple #[(reckP op of).1.val, .int .i64 (reckP op of).2]) ∧ Below w.heap.size w w' := by
  by_cases h3 : op = 3
  · subst h3; exact ereck_3 h (by rw [hm]; decide)
  by_cases h4 : op = 4
  · subst h4; exact ereck_4 h (by rw [hm]; decide)
  by_cases h5 : op = 5
  · subst h5; exact ereck_5 h (by rw [hm]; decide)
  refine ereck_any h3 h4 h5 h ?_
  rw [hm]
  unfold takesN
  repeat' split
  all_goals omega
theorem errL_take {of : List Prt} : ∀ {k : Nat} {p : Prt}, errL (of.take k) = 0 → of[k]? = some p → errL (of.take (k + 1)) = p.e := by
  induction of with
  | nil => intro k p _ h; simp at h
  | cons x r ih =>
    intro k p h0 hx
    cases k with
    | zero =>
      simp at hx
      subst hx
      simp [errL]
      intro e
      exact e.symm
    | succ k =>
      simp only [List.take_succ_cons, errL] at h0 ⊢
      by_cases he : x.e = 0
      · simp only [he, ne_eq, not_true, if_false] at h0 ⊢
        exact ih h0 (by simpa using hx)
      · simp only [ne_eq, he, not_false_eq_true, if_true] at h0
theorem errL_hit {of : List Prt} : ∀ {k : Nat} {p : Prt}, errL (of.take k) = 0 → of[k]? = some p → p.e ≠ 0 → errL of = p.e := by
  induction of with
  | nil => intro k p _ h; simp at h
  | cons x r ih =>
    intro k p h0 hx hne
    cases k with
    | zero =>
      simp at hx
      subst hx
      simp [errL, hne]
    | succ k =>
      simp only [List.take_succ_cons, errL] at h0 ⊢
      by_cases he : x.e = 0
      · simp only [he, ne_eq, not_true, if_false] at h0 ⊢
        exact ih h0 (by simpa using hx) hne
      · simp only [ne_eq, he, not_false_eq_true, if_true] at h0
set_option maxRecDepth 100000 in
set_option maxHeartbeats 3200000 in
theorem emade_dec {ask : List Giv} (n : Nod) (h1 : n.op ≠ 1) (h2 : n.op ≠ 2) {of : List Prt} {R : Nat → Prop} {A : Option Addr} {m c : Nat} (A2 : Option Addr) (n2 c2 : Nat) (w : World) (h : Prts w R A m c of) (hm : m = takesN n.op) (hd : decB n.op of = true) :
    Calls Tryz.prog 44 #[n.val, .slice A m c, .slice A2 n2 c2] w (MadeTo w (madeP ask n of)) := by
  have HB := Lib.hid (W0.below w n)
  have HP := Lib.hid (W0.part w n)
  have HZ := Lib.hid (W0.size w n)
  have HDC := Lib.hid (edec_any (h.up HB.out) hm)
  rw [hd] at HDC
  simp only [if_true] at HDC
  have HM := Lib.hid (made_dec (ask := ask) h1 h2 hd)
  clear h hm hd
  generalize madeP ask n of = pp at *
  obtain ⟨op, ⟨k, nn, s⟩, ⟨ac, an, am⟩⟩ := n
  simp only at h1 h2 HM HP HDC
  have b1 : (op == 1) = false := by rw [beq_eq_false_iff_ne]; exact h1
  have b2 : (op == 2) = false := by rw [beq_eq_false_iff_ne]; exact h2
  clear h1 h2
  have HMM : Hid (pp = ⟨[], ⟨1, truthN (decide (op = 13)), ⟨#[]⟩⟩, 0⟩) := HM
  generalize truthN (decide (op = 13)) = tn at *
  unfold Nod.val
  go_enter Tryz.func44, Tryz.ntmps44
  go_wp2_with (go_at_call 61; refine HDC.out.mono ?_; rintro e w1 ⟨rfl, hb1⟩
               have O1 := Lib.hid ((HP.out.below hb1 (by rw [HZ.out]; omega)).keep (w' := w1.alloc (.cells #[.int .i64 1, .int .i64 tn, .string ⟨#[]⟩] 40)) (Below.heap_alloc _ _ _ (by have := hb1.size; have := HZ.out; omega)))
               have D1 := Lib.hid ((below_step HB.out hb1).alloc (below_step HB.out hb1).size (.cells #[.int .i64 1, .int .i64 tn, .string ⟨#[]⟩] 40))
               have o0 := O1.out.cell
               have g0 := O1.out.frozen
               have k0 := (Bx.made w1 1 tn ⟨#[]⟩).c3
               clear hb1)
  try simp only [Exit.inBlock, Exit.then]
  refine bodyPost_ret (part_ret rfl rfl (ob_put5 O1.out _ _ _ _ _)) rfl ?_
  exact MadeTo.nobag HMM.out (below_put5 D1.out (by omega) _ _ _ _ _)
set_option maxRecDepth 100000 in
set_option maxHeartbeats 3200000 in
theorem emade_rest {ask : List Giv} (n : Nod) (h1 : n.op ≠ 1) (h2 : n.op ≠ 2) {of : List Prt} {R : Nat → Prop} {A : Option Addr} {m c : Nat} (A2 : Option Addr) (n2 c2 : Nat) (w : World) (h : Prts w R A m c of) (hm : m = takesN n.op) (hd : decB n.op of = false) :
    Calls Tryz.prog 44 #[n.val, .slice A m c, .slice A2 n2 c2] w (MadeTo w (madeP ask n of)) := by
  have HB := Lib.hid (W0.below w n)
  have HP := Lib.hid (W0.part w n)
  have HN := Lib.hid (W0.node w n)
  have HZ := Lib.hid (W0.size w n)
  have HDC := Lib.hid (edec_any (h.up HB.out) hm)
  rw [hd] at HDC
  simp only [Bool.false_eq_true, if_false] at HDC
  have HME := Lib.hid (fun he => made_err (ask := ask) h1 h2 hd he)
  have HMR := Lib.hid (fun he => made_reck (ask := ask) h1 h2 hd he)
  have HRK := Lib.hid (fun W (hW : Below w.heap.size w W) => ereck (h.up hW) hm h1 h2)
  have H := Lib.hid h
  have hle := Rw.le h
  have hcap := Rw.cap h
  have HL := Lib.hid (Rw.len h)
  unfold maxLen at hcap
  have hbig := Rw.big h
  clear h hm hd
  generalize madeP ask n of = pp at *
  obtain ⟨op, ⟨k, nn, s⟩, ⟨ac, an, am⟩⟩ := n
  simp only at h1 h2 HME HMR HRK HP HN HDC
  have b1 : (op == 1) = false := by rw [beq_eq_false_iff_ne]; exact h1
  have b2 : (op == 2) = false := by rw [beq_eq_false_iff_ne]; exact h2
  clear h1 h2
  obtain ⟨⟨⟨rk, rn, rs⟩, re⟩, hp⟩ : ∃ q, q = reckP op of := ⟨_, rfl⟩
  rw [← hp] at HMR HRK
  clear hp
  unfold Nod.val
  go_enter Tryz.func44, Tryz.ntmps44
  go_wp2_with (go_at_call 61; refine HDC.out.mono ?_; rintro e w1 ⟨rfl, hb1⟩
               have O1 := Lib.hid ((HP.out.below hb1 (by rw [HZ.out]; omega)).keep (w' := w1.alloc (.cells #[.int .i64 0, .int .i64 0, .string ⟨#[]⟩] 40)) (Below.heap_alloc _ _ _ (by have := hb1.size; have := HZ.out; omega)))
               have N1 := Lib.hid ((HN.out.below hb1 (by rw [HZ.out]; omega)).keep (w' := w1.alloc (.cells #[.int .i64 0, .int .i64 0, .string ⟨#[]⟩] 40)) (Below.heap_alloc _ _ _ (by have := hb1.size; have := HZ.out; omega)))
               have D1 := Lib.hid ((below_step HB.out hb1).alloc (below_step HB.out hb1).size (.cells #[.int .i64 0, .int .i64 0, .string ⟨#[]⟩] 40))
               clear hb1)
  generalize w1.alloc (.cells #[.int .i64 0, .int .i64 0, .string ⟨#[]⟩] 40) = W1 at *
  go_loopw [46] (fun i wr => ∃ k : Nat, k ≤ m ∧ i = .int .i64 k ∧ errL (of.take k) = 0 ∧ Below W1.heap.size W1 wr) (fun i _ => m - (intOf i).toNat)
  case atStart => exact ⟨0, Nat.zero_le _, rfl, rfl, Below.refl _ _⟩
  case round =>
    obtain ⟨k, hk, rfl, he, hb⟩ := hrel
    have HE := Lib.hid he
    have HW := Lib.hid hb
    have O2 := Lib.hid (O1.out.below hb O1.out.lt)
    have N2 := Lib.hid (N1.out.below hb N1.out.lt)
    have D2 := Lib.hid (below_step D1.out hb)
    clear he hb
    by_cases hlt : k < m
    · obtain ⟨b, o, p, Ap, np, cp, rfl, hRb, hbl, hx, hok, ⟨x0, x1, x2, x3, x4⟩, hin⟩ := (H.out.up D2.out).at_ hlt
      have HT := Lib.hid (errL_take HE.out hx)
      have HH := Lib.hid (errL_hit HE.out hx)
      obtain ⟨pb, ⟨pk, pn, ps⟩, pe⟩ := p
      simp only at x0 x1 x2 x3 x4 HT HH
      have q4 := (Ob.made wr 111 #[.slice Ap np cp, .int .i64 pk, .int .i64 pn, .string ps, .int .i64 pe]).cell 4
      clear hx hok hin hRb
      by_cases hpe : pe = 0
      · subst hpe
        go_wp2_with fail
        go_roundw
        case rel => exact ⟨k + 1, by omega, by go_num, HT.out, HW.out.alloc HW.out.size _⟩
        case measure => simp [intOf]; omega
      · have hne : (pe != 0) = true := by rw [bne_iff_ne]; exact hpe
        have HM := Lib.hid (HME.out (by rw [HH.out hpe]; exact hpe))
        have HHE := Lib.hid (HH.out hpe)
        clear hpe
        have O3 := Lib.hid (O2.out.keep (w' := wr.alloc (.cells #[.slice Ap np cp, .int .i64 pk, .int .i64 pn, .string ps, .int .i64 pe] 111)) (Below.heap_alloc _ _ _ O2.out.lt))
        have o0 := O3.out.cell
        have g0 := O3.out.frozen
        go_wp2_with fail
        try simp only [Exit.inBlock, Exit.then]
        refine bodyPost_ret (part_ret rfl rfl (ob_put5 O3.out _ _ _ _ _)) rfl ?_
        exact MadeTo.nobag (by rw [HM.out, HHE.out]; rfl) (below_put5 (D2.out.alloc D2.out.size _) (by omega) _ _ _ _ _)
    · obtain rfl : k = m := by omega
      have hT := HE.out
      rw [List.take_of_length_le (by have := HL.out; omega)] at hT
      have HM := Lib.hid (HMR.out hT)
      have n0 := N2.out.cell 0
      clear hT
      go_wp2_with (go_at_call 62; refine (HRK.out _ D2.out).mono ?_; rintro e w3 ⟨rfl, hb3⟩
                   have O4 := Lib.hid ((O2.out.below hb3 O2.out.lt).keep (w' := w3.alloc (.cells #[.int .i64 rk, .int .i64 rn, .string rs] 40)) (Below.heap_alloc _ _ _ (Nat.lt_of_lt_of_le O2.out.lt hb3.size)))
                   have D4 := Lib.hid ((below_step D2.out hb3).alloc (below_step D2.out hb3).size (.cells #[.int .i64 rk, .int .i64 rn, .string rs] 40))
                   have o0 := O4.out.cell
                   have g0 := O4.out.frozen
                   have k0 := (Bx.made w3 rk rn rs).c3
                   simp only [Vl.val]
                   clear hb3)
      try simp only [Exit.inBlock, Exit.then]
      refine bodyPost_ret (part_ret rfl rfl (ob_put5 O4.out _ _ _ _ _)) rfl ?_
      exact MadeTo.nobag HM.out (below_put5 D4.out (by omega) _ _ _ _ _)
theorem emade_any {ask : List Giv} (n : Nod) (hs : n.op = 1 → n.v.s.size ≤ 1000000) {of : List Prt} {R R2 : Nat → Prop} {A A2 : Option Addr} {m c n2 c2 : Nat} (w : World) (h : Prts w R A m c of) (hm : m = takesN n.op) (hA : Gvs w R2 A2 n2 c2 ask) (hG : ShortG ask) :
    Calls Tryz.prog 44 #[n.val, .slice A m c, .slice A2 n2 c2] w (MadeTo w (madeP ask n of)) := by
  by_cases h1 : n.op = 1
  · exact emade_1 ask n h1 (hs h1) of A m c A2 n2 c2 w
  by_cases h2 : n.op = 2
  · exact emade_2 n h2 of A m c w hA hG
  cases hd : decB n.op of with
  | true => exact emade_dec n h1 h2 A2 n2 c2 w h hm hd
  | false => exact emade_rest n h1 h2 A2 n2 c2 w h hm hd
end Go.Proofs.YtadjfkgnoklmiaaGreat
/- What a node makes is a value that memory bears; a right expression at each of its nodes. Plain. -/
namespace Go.Proofs.YtadjfkgnoklmiaaGreat
set_option linter.unusedVariables false
open Go.RowKit

theorem truthV_ok (b : Bool) : (truthV b).ok := by cases b <;> decide
theorem noneV_ok : noneV.ok := by decide
theorem ini0 : InI 0 := by decide
theorem ini2 : InI 2 := by decide
theorem ini3 : InI 3 := by decide
theorem ini4 : InI 4 := by decide
theorem numV_ok {n : Int} (h : InI n) : (numV n).ok := ⟨ini2, h, (by decide : (⟨#[]⟩ : ByteArray).size ≤ maxLen)⟩
def OkR (p : Vl × Int) : Prop := p.1.ok ∧ InI p.2
theorem okR_none {e : Int} (h : InI e) : OkR (noneV, e) := ⟨noneV_ok, h⟩
theorem okR_truth (b : Bool) : OkR (truthV b, 0) := ⟨truthV_ok b, ini0⟩
theorem lessOf_err (a b : Vl) : (lessOf a b).2 = 0 ∨ (lessOf a b).2 = 1 ∨ (lessOf a b).2 = 2 := by
  unfold lessOf
  repeat' split
  all_goals simp
theorem callV_ok (op : Int) (l : List Vl) : OkR (callV op l) := by
  unfold callV
  split
  · match l with
    | [] => exact okR_none (by decide)
    | [a] =>
      show OkR (notV a)
      unfold notV
      split
      · exact okR_truth _
      · exact okR_none (by decide)
    | [a, b] =>
      show OkR (callTwo op a b)
      unfold callTwo
      split
      · unfold sameV; split
        · exact okR_truth _
        · exact okR_none (by decide)
      · split
        · unfold lessV; split
          · exact okR_truth _
          · rcases lessOf_err a b with h | h | h <;> rw [h] <;> exact okR_none (by decide)
        · split
          · unfold bothV; split
            · exact okR_truth _
            · exact okR_none (by decide)
          · unfold reckV; split
            · by_cases h2 : In64 (opF op a.n b.n)
              · rw [fits_in h2]
                exact ⟨numV_ok h2, ini0⟩
              · rw [fits_out h2]
                exact okR_none ini3
            · exact okR_none (by decide)
    | _ :: _ :: _ :: _ => exact okR_none (by decide)
  · exact okR_none (by decide)
def OkP (p : Prt) : Prop := (p.v.ok ∧ InI p.e) ∧ (∀ v ∈ p.bag, v.ok) ∧ p.bag.length ≤ 140737488351232
theorem single_ok {l : List Vl} (h : ∀ v ∈ l, v.ok) : OkR (singleV l) := by
  match l, h with
  | [], _ => exact okR_none ini4
  | [v], h => exact ⟨h v (by simp), ini0⟩
  | _ :: _ :: _, _ => exact okR_none ini4
theorem reckP_ok (op : Int) {of : List Prt} (h : ∀ p ∈ of, OkP p) : OkR (reckP op of) := by
  unfold reckP
  split
  · match of, h with
    | [], _ => exact okR_none ini0
    | p :: _, h => exact single_ok (h p (by simp)).2.1
  · split
    · match of, h with
      | [], _ => exact okR_none ini0
      | p :: _, h =>
        have hp := (h p (by simp)).2.2
        exact ⟨numV_ok (by unfold InI; omega), ini0⟩
    · split
      · match of with
        | [] => exact okR_none ini0
        | [_] => exact okR_none ini0
        | _ :: _ :: _ => exact okR_truth _
      · exact callV_ok op _
theorem errL_ok {of : List Prt} (h : ∀ p ∈ of, OkP p) : InI (errL of) := by
  induction of with
  | nil => exact ini0
  | cons p r ih =>
    unfold errL
    split
    · exact (h p (by simp)).1.2
    · exact ih fun q hq => h q (by simp [hq])
theorem getE_ok (ask : List Giv) (a : Atr) : InI (getE ask a) := by
  unfold getE
  split
  · exact ini4
  · exact ini0
theorem madeP_ok {ask : List Giv} {n : Nod} {of : List Prt} (hn : n.v.ok) (h : ∀ p ∈ of, OkP p) : (madeP ask n of).v.ok ∧ InI (madeP ask n of).e := by
  unfold madeP
  split
  · exact ⟨hn, ini0⟩
  · split
    · exact ⟨noneV_ok, getE_ok _ _⟩
    · split
      · exact ⟨truthV_ok _, ini0⟩
      · split
        · exact ⟨noneV_ok, errL_ok h⟩
        · exact reckP_ok _ h
theorem Prts.oks {w : World} {R : Nat → Prop} {A : Option Addr} {n c : Nat} {l : List Prt} (h : Prts w R A n c l) : ∀ p ∈ l, OkP p := by
  intro p hp
  obtain ⟨j, hj, rfl⟩ := List.getElem_of_mem hp
  obtain ⟨b, o, x, A', n', c', e, _, _, hx, hok, _, hin⟩ := h.at_ (j := j) (by have := Rw.len h; omega)
  rw [List.getElem?_eq_getElem hj] at hx
  injection hx with hx
  subst hx
  exact ⟨hok, hin.oks, by rw [Rw.len hin]; exact Rw.big hin⟩

theorem runX_take : ∀ {l : List Nod} {s s' : List Bool} {k : Nat} {n : Nod}, runX l s = some s' → l[k]? = some n → ∃ u u', runX (l.take k) s = some u ∧ stepX n u = some u' ∧ runX (l.take (k + 1)) s = some u'
  | [], _, _, _, _, _, h => by simp at h
  | x :: l, s, s', 0, n, h, hn => by
    simp at hn
    subst hn
    simp only [runX] at h
    cases hs : stepX x s with
    | none => rw [hs] at h; cases h
    | some u => exact ⟨s, u, rfl, hs, by simp [runX, hs]⟩
  | x :: l, s, s', k + 1, n, h, hn => by
    simp only [runX] at h
    cases hs : stepX x s with
    | none => rw [hs] at h; cases h
    | some u =>
      rw [hs] at h
      obtain ⟨a, b, h1, h2, h3⟩ := runX_take h (by simpa using hn)
      refine ⟨a, b, ?_, h2, ?_⟩
      · simp only [List.take_succ_cons, runX, hs]; exact h1
      · simp only [List.take_succ_cons, runX, hs]; exact h3
theorem right_size {v : Vl} (h : v.right) : v.s.size ≤ 64 := by
  have e : v.s.size = v.l.length := by unfold Vl.l; rfl
  rw [e]
  unfold Vl.right RightV Named at h
  rcases h with ⟨_, h, _⟩ | ⟨_, h⟩ | ⟨_, _, h⟩ | ⟨_, h, _⟩ | ⟨_, _, h, _⟩
  all_goals first | (rw [h]; simp) | omega
theorem run_at {ask : List Giv} {l : List Nod} (h : exprE l = 0) {k : Nat} {n : Nod} (hn : l[k]? = some n) :
    takesN n.op ≤ (runP ask (l.take k) []).length ∧ runP ask (l.take (k + 1)) [] = stepP ask (runP ask (l.take k) []) n ∧ (n.op = 1 → n.v.s.size ≤ 1000000) ∧ (runP ask (l.take k) []).length ≤ k := by
  have hne : l ≠ [] := by rintro rfl; simp at hn
  obtain ⟨_, hr⟩ := exprE_ok h hne
  obtain ⟨u, u', h1, h2, h3⟩ := runX_take hr hn
  have hf := (runP_frame (ask := ask) (t := []) (st := []) h1 rfl).2
  obtain ⟨a, b, c⟩ := stepX_len h2
  refine ⟨by omega, ?_, fun h1 => ?_, ?_⟩
  · rw [take_next hn, runP_app]; rfl
  · unfold holdsB at c
    rw [if_pos h1] at c
    simp at c
    have := right_size c.1
    omega
  · have : ∀ (m : List Nod) (s : List Prt), (runP ask m s).length ≤ s.length + m.length := by
      intro m
      induction m with
      | nil => intro s; simp [runP]
      | cons x m ih =>
        intro s
        rw [runP_cons]
        have h1 := ih (stepP ask s x)
        have h2 : (stepP ask s x).length ≤ s.length + 1 := by unfold stepP; rw [List.length_append, List.length_take]; simp
        simp; omega
    have := this (l.take k) []
    rw [List.length_take] at this
    simp at this
    omega
theorem run_end {ask : List Giv} {l : List Nod} (h : exprE l = 0) (hn : l ≠ []) : ∃ p, runP ask l [] = [p] ∧ valP ask l = (p.v, p.e) := by
  obtain ⟨p, h1, h2⟩ := run_right (ask := ask) h hn
  exact ⟨p, h1 [], h2⟩
theorem valP_bad {ask : List Giv} {l : List Nod} (h : l = [] ∨ exprE l ≠ 0) : valP ask l = (noneV, 1) := if_pos h
end Go.Proofs.YtadjfkgnoklmiaaGreat
/- expr.Value. -/
namespace Go.Proofs.YtadjfkgnoklmiaaGreat
set_option linter.unusedVariables false
open Go.RowKit Go.Sort

theorem Gr.prts {w : World} {base n c : Nat} {A : Option Addr} {l : List Prt} (h : Gr 5 PartAt w base 111 A n c l) (hn : n ≤ 1000000) : Prts w (fun b => base ≤ b) A n c l := Gr.rw keeps_part h (by omega)
theorem round_part {ask : List Giv} {wr w1 : World} {base h c : Nat} {A A1 : Option Addr} {n1 c1 : Nat} {st : List Prt} {n : Nod} (G : Gr 5 PartAt wr base 111 A h c st) (hh : h ≤ 1000) (ht : takesN n.op ≤ h) (hn : n.v.ok)
    (hb : Below wr.heap.size wr w1) {lo : Nat} (hlo : wr.heap.size ≤ lo) (hv : Vls w1 (fun b => lo ≤ b) A1 n1 c1 (madeP ask n (st.drop (h - takesN n.op))).bag) :
    ∃ A' c' w', (Builtin.append_ #[108, 108] 108 #[.slice A (h - takesN n.op) c, .slice (some ⟨w1.heap.size, 0, none⟩) 1 1]).run Tryz.prog (w1.alloc (.cells #[.slice A1 n1 c1, .int .i64 (madeP ask n (st.drop (h - takesN n.op))).v.k, .int .i64 (madeP ask n (st.drop (h - takesN n.op))).v.n, .string (madeP ask n (st.drop (h - takesN n.op))).v.s, .int .i64 (madeP ask n (st.drop (h - takesN n.op))).e] 111)) = .ok (.slice A' (h - takesN n.op + 1) c') w' ∧
      Gr 5 PartAt w' base 111 A' (h - takesN n.op + 1) c' (stepP ask st n) ∧ Below base wr w' := by
  have hlen : st.length = h := Gr.len G
  have hok := madeP_ok (ask := ask) (of := st.drop (h - takesN n.op)) hn (fun p hp => (G.prts (by omega)).oks p (List.mem_of_mem_drop hp))
  have G1 := (Gr.below keeps_part G hb).take keeps_part (j := h - takesN n.op) (by omega)
  obtain ⟨A', c', w', r, g, b⟩ := push_part (p := madeP ask n (st.drop (h - takesN n.op))) G1 hok (hv.keep (Kept.refl _ _) (fun b hb' _ => by
    have := G.apart b (Nat.le_trans hlo hb')
    exact ⟨this.1, by rw [own_block A _ h c c]; exact this.2⟩)) (by omega)
  refine ⟨A', c', w', r, ?_, (hb.mono G.2).trans b⟩
  have : stepP ask st n = st.take (h - takesN n.op) ++ [madeP ask n (st.drop (h - takesN n.op))] := by unfold stepP; rw [hlen]
  rw [this]
  exact g

set_option maxRecDepth 100000 in
set_option maxHeartbeats 3200000 in
theorem eval_bad {ask : List Giv} {w : World} {R : Nat → Prop} {A : Option Addr} {n c : Nat} {l : List Nod} (h : Nds w R A n c l) (A2 : Option Addr) (n2 c2 : Nat) (hb : l = [] ∨ exprE l ≠ 0) :
    Calls Tryz.prog 25 #[.slice A n c, .slice A2 n2 c2] w fun e w' => e = .returned (.tuple #[(valP ask l).1.val, .int .i64 (valP ask l).2]) ∧ Below w.heap.size w w' := by
  have hle := Rw.le h
  have hcap := Rw.cap h
  unfold maxLen at hcap
  have HQ := Lib.hid (valP_bad (ask := ask) hb)
  have HX := Lib.hid (fun W (hW : Below w.heap.size w W) => expr_any W (h.keep (Kept.all hW R) (fun _ h _ => h)))
  have hlen := Rw.len h
  by_cases h0 : n = 0
  · subst h0
    clear h hb hlen HX
    go_enter Tryz.func25, Tryz.ntmps25
    go_wp2_with fail
    try simp only [Exit.inBlock, Exit.then]
    refine bodyPost_ret (box_ret2 rfl rfl rfl (Bx.made _ _ _ _)) rfl ?_
    exact ⟨eret_pair (v := noneV) HQ.out, below1 _ _⟩
  · have hz : ((n : Int) == 0) = false := by rw [beq_eq_false_iff_ne]; omega
    have he : exprE l ≠ 0 := hb.elim (fun e => absurd (by rw [← hlen, e]; rfl) h0) id
    have hne : (exprE l != 0) = true := by rw [bne_iff_ne]; exact he
    generalize exprE l = xe at *
    have HD := Lib.hid (below1 w (.cells #[.int .i64 0, .int .i64 0, .string ⟨#[]⟩] 40))
    clear h hb hlen he
    go_enter Tryz.func25, Tryz.ntmps25
    go_wp2_with (go_at_call 42; refine (HX.out _ HD.out).mono ?_; rintro e w1 ⟨rfl, hb1⟩
                 have R1 := Lib.hid ((Bx.made w 0 0 ⟨#[]⟩).then_ hb1)
                 have D1 := Lib.hid (Below.lit hb1)
                 have c0 := R1.out.c3
                 have f0 := R1.out.fz
                 clear hb1)
    try simp only [Exit.inBlock, Exit.then]
    refine bodyPost_ret (box_ret2 rfl rfl rfl (R1.out.put _ _ _)) rfl ?_
    exact ⟨eret_pair (v := noneV) HQ.out, below_put D1.out (Nat.le_refl _) _ _ _⟩
set_option maxRecDepth 100000 in
set_option maxHeartbeats 6400000 in
theorem eval_good {ask : List Giv} {w : World} {R R2 : Nat → Prop} {A A2 : Option Addr} {n c n2 c2 : Nat} {l : List Nod} (h : Nds w R A n c l) (hA : Gvs w R2 A2 n2 c2 ask) (hG : ShortG ask) (h0 : l ≠ []) (he : exprE l = 0) :
    Calls Tryz.prog 25 #[.slice A n c, .slice A2 n2 c2] w fun e w' => e = .returned (.tuple #[(valP ask l).1.val, .int .i64 (valP ask l).2]) ∧ Below w.heap.size w w' := by
  have hle := Rw.le h
  have hcap := Rw.cap h
  unfold maxLen at hcap
  have hl32 := (exprE_ok he h0).1
  have HL := Lib.hid (Rw.len h)
  have hn32 : n ≤ 32 := by have := HL.out; omega
  have HX := Lib.hid (fun W (hW : Below w.heap.size w W) => expr_any W (h.keep (Kept.all hW R) (fun _ h _ => h)))
  have hz : ((n : Int) == 0) = false := by rw [beq_eq_false_iff_ne]; have : l.length ≠ 0 := fun e => h0 (List.eq_nil_of_length_eq_zero e); have := HL.out; omega
  obtain ⟨pz, hpz, hvz⟩ := run_end (ask := ask) he h0
  have HEND := Lib.hid hpz
  have HV := Lib.hid hvz
  have HRUN := Lib.hid (fun (k : Nat) (x : Nod) (hx : l[k]? = some x) => run_at (ask := ask) he hx)
  have HND := Lib.hid (fun W (hW : Below w.heap.size w W) => h.keep (Kept.all hW R) (fun _ h _ => h))
  have HGV := Lib.hid (fun W (hW : Below w.heap.size w W) => hA.keep (Kept.all hW R2) (fun _ h _ => h))
  have HG := Lib.hid hG
  rw [he] at HX
  have HD := Lib.hid (below1 w (.cells #[.int .i64 0, .int .i64 0, .string ⟨#[]⟩] 40))
  generalize valP ask l = rr at *
  clear h hA hG h0 he hpz hvz hl32
  go_enter Tryz.func25, Tryz.ntmps25
  go_wp2_with (go_at_call 42; refine (HX.out _ HD.out).mono ?_; rintro e w1 ⟨rfl, hb1⟩
               have R1 := Lib.hid ((Bx.made w 0 0 ⟨#[]⟩).then_ hb1)
               have D1 := Lib.hid (Below.lit hb1)
               have Z1 := Lib.hid (Nat.lt_of_lt_of_le (Nat.lt_succ_self _) (size_al w (.cells #[.int .i64 0, .int .i64 0, .string ⟨#[]⟩] 40) ▸ hb1.size))
               clear hb1)
  go_loopw [6, 21] (fun out i wr => ∃ (k h : Nat) (A' : Option Addr) (c' : Nat), k ≤ n ∧ i = .int .i64 k ∧ out = .slice A' h c' ∧ Gr 5 PartAt wr (w.heap.size + 1) 111 A' h c' (runP ask (l.take k) []) ∧ Below (w.heap.size + 1) w1 wr) (fun out i _ => n - (intOf i).toNat)
  case atStart => exact ⟨0, 0, none, 0, Nat.zero_le _, rfl, rfl, Gr.nil _ _ Z1.out, Below.refl _ _⟩
  case round =>
    obtain ⟨k, hh, A', c', hk, rfl, rfl, hgr, hb⟩ := hrel
    have HGR := Lib.hid hgr
    have HB := Lib.hid hb
    have HW := Lib.hid (D1.out.trans (hb.mono (Nat.le_succ _)))
    have R2 := Lib.hid (R1.out.below hb (Nat.lt_succ_self _))
    clear hgr hb
    by_cases hlt : k < n
    · obtain ⟨b, o, x, rfl, hRb, hbl, hx, hok, c0, c1, c2', c3, c4, c5, c6⟩ := (HND.out wr HW.out).at_ hlt
      obtain ⟨ht, hst, hsx, hhk⟩ := HRUN.out k x hx
      have hlen : (runP ask (l.take k) []).length = hh := Gr.len HGR.out
      rw [hlen] at ht hhk
      generalize runP ask (l.take k) [] = st at *
      have HST := Lib.hid hst
      have HOK := Lib.hid hok
      have hhc : hh ≤ c' := Rw.le (HGR.out.prts (by omega))
      have hcm : c' ≤ maxLen := Rw.cap (HGR.out.prts (by omega))
      unfold maxLen at hcm
      have HTK := Lib.hid (etakes_any x.op)
      have d1 : Below wr.heap.size wr (wr.alloc (.cells #[.int .i64 x.op, .int .i64 x.v.k, .int .i64 x.v.n, .string x.v.s, .int .i64 x.a.cat, .string x.a.name, .bool x.a.must] 72)) := below1 _ _
      have hpr := (HGR.out.prts (by omega)).up d1
      have ND := Lib.hid (Ob.made wr 72 #[.int .i64 x.op, .int .i64 x.v.k, .int .i64 x.v.n, .string x.v.s, .int .i64 x.a.cat, .string x.a.name, .bool x.a.must])
      have DD := Lib.hid d1
      have HM := Lib.hid (fun W (hW : Below (wr.alloc (.cells #[.int .i64 x.op, .int .i64 x.v.k, .int .i64 x.v.n, .string x.v.s, .int .i64 x.a.cat, .string x.a.name, .bool x.a.must] 72)).heap.size (wr.alloc (.cells #[.int .i64 x.op, .int .i64 x.v.k, .int .i64 x.v.n, .string x.v.s, .int .i64 x.a.cat, .string x.a.name, .bool x.a.must] 72)) W) =>
        emade_any (ask := ask) x hsx W ((hpr.up hW).drop (m := hh - takesN x.op) (by omega)) (by omega) (HGV.out W (HW.out.trans ((DD.out.trans (hW.mono DD.out.size)).mono HW.out.size))) HG.out)
      have HR := Lib.hid (fun w1 (hb : Below wr.heap.size wr w1) A1 n1 c1 lo hlo hv => round_part (ask := ask) (n := x) HGR.out (by omega) ht hok.2.1 hb (A1 := A1) (n1 := n1) (c1 := c1) (lo := lo) hlo hv)
      obtain ⟨pm, hpm⟩ : ∃ pm, pm = madeP ask x (st.drop (hh - takesN x.op)) := ⟨_, rfl⟩
      rw [← hpm] at HM HR
      obtain ⟨tk, htk⟩ : ∃ tk, tk = takesN x.op := ⟨_, rfl⟩
      rw [← htk] at HTK HM HR ht
      obtain ⟨xo, ⟨xk, xn, xs⟩, ⟨xc, xm, xu⟩⟩ := x
      simp only at c0 c1 c2' c3 c4 c5 c6 HTK ND DD HM
      unfold Nod.val at HM
      simp only at HM
      have hsub : IntKind.i64.wrap ((hh : Int) - (tk : Int)) = ((hh - tk : Nat) : Int) := by rw [IntKind.wrap_i64]; omega
      clear hpr d1 hx hok hst hsx hlen hRb hpm htk
      go_upto_region 8 with (go_at_call 43; refine (HTK.out _).mono ?_; rintro e w2 ⟨rfl, rfl⟩)
      generalize wr.alloc (.cells #[.int .i64 xo, .int .i64 xk, .int .i64 xn, .string xs, .int .i64 xc, .string xm, .bool xu] 72) = W1 at *
      have hjh : hh - tk ≤ hh := by omega
      generalize hh - tk = jj at *
      have q0 : (0 : Int) ≤ (jj : Int) := by omega
      have q1 : (jj : Int) ≤ (c' : Int) := by omega
      have q2 : (jj : Int) ≤ (hh : Int) := by omega
      generalize hAq : (if c' = jj then A' else A'.map (·.add (jj * 5))) = Aq at *
      have KN : Hid (∀ W, Below W1.heap.size W1 W → Ob W wr.heap.size 72 #[.int .i64 xo, .int .i64 xk, .int .i64 xn, .string xs, .int .i64 xc, .string xm, .bool xu]) := by
        show ∀ W, _ → _
        intro W hb
        exact ND.out.below hb ND.out.lt
      refine wp_region_held_tail (fun w' => Below W1.heap.size W1 w') 10 (by kernel_rfl) (by kernel_rfl) ?_
      intro G
      change HeadW _ _ _ _ _ _ _ _ _ _ (W1.drewN 1)
      have S0 := Lib.hid (below_drewN (Below.refl W1.heap.size W1) 1)
      generalize W1.drewN 1 = v0 at *
      refine HeadW_take (i := 0) (v := ?_) G rfl (by kernel_rfl) (by kernel_rfl) (by kernel_rfl) (fun _ _ _ h => h) (Or.inl ⟨by rfl, ?_⟩) S0.out ?_
      rotate_left
      · intro wz hS
        go_simp
        try with_reducible rfl
      refine HeadW_take (i := 1) (v := ?_) G rfl (by kernel_rfl) (by kernel_rfl) (by kernel_rfl) (fun _ _ _ h => h) (Or.inl ⟨by rfl, ?_⟩) S0.out ?_
      rotate_left
      · intro wz hS
        go_simp
        try with_reducible rfl
      refine HeadW_take (i := 2) (v := ?_) G rfl (by kernel_rfl) (by kernel_rfl) (by kernel_rfl) (fun _ _ _ h => h) (Or.inl ⟨by rfl, ?_⟩) S0.out ?_
      rotate_left
      · intro wz hS
        go_simp
        try with_reducible rfl
      refine HeadW_take (i := 3) (v := ?_) G rfl (by kernel_rfl) (by kernel_rfl) (by kernel_rfl) (fun _ _ _ h => h) (Or.inl ⟨by rfl, ?_⟩) S0.out ?_
      rotate_left
      · intro wz hS
        have hk0 := (KN.out _ hS).cell 0
        have hk1 := (KN.out _ hS).cell 1
        have hk2 := (KN.out _ hS).cell 2
        have hk3 := (KN.out _ hS).cell 3
        have hk4 := (KN.out _ hS).cell 4
        have hk5 := (KN.out _ hS).cell 5
        have hk6 := (KN.out _ hS).cell 6
        go_simp
        try with_reducible rfl
      refine HeadW_take (i := 4) (v := ?_) G rfl (by kernel_rfl) (by kernel_rfl) (by kernel_rfl) (fun _ _ _ h => h) (Or.inl ⟨by rfl, ?_⟩) S0.out ?_
      rotate_left
      · intro wz hS
        go_simp
        try with_reducible rfl
      refine HeadW_take (i := 5) (v := ?_) G rfl (by kernel_rfl) (by kernel_rfl) (by kernel_rfl) (fun _ _ _ h => h) (Or.inl ⟨by rfl, ?_⟩) S0.out ?_
      rotate_left
      · intro wz hS
        go_simp
        try with_reducible rfl
      refine HeadW_take (i := 6) (v := ?_) G rfl (by kernel_rfl) (by kernel_rfl) (by kernel_rfl) (fun _ _ _ h => h) (Or.inl ⟨by rfl, ?_⟩) S0.out ?_
      rotate_left
      · intro wz hS
        go_simp
        try rw [hAq]
        try with_reducible rfl
      refine HeadW_take (i := 7) (v := ?_) G rfl (by kernel_rfl) (by kernel_rfl) (by kernel_rfl) (fun _ _ _ h => h) (Or.inl ⟨by rfl, ?_⟩) S0.out ?_
      rotate_left
      · intro wz hS
        go_simp
        try with_reducible rfl
      refine HeadW_ready (rs := [8]) (by kernel_rfl) rfl rfl ?_
      refine AllW.cons rfl (fun K hK => ?_) AllW.nil
      go_simp
      refine (HM.out _ S0.out).mono ?_
      rintro e v2 ⟨A3, n3, c3, rfl, hb, hv⟩
      have S2 := Lib.hid (S0.out.trans (hb.mono S0.out.size))
      have hwv : Below wr.heap.size wr v2 := DD.out.trans (S2.out.mono DD.out.size)
      obtain ⟨A4, c4, v4, r4, g4, b4⟩ := HR.out v2 hwv A3 n3 c3 _ (Nat.le_trans DD.out.size S0.out.size) hv
      have R4 := Lib.hid r4
      have G4 := Lib.hid g4
      have B4 := Lib.hid (HB.out.trans b4)
      refine hK _ _ S2.out ?_
      clear hK K hb hv hwv r4 g4 b4
      refine HeadW_ready (rs := [9]) (by kernel_rfl) rfl rfl ?_
      refine AllW.cons rfl (fun K hK => ?_) AllW.nil
      go_simp
      refine hK _ _ (S2.out.alloc S2.out.size _) ?_
      clear hK K
      intro _
      refine ⟨by kernel_rfl, ?_⟩
      simp only [List.drop_succ_cons, List.drop_zero]
      at_builtin
      refine wpList_append_run rfl _ _ _ _ rfl rfl rfl R4.out ?_
      go_wp2_with fail
      go_roundw
      case rel => exact ⟨k + 1, jj + 1, A4, c4, by omega, by go_num, rfl, by rw [HST.out]; exact G4.out, B4.out⟩
      case measure => simp [intOf]; omega
    · obtain rfl : k = n := by omega
      have hg := HGR.out
      rw [List.take_of_length_le (by have := HL.out; omega), HEND.out] at hg
      obtain rfl : hh = 1 := (Gr.len hg).symm
      obtain ⟨b, o, x, Ax, nx, cx, rfl, hbb, _, hx, _, ⟨_, x1, x2, x3, x4⟩, _⟩ := (hg.prts (by omega)).at_ (j := 0) (by omega)
      simp at hx
      subst hx
      have hle' : 1 ≤ c' := Rw.le (hg.prts (by omega))
      obtain ⟨pb, ⟨pk, pn, ps⟩, pe⟩ := pz
      simp only [Nat.zero_mul, Nat.add_zero] at x1 x2 x3 x4
      have hbn : b ≠ w.heap.size := by omega
      clear hg
      go_upto_region 10 with fail
      refine wp_region_held_tail (fun w' => w'.heap[b]? = wr.heap[b]?) 9 (by kernel_rfl) (by kernel_rfl) ?_
      intro G
      change HeadW _ _ _ _ _ _ _ _ _ _ (wr.drewN 1)
      have S0 : Hid ((wr.drewN 1).heap[b]? = wr.heap[b]?) := rfl
      have R3 := Lib.hid (R2.out.drewN 1)
      have D3 := Lib.hid (below_drewN HW.out 1)
      generalize wr.drewN 1 = v0 at *
      refine HeadW_take (i := 0) (v := ?_) G rfl (by kernel_rfl) (by kernel_rfl) (by kernel_rfl) (fun _ _ _ h => h) (Or.inl ⟨by rfl, ?_⟩) S0.out ?_
      rotate_left
      · intro wz hS
        go_simp
        try with_reducible rfl
      refine HeadW_take (i := 1) (v := ?_) G rfl (by kernel_rfl) (by kernel_rfl) (by kernel_rfl) (fun _ _ _ h => h) (Or.inl ⟨by rfl, ?_⟩) S0.out ?_
      rotate_left
      · intro wz hS
        go_simp
        try with_reducible rfl
      refine HeadW_take (i := 2) (v := ?_) G rfl (by kernel_rfl) (by kernel_rfl) (by kernel_rfl) (fun _ _ _ h => h) (Or.inl ⟨by rfl, ?_⟩) S0.out ?_
      rotate_left
      · intro wz hS
        go_simp
        try with_reducible rfl
      refine HeadW_take (i := 3) (v := ?_) G rfl (by kernel_rfl) (by kernel_rfl) (by kernel_rfl) (fun _ _ _ h => h) (Or.inl ⟨by rfl, ?_⟩) S0.out ?_
      rotate_left
      · intro wz hS
        have y1 := (World.cell?_of_block hS).trans x1
        have y2 := (World.cell?_of_block hS).trans x2
        have y3 := (World.cell?_of_block hS).trans x3
        have y4 := (World.cell?_of_block hS).trans x4
        go_simp
        try with_reducible rfl
      refine HeadW_take (i := 4) (v := ?_) G rfl (by kernel_rfl) (by kernel_rfl) (by kernel_rfl) (fun _ _ _ h => h) (Or.inl ⟨by rfl, ?_⟩) S0.out ?_
      rotate_left
      · intro wz hS
        go_simp
        try with_reducible rfl
      refine HeadW_take (i := 5) (v := ?_) G rfl (by kernel_rfl) (by kernel_rfl) (by kernel_rfl) (fun _ _ _ h => h) (Or.inl ⟨by rfl, ?_⟩) S0.out ?_
      rotate_left
      · intro wz hS
        go_simp
        try with_reducible rfl
      refine HeadW_take (i := 6) (v := ?_) G rfl (by kernel_rfl) (by kernel_rfl) (by kernel_rfl) (fun _ _ _ h => h) (Or.inl ⟨by rfl, ?_⟩) S0.out ?_
      rotate_left
      · intro wz hS
        go_simp
        try with_reducible rfl
      refine HeadW_take (i := 7) (v := ?_) G rfl (by kernel_rfl) (by kernel_rfl) (by kernel_rfl) (fun _ _ _ h => h) (Or.inl ⟨by rfl, ?_⟩) S0.out ?_
      rotate_left
      · intro wz hS
        have y1 := (World.cell?_of_block hS).trans x1
        have y2 := (World.cell?_of_block hS).trans x2
        have y3 := (World.cell?_of_block hS).trans x3
        have y4 := (World.cell?_of_block hS).trans x4
        go_simp
        try with_reducible rfl
      have c0 := R3.out.c3
      have f0 := R3.out.fz
      have R4 := R3.out.put pk pn ps
      have f1 := (R3.out.put pk pn ps).fz
      refine HeadW_ready (rs := [8]) (by kernel_rfl) rfl rfl ?_
      refine AllW.cons rfl (fun K hK => ?_) AllW.nil
      go_simp
      refine hK _ _ (by
        show (World.heap _)[b]? = _
        rw [Below.heap_setCell _ _ _ _ (by show b ≠ w.heap.size; exact hbn), Below.heap_setCell _ _ _ _ (by show b ≠ w.heap.size; exact hbn), Below.heap_setCell _ _ _ _ (by show b ≠ w.heap.size; exact hbn)]
        exact S0.out) ?_
      clear hK K
      intro _
      refine ⟨by kernel_rfl, ?_⟩
      simp only [List.drop_succ_cons, List.drop_zero]
      go_wp2_with fail
      try simp only [Exit.inBlock, Exit.then]
      refine bodyPost_ret (box_ret2 rfl rfl rfl (R3.out.put _ _ _)) rfl ?_
      exact ⟨eret_pair HV.out, below_put D3.out (Nat.le_refl _) _ _ _⟩
theorem eval_any {ask : List Giv} {w : World} {R R2 : Nat → Prop} {A A2 : Option Addr} {n c n2 c2 : Nat} {l : List Nod} (h : Nds w R A n c l) (hA : Gvs w R2 A2 n2 c2 ask) (hG : ShortG ask) :
    Calls Tryz.prog 25 #[.slice A n c, .slice A2 n2 c2] w fun e w' => e = .returned (.tuple #[(valP ask l).1.val, .int .i64 (valP ask l).2]) ∧ Below w.heap.size w w' := by
  by_cases h0 : l = []
  · exact eval_bad h A2 n2 c2 (.inl h0)
  · by_cases he : exprE l = 0
    · exact eval_good h hA hG h0 he
    · exact eval_bad h A2 n2 c2 (.inr he)
end Go.Proofs.YtadjfkgnoklmiaaGreat
/- expr.Cond. -/
namespace Go.Proofs.YtadjfkgnoklmiaaGreat
set_option linter.unusedVariables false
open Go.RowKit Go.Sort

theorem etruth_t (w : World) : Calls Tryz.prog 26 #[.bool true] w fun e w' => e = .returned (.agg #[.int .i64 1, .int .i64 1, .string ⟨#[]⟩]) ∧ Below w.heap.size w w' := etruth_any true w
theorem etruth_f (w : World) : Calls Tryz.prog 26 #[.bool false] w fun e w' => e = .returned (.agg #[.int .i64 1, .int .i64 0, .string ⟨#[]⟩]) ∧ Below w.heap.size w w' := etruth_any false w
theorem condV_veq (k m : Int) (s : ByteArray) : condV ⟨k, m, s⟩ = if veq ⟨k, m, s⟩ ⟨1, 1, ⟨#[]⟩⟩ = true then 2 else if veq ⟨k, m, s⟩ ⟨1, 0, ⟨#[]⟩⟩ = true then 0 else 1 := by
  rcases condV_cases ⟨k, m, s⟩ with ⟨h1, h2⟩ | ⟨h1, h2⟩ | ⟨⟨h1, h3⟩, h2⟩ <;> rw [h2]
  · have ht : veq ⟨k, m, s⟩ ⟨1, 1, ⟨#[]⟩⟩ = true := veq_true h1
    rw [ht, if_pos rfl]
  · have hne : veq ⟨k, m, s⟩ ⟨1, 1, ⟨#[]⟩⟩ = false := veq_false (by rw [h1]; exact truth_ne.symm)
    have ht : veq ⟨k, m, s⟩ ⟨1, 0, ⟨#[]⟩⟩ = true := veq_true h1
    rw [hne, if_neg (by simp), ht, if_pos rfl]
  · have hne : veq ⟨k, m, s⟩ ⟨1, 1, ⟨#[]⟩⟩ = false := veq_false h1
    have hnf : veq ⟨k, m, s⟩ ⟨1, 0, ⟨#[]⟩⟩ = false := veq_false h3
    rw [hne, hnf, if_neg (by simp), if_neg (by simp)]
set_option maxRecDepth 100000 in
set_option maxHeartbeats 3200000 in
theorem econd_any {ask : List Giv} {w : World} {R R2 : Nat → Prop} {A A2 : Option Addr} {n c n2 c2 : Nat} {l : List Nod} (h : Nds w R A n c l) (hA : Gvs w R2 A2 n2 c2 ask) (hG : ShortG ask) :
    Calls Tryz.prog 13 #[.slice A n c, .slice A2 n2 c2] w fun e w' => e = .returned (.int .i64 (condP ask l)) ∧ Below w.heap.size w w' := by
  have hle := Rw.le h
  have hcap := Rw.cap h
  have hlen := Rw.len h
  unfold maxLen at hcap
  have HVAL := Lib.hid (eval_any h hA hG)
  by_cases h0 : n = 0
  · subst h0
    have hl : l = [] := List.eq_nil_of_length_eq_zero hlen
    have HQ : Hid (condP ask l = 2) := by show _ = _; unfold condP; rw [if_pos hl]
    clear h hA HVAL hlen
    go_enter Tryz.func13, Tryz.ntmps13
    go_wp2_with fail
    go_ret
    exact ⟨ret_int HQ.out.symm, Below.refl _ _⟩
  have hz : ((n : Int) == 0) = false := by rw [beq_eq_false_iff_ne]; omega
  have hl : l ≠ [] := by rintro rfl; exact h0 hlen.symm
  have HQ : Hid (condP ask l = condV (valP ask l).1) := condP_val hl
  generalize condP ask l = cc at *
  obtain ⟨⟨⟨k, m, s⟩, ee⟩, hp⟩ : ∃ q, q = valP ask l := ⟨_, rfl⟩
  rw [← hp] at HVAL HQ
  have HT := Lib.hid etruth_t
  have HF := Lib.hid etruth_f
  have e1 := fun W => val_eq k m 1 1 s ⟨#[]⟩ W
  have e2 := fun W => val_eq k m 1 0 s ⟨#[]⟩ W
  have HQ' : Hid (cc = if veq ⟨k, m, s⟩ ⟨1, 1, ⟨#[]⟩⟩ = true then 2 else if veq ⟨k, m, s⟩ ⟨1, 0, ⟨#[]⟩⟩ = true then 0 else 1) := by
    show _ = _
    rw [HQ.out]
    exact condV_veq k m s
  generalize veq ⟨k, m, s⟩ ⟨1, 1, ⟨#[]⟩⟩ = v1 at *
  generalize veq ⟨k, m, s⟩ ⟨1, 0, ⟨#[]⟩⟩ = v2 at *
  clear h hA hlen h0 hl hp HQ
  cases v1
  · cases v2
    · have hcc : cc = 1 := HQ'.out
      subst hcc
      go_enter Tryz.func13, Tryz.ntmps13
      go_wp2_with (first
        | (go_at_call 25; refine HVAL.out.mono ?_; rintro e w1 ⟨rfl, hb1⟩; have B1 := Lib.hid (hb1.alloc hb1.size (.cells #[.int .i64 k, .int .i64 m, .string s] 40)); simp only [Vl.val]; clear hb1)
        | (go_at_call 26; (with_reducible refine (HT.out _).mono ?_); rintro e w2 ⟨rfl, hb2⟩; have B2 := Lib.hid (below_step B1.out hb2); clear hb2)
        | (go_at_call 26; (with_reducible refine (HF.out _).mono ?_); rintro e w3 ⟨rfl, hb3⟩; have B3 := Lib.hid (below_step B2.out hb3); clear hb3))
      go_ret
      exact ⟨rfl, B3.out⟩
    · have hcc : cc = 0 := HQ'.out
      subst hcc
      go_enter Tryz.func13, Tryz.ntmps13
      go_wp2_with (first
        | (go_at_call 25; refine HVAL.out.mono ?_; rintro e w1 ⟨rfl, hb1⟩; have B1 := Lib.hid (hb1.alloc hb1.size (.cells #[.int .i64 k, .int .i64 m, .string s] 40)); simp only [Vl.val]; clear hb1)
        | (go_at_call 26; (with_reducible refine (HT.out _).mono ?_); rintro e w2 ⟨rfl, hb2⟩; have B2 := Lib.hid (below_step B1.out hb2); clear hb2)
        | (go_at_call 26; (with_reducible refine (HF.out _).mono ?_); rintro e w3 ⟨rfl, hb3⟩; have B3 := Lib.hid (below_step B2.out hb3); clear hb3))
      go_ret
      exact ⟨rfl, B3.out⟩
  · have hcc : cc = 2 := HQ'.out
    subst hcc
    go_enter Tryz.func13, Tryz.ntmps13
    go_wp2_with (first
      | (go_at_call 25; refine HVAL.out.mono ?_; rintro e w1 ⟨rfl, hb1⟩; have B1 := Lib.hid (hb1.alloc hb1.size (.cells #[.int .i64 k, .int .i64 m, .string s] 40)); simp only [Vl.val]; clear hb1)
      | (go_at_call 26; (with_reducible refine (HT.out _).mono ?_); rintro e w2 ⟨rfl, hb2⟩; have B2 := Lib.hid (below_step B1.out hb2); clear hb2))
    go_ret
    exact ⟨rfl, B2.out⟩
end Go.Proofs.YtadjfkgnoklmiaaGreat
/- vars.Ask. -/
namespace Go.Proofs.YtadjfkgnoklmiaaGreat
set_option linter.unusedVariables false
open Go.RowKit

set_option maxRecDepth 100000 in
set_option maxHeartbeats 1600000 in
theorem vask_any {w : World} {R R2 : Nat → Prop} {A A2 : Option Addr} {n c n2 c2 : Nat} {ask : List Giv} {a : Atm} (ha : Nds w R A n c a.c) (hok : a.m.ok) (hA : Gvs w R2 A2 n2 c2 ask) (hG : ShortG ask) :
    Calls Tryz.prog 9 #[.agg #[.int .i64 a.m.a.cat, .string a.m.a.name, .bool a.m.a.must, .int .i64 a.m.op, .int .i64 a.m.v.k, .int .i64 a.m.v.n, .string a.m.v.s, .slice A n c], .slice A2 n2 c2] w fun e w' => e = .returned (.int .i64 (askP ask a)) ∧ Below w.heap.size w w' := by
  have b1 : Below w.heap.size w (w.alloc (.cells #[.int .i64 a.m.a.cat, .string a.m.a.name, .bool a.m.a.must, .int .i64 a.m.op, .int .i64 a.m.v.k, .int .i64 a.m.v.n, .string a.m.v.s, .slice A n c] 45)) := (Below.refl _ _).alloc (Nat.le_refl _) _
  have OB := Lib.hid (Ob.made w 45 #[.int .i64 a.m.a.cat, .string a.m.a.name, .bool a.m.a.must, .int .i64 a.m.op, .int .i64 a.m.v.k, .int .i64 a.m.v.n, .string a.m.v.s, .slice A n c])
  have B1 := Lib.hid b1
  have hlen := ha.len
  have cB := OB.out.c8e
  by_cases h0 : n = 0
  · have e : askP ask a = matchI ask a.m := if_pos (List.eq_nil_of_length_eq_zero (by omega))
    have HC : Calls Tryz.prog 21 #[.agg #[.int .i64 a.m.a.cat, .string a.m.a.name, .bool a.m.a.must, .int .i64 a.m.op, .int .i64 a.m.v.k, .int .i64 a.m.v.n, .string a.m.v.s], .slice A2 n2 c2] (w.alloc (.cells #[.int .i64 a.m.a.cat, .string a.m.a.name, .bool a.m.a.must, .int .i64 a.m.op, .int .i64 a.m.v.k, .int .i64 a.m.v.n, .string a.m.v.s, .slice A n c] 45)) fun e w' => e = .returned (.int .i64 (askP ask a)) ∧ Below (w.alloc (.cells #[.int .i64 a.m.a.cat, .string a.m.a.name, .bool a.m.a.must, .int .i64 a.m.op, .int .i64 a.m.v.k, .int .i64 a.m.v.n, .string a.m.v.s, .slice A n c] 45)).heap.size (w.alloc (.cells #[.int .i64 a.m.a.cat, .string a.m.a.name, .bool a.m.a.must, .int .i64 a.m.op, .int .i64 a.m.v.k, .int .i64 a.m.v.n, .string a.m.v.s, .slice A n c] 45)) w' := by
      rw [e]
      exact tgmatch_any a.m hok.2.2.2.2 (hA.keep (Kept.all b1 R2) (fun _ h _ => h)) hG
    have HCC := Lib.hid HC
    subst h0
    generalize askP ask a = r at *
    clear HC e hlen ha b1 hA hok
    go_enter Tryz.func9, Tryz.ntmps9
    go_wp2_with fail
    refine HCC.out.mono ?_
    rintro e w1 ⟨rfl, hb⟩
    have HB := Lib.hid (below_step B1.out hb)
    clear hb
    go_wp2_with fail
    go_ret
    exact ⟨rfl, HB.out⟩
  · have e : askP ask a = condP ask a.c := if_neg (by intro e; rw [e] at hlen; exact h0 hlen.symm)
    have HC := econd_any (ha.keep (Kept.all b1 R) (fun _ h _ => h)) (hA.keep (Kept.all b1 R2) (fun _ h _ => h)) hG
    rw [← e] at HC
    have HCC := Lib.hid HC
    have hpos : 0 < n := by omega
    generalize askP ask a = r at *
    clear HC e hlen ha b1 hA hok
    go_enter Tryz.func9, Tryz.ntmps9
    go_wp2_with fail
    refine HCC.out.mono ?_
    rintro e w1 ⟨rfl, hb⟩
    have HB := Lib.hid (below_step B1.out hb)
    clear hb
    go_wp2_with fail
    go_ret
    exact ⟨rfl, HB.out⟩
end Go.Proofs.YtadjfkgnoklmiaaGreat
/- bailiffkeep: how much of a target may be gone through. -/
namespace Go.Proofs.YtadjfkgnoklmiaaGreat
set_option linter.unusedVariables false
open Go.RowKit

theorem takes1_any {w : World} {g m n : Nat} (hl : Lf w g m) (hm : m ≤ 3000) (hn : n < maxLen) :
    Calls Tryz.prog 15 #[.pointer (some ⟨g, 0, none⟩), .int .i64 (1 + (n : Int))] w fun e w' => e = .returned (.bool (decide (1 + n ≤ m))) ∧ Only g w w' ∧ (1 + n ≤ m → Lf w' g (m - (1 + n))) := by
  have := takes_any (n := 1 + n) hl hm (by omega)
  unfold Taking at this
  rwa [show ((1 + n : Nat) : Int) = 1 + (n : Int) by omega] at this

set_option maxRecDepth 100000 in
set_option maxHeartbeats 1600000 in
theorem ktarget_any {w : World} {R : Nat → Prop} {g m n c : Nat} {A : Option Addr} {l : Tgt} (hl : Lf w g m) (hm : m ≤ 3000) (hR : ∀ b, R b → b ≠ g) (h : Tg w R A n c l) :
    Taking 27 #[.pointer (some ⟨g, 0, none⟩), .slice A n c] w g m (tgC l) := by
  have hle := Rw.le h
  have hcap := Rw.cap h
  have HL := Lib.hid (Rw.len h)
  have hbig := Rw.big h
  have HT := Lib.hid (takes1_any (n := n) hl hm (by unfold maxLen; omega))
  have H := Lib.hid h
  have HR := Lib.hid hR
  have HM := Lib.hid hm
  unfold maxLen at hcap
  unfold Taking
  have HC : Hid (tgC l = 1 + n + sumC anyC l) := by show tgC l = _; unfold tgC; rw [HL.out]
  generalize hcc : tgC l = cc at *
  clear hcc h hl hR hm
  by_cases h1 : 1 + n ≤ m
  · rw [decide_eq_true h1] at HT
    have H1 := Lib.hid h1
    clear h1
    go_enter Tryz.func27, Tryz.ntmps27
    go_wp2_with (go_at_call 15; refine HT.out.mono ?_; rintro e w1 ⟨rfl, hb, hw⟩; have B1 := Lib.hid hb; have W1 := Lib.hid (hw H1.out); clear hb hw)
    go_loopw [19] (fun i wr => ∃ k mk : Nat, k ≤ n ∧ i = .int .i64 k ∧ sumC anyC (l.take k) + mk = m - (1 + n) ∧ Lf wr g mk ∧ Only g w wr) (fun i _ => n - (intOf i).toNat)
    case atStart => exact ⟨0, m - (1 + n), Nat.zero_le _, rfl, by rw [sumC_zero]; omega, W1.out, B1.out⟩
    case round =>
      obtain ⟨wo, hwo⟩ : ∃ wo, wo = wr := ⟨wr, rfl⟩
      subst hwo
      obtain ⟨k, mk, hk, rfl, hs, hlf, hb⟩ := hrel
      have HS := Lib.hid hs
      have HB := Lib.hid hb
      have HF := Lib.hid hlf
      clear hs hb hlf
      by_cases hlt : k < n
      · obtain ⟨b, o, x, A', n', c', rfl, hRb, hbl, hx, c0, hin⟩ := (H.out.keep (HB.out.kept HR.out) (fun _ h _ => h)).at_ hlt
        have HX := Lib.hid hx
        have hle' := Rw.le hin
        have hcap' := Rw.cap hin
        have hbig' := Rw.big hin
        have HL' := Lib.hid (Rw.len hin)
        have HIN := Lib.hid hin
        have hsx := sumC_le (f := anyC) hx
        have hex : anyC x = 1 + n' + sumC allC x := by unfold anyC; rw [Rw.len hin]
        have HSX := Lib.hid hsx
        have HEX := Lib.hid hex
        clear hx hin hsx hex
        by_cases h2 : 1 + n' ≤ mk
        · have HT2 := Lib.hid (takes1_any (n := n') HF.out (by have := HS.out; have := HM.out; omega) (by unfold maxLen; omega))
          rw [decide_eq_true h2] at HT2
          unfold maxLen at hcap'
          have H2 := Lib.hid h2
          clear h2
          go_wp2_with (go_at_call 15; refine HT2.out.mono ?_; rintro e w2 ⟨rfl, hb, hw⟩; have B2 := Lib.hid hb; have W2 := Lib.hid (hw H2.out); clear hb hw)
          go_loopw [31] (fun i wq => ∃ k2 m2 : Nat, k2 ≤ n' ∧ i = .int .i64 k2 ∧ sumC allC (x.take k2) + m2 = mk - (1 + n') ∧ Lf wq g m2 ∧ Only g wo wq) (fun i _ => n' - (intOf i).toNat)
          case atStart => exact ⟨0, mk - (1 + n'), Nat.zero_le _, rfl, by rw [sumC_zero]; omega, W2.out, B2.out⟩
          case round =>
            obtain ⟨wq, hwq⟩ : ∃ wq, wq = wr := ⟨wr, rfl⟩
            subst hwq
            obtain ⟨k2, m2, hk2, rfl, hs, hlf, hb⟩ := hrel
            have HS2 := Lib.hid hs
            have HB2 := Lib.hid hb
            have HF2 := Lib.hid hlf
            clear hs hb hlf
            by_cases hlt2 : k2 < n'
            · obtain ⟨b2, o2, y, A2, n2, c2, rfl, hRb2, hbl2, hy, d0, hin2⟩ := (HIN.out.keep (HB2.out.kept HR.out) (fun _ h _ => h)).at_ hlt2
              have HY := Lib.hid hy
              have hle2 := Rw.le hin2
              have hcap2 := Rw.cap hin2
              have hbig2 := Rw.big hin2
              have HL2 := Lib.hid (Rw.len hin2)
              have HIN2 := Lib.hid hin2
              have hsy := sumC_le (f := allC) hy
              have hey : allC y = 1 + n2 + sumC matC y := by unfold allC; rw [Rw.len hin2]
              have HSY := Lib.hid hsy
              have HEY := Lib.hid hey
              clear hy hin2 hsy hey
              by_cases h3 : 1 + n2 ≤ m2
              · have HT3 := Lib.hid (takes1_any (n := n2) HF2.out (by have := HS2.out; have := HS.out; have := HM.out; omega) (by unfold maxLen; omega))
                rw [decide_eq_true h3] at HT3
                unfold maxLen at hcap2
                have H3 := Lib.hid h3
                clear h3
                go_wp2_with (go_at_call 15; refine HT3.out.mono ?_; rintro e w3 ⟨rfl, hb, hw⟩; have B3 := Lib.hid hb; have W3 := Lib.hid (hw H3.out); clear hb hw)
                go_loopw [43] (fun i wz => ∃ k3 m3 : Nat, k3 ≤ n2 ∧ i = .int .i64 k3 ∧ sumC matC (y.take k3) + m3 = m2 - (1 + n2) ∧ Lf wz g m3 ∧ Only g wq wz) (fun i _ => n2 - (intOf i).toNat)
                case atStart => exact ⟨0, m2 - (1 + n2), Nat.zero_le _, rfl, by rw [sumC_zero]; omega, W3.out, B3.out⟩
                case round =>
                  obtain ⟨wz, hwz⟩ : ∃ wz, wz = wr := ⟨wr, rfl⟩
                  subst hwz
                  obtain ⟨k3, m3, hk3, rfl, hs, hlf, hb⟩ := hrel
                  have HS3 := Lib.hid hs
                  have HB3 := Lib.hid hb
                  have HF3 := Lib.hid hlf
                  clear hs hb hlf
                  by_cases hlt3 : k3 < n2
                  · obtain ⟨b3, o3, z, rfl, hRb3, hbl3, hz, hok, f0, f1, f2, f3, f4, f5, f6⟩ := (HIN2.out.keep (HB3.out.kept HR.out) (fun _ h _ => h)).at_ hlt3
                    have HZ := Lib.hid hz
                    have HSZ := Lib.hid (sumC_le (f := matC) hz)
                    have HEZ : Hid (matC z = textC z.a.name + textC z.v.s) := rfl
                    have HXT := Lib.hid (ktext_any z.a.name (HF3.out.alloc (.cells #[.int .i64 z.a.cat, .string z.a.name, .bool z.a.must, .int .i64 z.op, .int .i64 z.v.k, .int .i64 z.v.n, .string z.v.s] 42)) (by have := HS3.out; have := HS2.out; have := HS.out; have := HM.out; omega) hok.1.2)
                    unfold Taking at HXT
                    have HOK := Lib.hid hok
                    have HLT : Hid (g < wz.heap.size) := HF3.out.lt
                    clear hz hok
                    by_cases h4 : textC z.a.name ≤ m3
                    · rw [decide_eq_true h4] at HXT
                      have H4 := Lib.hid h4
                      have hne : wz.heap.size ≠ g := by have := HLT.out; omega
                      clear h4
                      by_cases h5 : textC z.v.s ≤ m3 - textC z.a.name
                      · have H5 := Lib.hid h5
                        have d5 := decide_eq_true h5
                        clear h5
                        go_wp2_with (first
                          | (go_at_call 16; (with_reducible refine HXT.out.mono ?_); rintro e w4 ⟨rfl, hb, hw⟩; have B4 := Lib.hid hb; have W4 := Lib.hid (hw H4.out); have BX := Lib.hid ((Ob.made wz 42 #[.int .i64 z.a.cat, .string z.a.name, .bool z.a.must, .int .i64 z.op, .int .i64 z.v.k, .int .i64 z.v.n, .string z.v.s]).keep (hb.heap (by simp) hne)); have g6 := BX.out.cell 6; have HXT2 := Lib.hid (ktext_any z.v.s W4.out (by have := HS3.out; have := HS2.out; have := HS.out; have := HM.out; omega) HOK.out.2.2.2.2); unfold Taking at HXT2; rw [d5] at HXT2; clear hb hw)
                          | (go_at_call 16; (with_reducible refine HXT2.out.mono ?_); rintro e w5 ⟨rfl, hb, hw⟩; have B5 := Lib.hid hb; have W5 := Lib.hid (hw H5.out); clear hb hw))
                        go_roundw
                        case rel => exact ⟨k3 + 1, m3 - textC z.a.name - textC z.v.s, by omega, by go_num, by rw [sumC_take HZ.out, HEZ.out]; have := HS3.out; have := H4.out; have := H5.out; omega, W5.out, HB3.out.trans ((Only.alloc _ _ _).trans (B4.out.trans B5.out))⟩
                        case measure => simp [intOf]; omega
                      · have H5 := Lib.hid h5
                        have d5 := decide_eq_false h5
                        clear h5
                        go_wp2_with (first
                          | (go_at_call 16; (with_reducible refine HXT.out.mono ?_); rintro e w4 ⟨rfl, hb, hw⟩; have B4 := Lib.hid hb; have W4 := Lib.hid (hw H4.out); have BX := Lib.hid ((Ob.made wz 42 #[.int .i64 z.a.cat, .string z.a.name, .bool z.a.must, .int .i64 z.op, .int .i64 z.v.k, .int .i64 z.v.n, .string z.v.s]).keep (hb.heap (by simp) hne)); have g6 := BX.out.cell 6; have HXT2 := Lib.hid (ktext_any z.v.s W4.out (by have := HS3.out; have := HS2.out; have := HS.out; have := HM.out; omega) HOK.out.2.2.2.2); unfold Taking at HXT2; rw [d5] at HXT2; clear hb hw)
                          | (go_at_call 16; (with_reducible refine HXT2.out.mono ?_); rintro e w5 ⟨rfl, hb, hw⟩; have B5 := Lib.hid hb; clear hb hw))
                        go_ret
                        have hbad : ¬ cc ≤ m := by
                          have := HC.out; have := HS.out; have := H1.out; have := HSX.out; have := HEX.out; have := HS2.out; have := H2.out; have := HSY.out; have := HEY.out; have := HS3.out; have := H3.out; have := HSZ.out; have := HEZ.out; have := H4.out; have := H5.out
                          omega
                        exact ⟨ret_bool (decide_eq_false hbad).symm, HB.out.trans (HB2.out.trans (HB3.out.trans ((Only.alloc _ _ _).trans (B4.out.trans B5.out)))), fun h => absurd h hbad⟩
                    · rw [decide_eq_false h4] at HXT
                      have H4 := Lib.hid h4
                      clear h4
                      go_wp2_with (go_at_call 16; refine HXT.out.mono ?_; rintro e w4 ⟨rfl, hb, hw⟩; have B4 := Lib.hid hb; clear hb hw)
                      go_ret
                      have hbad : ¬ cc ≤ m := by
                        have := HC.out; have := HS.out; have := H1.out; have := HSX.out; have := HEX.out; have := HS2.out; have := H2.out; have := HSY.out; have := HEY.out; have := HS3.out; have := H3.out; have := HSZ.out; have := HEZ.out; have := H4.out
                        omega
                      exact ⟨ret_bool (decide_eq_false hbad).symm, HB.out.trans (HB2.out.trans (HB3.out.trans ((Only.alloc _ _ _).trans B4.out))), fun h => absurd h hbad⟩
                  · obtain rfl : k3 = n2 := by omega
                    go_wp2
                    go_roundw
                    case rel =>
                      have hs := HS3.out
                      rw [sumC_all HL2.out] at hs
                      exact ⟨k2 + 1, m3, by omega, by go_num, by rw [sumC_take HY.out, HEY.out]; have := HS2.out; have := H3.out; omega, HF3.out, HB2.out.trans HB3.out⟩
                    case measure => simp [intOf]; omega
              · have HT3 := Lib.hid (takes1_any (n := n2) HF2.out (by have := HS2.out; have := HS.out; have := HM.out; omega) (by unfold maxLen; omega))
                rw [decide_eq_false h3] at HT3
                unfold maxLen at hcap2
                have H3 := Lib.hid h3
                clear h3
                go_wp2_with (go_at_call 15; refine HT3.out.mono ?_; rintro e w3 ⟨rfl, hb, hw⟩; have B3 := Lib.hid hb; clear hb hw)
                go_ret
                have hbad : ¬ cc ≤ m := by
                  have := HC.out; have := HS.out; have := H1.out; have := HSX.out; have := HEX.out; have := HS2.out; have := H2.out; have := HSY.out; have := HEY.out; have := H3.out
                  omega
                exact ⟨ret_bool (decide_eq_false hbad).symm, HB.out.trans (HB2.out.trans B3.out), fun h => absurd h hbad⟩
            · obtain rfl : k2 = n' := by omega
              go_wp2
              go_roundw
              case rel =>
                have hs := HS2.out
                rw [sumC_all HL'.out] at hs
                exact ⟨k + 1, m2, by omega, by go_num, by rw [sumC_take HX.out, HEX.out]; have := HS.out; have := H2.out; omega, HF2.out, HB.out.trans HB2.out⟩
              case measure => simp [intOf]; omega
        · have HT2 := Lib.hid (takes1_any (n := n') HF.out (by have := HS.out; have := HM.out; omega) (by unfold maxLen; omega))
          rw [decide_eq_false h2] at HT2
          unfold maxLen at hcap'
          have H2 := Lib.hid h2
          clear h2
          go_wp2_with (go_at_call 15; refine HT2.out.mono ?_; rintro e w2 ⟨rfl, hb, hw⟩; have B2 := Lib.hid hb; clear hb hw)
          go_ret
          have hbad : ¬ cc ≤ m := by
            have := HC.out; have := HS.out; have := H1.out; have := HSX.out; have := HEX.out; have := H2.out
            omega
          exact ⟨ret_bool (decide_eq_false hbad).symm, HB.out.trans B2.out, fun h => absurd h hbad⟩
      · obtain rfl : k = n := by omega
        go_wp2
        go_ret
        have hs := HS.out
        rw [sumC_all HL.out] at hs
        have := HC.out
        have := H1.out
        exact ⟨ret_bool (decide_eq_true (by omega)).symm, HB.out, fun _ => by rw [show m - cc = mk by omega]; exact HF.out⟩
  · rw [decide_eq_false h1] at HT
    have H1 := Lib.hid h1
    clear h1
    go_enter Tryz.func27, Tryz.ntmps27
    go_wp2_with (go_at_call 15; refine HT.out.mono ?_; rintro e w1 ⟨rfl, hb, hw⟩; have B1 := Lib.hid hb; clear hb hw)
    go_ret
    have hbad : ¬ cc ≤ m := by have := HC.out; have := H1.out; omega
    exact ⟨ret_bool (decide_eq_false hbad).symm, B1.out, fun h => absurd h hbad⟩
end Go.Proofs.YtadjfkgnoklmiaaGreat
/- bailiffkeep: how much of a policy may be gone through. -/
namespace Go.Proofs.YtadjfkgnoklmiaaGreat
set_option linter.unusedVariables false
open Go.RowKit

def nodC (n : Nod) : Nat := textC n.a.name + textC n.v.s
def ruleC (r : Rul) : Nat := textC r.id + tgC r.tg + r.cond.length + dutsC r.ob + sumC nodC r.cond
def polC : Nat → Pol → Nat
  | 0, _ => 0
  | d + 1, p => 1 + p.rules.length + textC p.id + tgC p.tg + dutsC p.ob + sumC ruleC p.rules + sumC (polC d) p.kids
def KOk (d : Nat) : Prop :=
  ∀ {w : World} {R : Nat → Prop} {g m : Nat} {p : Pol} {A1 A2 A3 A4 : Option Addr} {n1 k1 n2 k2 n3 k3 n4 k4 : Nat}, Lf w g m → m ≤ 3000 → (∀ b, R b → b ≠ g) → p.id.size ≤ maxLen →
    Tg w R A1 n1 k1 p.tg → Rus w R A2 n2 k2 p.rules → Pls w R d A3 n3 k3 p.kids → Dus w R A4 n4 k4 p.ob →
    Taking 14 #[.pointer (some ⟨g, 0, none⟩), .agg #[.string p.id, .bool p.set, .int .i64 p.alg, .slice A1 n1 k1, .slice A2 n2 k2, .slice A3 n3 k3, .slice A4 n4 k4]] w g m (polC (d + 1) p)
theorem Lf.only {w w' : World} {g m : Nat} (h : Lf w g m) (r : Nat) (ho : Only r w w') (hr : g ≠ r) : Lf w' g m := Ob.keep h (ho.heap (Ob.lt h) hr)


set_option maxRecDepth 100000 in
set_option maxHeartbeats 6400000 in
theorem kpol_step (d : Nat) (ih : ∀ d', d = d' + 1 → KOk d') : KOk d := by
  intro w R g m p A1 A2 A3 A4 n1 k1 n2 k2 n3 k3 n4 k4 hl hm hR hid h1 h2 h3 h4
  have big2 := Rw.big h2
  have big3 := Rw.big h3
  have cap2 := Rw.cap h2
  have cap3 := Rw.cap h3
  have le2 := Rw.le h2
  have le3 := Rw.le h3
  unfold maxLen at cap2 cap3
  have HL2 := Lib.hid (Rw.len h2)
  have HL3 := Lib.hid (Rw.len h3)
  have H1 := Lib.hid h1
  have H2 := Lib.hid h2
  have H3 := Lib.hid h3
  have H4 := Lib.hid h4
  have HR := Lib.hid hR
  have HM := Lib.hid hm
  have HID := Lib.hid hid
  have hgn : w.heap.size ≠ g := by have := hl.lt; omega
  have Xhs : Hid (Ob (w.alloc (.cells #[.string p.id, .bool p.set, .int .i64 p.alg, .slice A1 n1 k1, .slice A2 n2 k2, .slice A3 n3 k3, .slice A4 n4 k4] 28)) w.heap.size 28 #[.string p.id, .bool p.set, .int .i64 p.alg, .slice A1 n1 k1, .slice A2 n2 k2, .slice A3 n3 k3, .slice A4 n4 k4]) := Ob.made _ _ _
  have hC0 := Lib.hid (takes1_any (n := n2) (hl.alloc (.cells #[.string p.id, .bool p.set, .int .i64 p.alg, .slice A1 n1 k1, .slice A2 n2 k2, .slice A3 n3 k3, .slice A4 n4 k4] 28)) hm (by unfold maxLen; omega))
  unfold Taking
  have HC : Hid (polC (d + 1) p = 1 + n2 + textC p.id + tgC p.tg + dutsC p.ob + sumC ruleC p.rules + sumC (polC d) p.kids) := by show polC (d + 1) p = _; unfold polC; rw [HL2.out]
  generalize polC (d + 1) p = cc at *
  clear hl hm hR hid h1 h2 h3 h4
  by_cases o0 : 1 + n2 ≤ m
  · rw [decide_eq_true o0] at hC0
    have Ok0 := Lib.hid o0
    clear o0
    by_cases o1 : textC p.id ≤ m - (1 + n2)
    · have dd1 := decide_eq_true o1
      have Ok1 := Lib.hid o1
      clear o1
      by_cases o2 : tgC p.tg ≤ m - (1 + n2) - textC p.id
      · have dd2 := decide_eq_true o2
        have Ok2 := Lib.hid o2
        clear o2
        by_cases o3 : dutsC p.ob ≤ m - (1 + n2) - textC p.id - tgC p.tg
        · have dd3 := decide_eq_true o3
          have Ok3 := Lib.hid o3
          clear o3
          go_enter Tryz.func14, Tryz.ntmps14
          go_wp2_with (first
            | (go_at_call 15; (with_reducible refine hC0.out.mono ?_); rintro e vh0 ⟨rfl, hb, hw⟩; have Bh0 := Lib.hid hb; have Lh0 := Lib.hid (hw Ok0.out); have Xh0 := Lib.hid (Xhs.out.keep (hb.heap Xhs.out.lt hgn)); have yh00 := Xh0.out.cell 0; have hC1 := Lib.hid (ktext_any p.id Lh0.out (by have := HM.out; omega) HID.out); unfold Taking at hC1; rw [dd1] at hC1; clear hb hw)
            | (go_at_call 16; (with_reducible refine hC1.out.mono ?_); rintro e vh1 ⟨rfl, hb, hw⟩; have Bh1 := Lib.hid hb; have Lh1 := Lib.hid (hw Ok1.out); have Xh1 := Lib.hid (Xh0.out.keep (hb.heap Xh0.out.lt hgn)); have yh13 := Xh1.out.cell 3; have hC2 := Lib.hid (ktarget_any Lh1.out (by have := HM.out; omega) HR.out (H1.out.keep ((((Only.alloc g w (.cells #[.string p.id, .bool p.set, .int .i64 p.alg, .slice A1 n1 k1, .slice A2 n2 k2, .slice A3 n3 k3, .slice A4 n4 k4] 28)).trans Bh0.out).trans Bh1.out).kept HR.out) (fun _ h _ => h))); unfold Taking at hC2; rw [dd2] at hC2; clear hb hw)
            | (go_at_call 27; (with_reducible refine hC2.out.mono ?_); rintro e vh2 ⟨rfl, hb, hw⟩; have Bh2 := Lib.hid hb; have Lh2 := Lib.hid (hw Ok2.out); have Xh2 := Lib.hid (Xh1.out.keep (hb.heap Xh1.out.lt hgn)); have yh26 := Xh2.out.cell 6; have hC3 := Lib.hid (kobls_any Lh2.out (by have := HM.out; omega) HR.out (H4.out.keep (((((Only.alloc g w (.cells #[.string p.id, .bool p.set, .int .i64 p.alg, .slice A1 n1 k1, .slice A2 n2 k2, .slice A3 n3 k3, .slice A4 n4 k4] 28)).trans Bh0.out).trans Bh1.out).trans Bh2.out).kept HR.out) (fun _ h _ => h))); unfold Taking at hC3; rw [dd3] at hC3; clear hb hw)
            | (go_at_call 28; (with_reducible refine hC3.out.mono ?_); rintro e vh3 ⟨rfl, hb, hw⟩; have Bh3 := Lib.hid hb; have Lh3 := Lib.hid (hw Ok3.out); have Xh3 := Lib.hid (Xh2.out.keep (hb.heap Xh2.out.lt hgn)); have yh34 := Xh3.out.cell 4; have yh35 := Xh3.out.cell 5; clear hb hw))
          have G3 := Lib.hid (((((Only.alloc g w (.cells #[.string p.id, .bool p.set, .int .i64 p.alg, .slice A1 n1 k1, .slice A2 n2 k2, .slice A3 n3 k3, .slice A4 n4 k4] 28)).trans Bh0.out).trans Bh1.out).trans Bh2.out).trans Bh3.out)
          obtain ⟨m4, hm4⟩ : ∃ m4, m4 = m - (1 + n2) - textC p.id - tgC p.tg - dutsC p.ob := ⟨_, rfl⟩
          rw [← hm4] at Lh3
          have M4 : Hid (m4 + (1 + n2 + textC p.id + tgC p.tg + dutsC p.ob) = m) := by have := Ok0.out; have := Ok1.out; have := Ok2.out; have := Ok3.out; show m4 + _ = m; omega
          clear hm4 Bh0 Bh1 Bh2 Bh3 Lh0 Lh1 Lh2 Xh0 Xh1 Xh2 hC0 hC1 hC2 hC3 Ok0 Ok1 Ok2 Ok3 yh00 yh13 yh26
          go_loopw [42] (fun i wr => ∃ k mk : Nat, k ≤ n2 ∧ i = .int .i64 k ∧ sumC ruleC (p.rules.take k) + mk = m4 ∧ Lf wr g mk ∧ Only g vh3 wr) (fun i _ => n2 - (intOf i).toNat)
          case atStart => exact ⟨0, m4, Nat.zero_le _, rfl, by rw [sumC_zero]; omega, Lh3.out, Only.refl⟩
          case round =>
            obtain ⟨wo, hwo⟩ : ∃ wo, wo = wr := ⟨wr, rfl⟩
            subst hwo
            obtain ⟨k, mk, hk, rfl, hs, hlf, hb⟩ := hrel
            have HS := Lib.hid hs
            have HB := Lib.hid hb
            have HF := Lib.hid hlf
            clear hs hb hlf yh34 yh35
            by_cases hlt : k < n2
            · obtain ⟨b, o, x, B1, j1, q1, B2, j2, q2, B3, j3, q3, rfl, hRb, hbl, hx, xid, ⟨c0, c1, c2, c3, c4⟩, t1, t2, t3⟩ := (H2.out.keep ((G3.out.trans HB.out).kept HR.out) (fun _ h _ => h)).at_ hlt
              have HX := Lib.hid hx
              have HSX := Lib.hid (sumC_le (f := ruleC) hx)
              have HT1 := Lib.hid t1
              have HT2 := Lib.hid t2
              have HT3 := Lib.hid t3
              have HXID := Lib.hid xid
              have big2' := Rw.big t2
              have le2' := Rw.le t2
              have cap2' := Rw.cap t2
              have HLC := Lib.hid (Rw.len t2)
              have HEX : Hid (ruleC x = textC x.id + tgC x.tg + j2 + dutsC x.ob + sumC nodC x.cond) := by show ruleC x = _; unfold ruleC; rw [HLC.out]
              have hne : wo.heap.size ≠ g := by have := HF.out.lt; omega
              have Xrs : Hid (Ob (wo.alloc (.cells #[.string x.id, .bool x.deny, .slice B1 j1 q1, .slice B2 j2 q2, .slice B3 j3 q3] 58)) wo.heap.size 58 #[.string x.id, .bool x.deny, .slice B1 j1 q1, .slice B2 j2 q2, .slice B3 j3 q3]) := Ob.made _ _ _
              have rC0 := Lib.hid (ktext_any x.id (HF.out.alloc (.cells #[.string x.id, .bool x.deny, .slice B1 j1 q1, .slice B2 j2 q2, .slice B3 j3 q3] 58)) (by have := HS.out; have := M4.out; have := HM.out; omega) HXID.out)
              unfold Taking at rC0
              unfold maxLen at cap2'
              clear hx t1 t2 t3 xid
              by_cases hr0 : textC x.id ≤ mk
              · rw [decide_eq_true hr0] at rC0
                have Rk0 := Lib.hid hr0
                clear hr0
                by_cases hr1 : tgC x.tg ≤ mk - textC x.id
                · have rr1 := decide_eq_true hr1
                  have Rk1 := Lib.hid hr1
                  clear hr1
                  by_cases hr2 : j2 ≤ mk - textC x.id - tgC x.tg
                  · have rr2 := decide_eq_true hr2
                    have Rk2 := Lib.hid hr2
                    clear hr2
                    by_cases hr3 : dutsC x.ob ≤ mk - textC x.id - tgC x.tg - j2
                    · have rr3 := decide_eq_true hr3
                      have Rk3 := Lib.hid hr3
                      clear hr3
                      go_wp2_with (first
                        | (go_at_call 16; (with_reducible refine rC0.out.mono ?_); rintro e vr0 ⟨rfl, hb, hw⟩; have Br0 := Lib.hid hb; have Lr0 := Lib.hid (hw Rk0.out); have Xr0 := Lib.hid (Xrs.out.keep (hb.heap Xrs.out.lt hne)); have yr02 := Xr0.out.cell 2; have rC1 := Lib.hid (ktarget_any Lr0.out (by have := HS.out; have := M4.out; have := HM.out; omega) HR.out (HT1.out.keep (((Only.alloc g wo (.cells #[.string x.id, .bool x.deny, .slice B1 j1 q1, .slice B2 j2 q2, .slice B3 j3 q3] 58)).trans Br0.out).kept HR.out) (fun _ h _ => h))); unfold Taking at rC1; rw [rr1] at rC1; clear hb hw)
                        | (go_at_call 27; (with_reducible refine rC1.out.mono ?_); rintro e vr1 ⟨rfl, hb, hw⟩; have Br1 := Lib.hid hb; have Lr1 := Lib.hid (hw Rk1.out); have Xr1 := Lib.hid (Xr0.out.keep (hb.heap Xr0.out.lt hne)); have yr13 := Xr1.out.cell 3; have rC2 := Lib.hid (takes_any (n := j2) Lr1.out (by have := HS.out; have := M4.out; have := HM.out; omega) (by unfold maxLen; omega)); unfold Taking at rC2; rw [rr2] at rC2; clear hb hw)
                        | (go_at_call 15; (with_reducible refine rC2.out.mono ?_); rintro e vr2 ⟨rfl, hb, hw⟩; have Br2 := Lib.hid hb; have Lr2 := Lib.hid (hw Rk2.out); have Xr2 := Lib.hid (Xr1.out.keep (hb.heap Xr1.out.lt hne)); have yr24 := Xr2.out.cell 4; have rC3 := Lib.hid (kobls_any Lr2.out (by have := HS.out; have := M4.out; have := HM.out; omega) HR.out (HT3.out.keep (((((Only.alloc g wo (.cells #[.string x.id, .bool x.deny, .slice B1 j1 q1, .slice B2 j2 q2, .slice B3 j3 q3] 58)).trans Br0.out).trans Br1.out).trans Br2.out).kept HR.out) (fun _ h _ => h))); unfold Taking at rC3; rw [rr3] at rC3; clear hb hw)
                        | (go_at_call 28; (with_reducible refine rC3.out.mono ?_); rintro e vr3 ⟨rfl, hb, hw⟩; have Br3 := Lib.hid hb; have Lr3 := Lib.hid (hw Rk3.out); have Xr3 := Lib.hid (Xr2.out.keep (hb.heap Xr2.out.lt hne)); have yr33 := Xr3.out.cell 3; clear hb hw))
                      have GR := Lib.hid (((((Only.alloc g wo (.cells #[.string x.id, .bool x.deny, .slice B1 j1 q1, .slice B2 j2 q2, .slice B3 j3 q3] 58)).trans Br0.out).trans Br1.out).trans Br2.out).trans Br3.out)
                      obtain ⟨m5, hm5⟩ : ∃ m5, m5 = mk - textC x.id - tgC x.tg - j2 - dutsC x.ob := ⟨_, rfl⟩
                      rw [← hm5] at Lr3
                      have M5 : Hid (m5 + (textC x.id + tgC x.tg + j2 + dutsC x.ob) = mk) := by have := Rk0.out; have := Rk1.out; have := Rk2.out; have := Rk3.out; show m5 + _ = mk; omega
                      clear hm5 Br0 Br1 Br2 Br3 Lr0 Lr1 Lr2 Xr0 Xr1 Xr2 rC0 rC1 rC2 rC3 Rk0 Rk1 Rk2 Rk3 yr02 yr13 yr24
                      go_loopw [76] (fun i wr => ∃ k3 m3 : Nat, k3 ≤ j2 ∧ i = .int .i64 k3 ∧ sumC nodC (x.cond.take k3) + m3 = m5 ∧ Lf wr g m3 ∧ Only g vr3 wr) (fun i _ => j2 - (intOf i).toNat)
                      case atStart => exact ⟨0, m5, Nat.zero_le _, rfl, by rw [sumC_zero]; omega, Lr3.out, Only.refl⟩
                      case round =>
                        obtain ⟨wz, hwz⟩ : ∃ wz, wz = wr := ⟨wr, rfl⟩
                        subst hwz
                        obtain ⟨k3, m3, hk3, rfl, hs, hlf, hb⟩ := hrel
                        have HS3 := Lib.hid hs
                        have HB3 := Lib.hid hb
                        have HF3 := Lib.hid hlf
                        clear hs hb hlf yr33
                        by_cases hlt3 : k3 < j2
                        · obtain ⟨b3, o3, z, rfl, hRb3, hbl3, hz, hok, f0, f1, f2, f3, f4, f5, f6⟩ := (HT2.out.keep ((GR.out.trans HB3.out).kept HR.out) (fun _ h _ => h)).at_ hlt3
                          have HZ := Lib.hid hz
                          have HSZ := Lib.hid (sumC_le (f := nodC) hz)
                          have HEZ : Hid (nodC z = textC z.a.name + textC z.v.s) := rfl
                          have zC0 := Lib.hid (ktext_any z.a.name (HF3.out.alloc (.cells #[.int .i64 z.op, .int .i64 z.v.k, .int .i64 z.v.n, .string z.v.s, .int .i64 z.a.cat, .string z.a.name, .bool z.a.must] 72)) (by have := HS3.out; have := M5.out; have := HS.out; have := M4.out; have := HM.out; omega) hok.2.2.2)
                          unfold Taking at zC0
                          have HOK := Lib.hid hok
                          have hnz : wz.heap.size ≠ g := by have := HF3.out.lt; omega
                          have Xzs : Hid (Ob (wz.alloc (.cells #[.int .i64 z.op, .int .i64 z.v.k, .int .i64 z.v.n, .string z.v.s, .int .i64 z.a.cat, .string z.a.name, .bool z.a.must] 72)) wz.heap.size 72 #[.int .i64 z.op, .int .i64 z.v.k, .int .i64 z.v.n, .string z.v.s, .int .i64 z.a.cat, .string z.a.name, .bool z.a.must]) := Ob.made _ _ _
                          clear hz hok
                          by_cases hz0 : textC z.a.name ≤ m3
                          · rw [decide_eq_true hz0] at zC0
                            have Zk0 := Lib.hid hz0
                            clear hz0
                            by_cases hz1 : textC z.v.s ≤ m3 - textC z.a.name
                            · have zz1 := decide_eq_true hz1
                              have Zk1 := Lib.hid hz1
                              clear hz1
                              go_wp2_with (first
                                | (go_at_call 16; (with_reducible refine zC0.out.mono ?_); rintro e vz0 ⟨rfl, hb, hw⟩; have Bz0 := Lib.hid hb; have Lz0 := Lib.hid (hw Zk0.out); have Xz0 := Lib.hid (Xzs.out.keep (hb.heap Xzs.out.lt hnz)); have yz03 := Xz0.out.cell 3; have zC1 := Lib.hid (ktext_any z.v.s Lz0.out (by have := HS3.out; have := M5.out; have := HS.out; have := M4.out; have := HM.out; omega) HOK.out.2.1.2.2); unfold Taking at zC1; rw [zz1] at zC1; clear hb hw)
                                | (go_at_call 16; (with_reducible refine zC1.out.mono ?_); rintro e vz1 ⟨rfl, hb, hw⟩; have Bz1 := Lib.hid hb; have Lz1 := Lib.hid (hw Zk1.out); have Xz1 := Lib.hid (Xz0.out.keep (hb.heap Xz0.out.lt hnz)); clear hb hw))
                              go_roundw
                              case rel => exact ⟨k3 + 1, m3 - textC z.a.name - textC z.v.s, by omega, by go_num, by rw [sumC_take HZ.out, HEZ.out]; have := HS3.out; have := Zk0.out; have := Zk1.out; omega, Lz1.out, (HB3.out.trans (((Only.alloc g wz (.cells #[.int .i64 z.op, .int .i64 z.v.k, .int .i64 z.v.n, .string z.v.s, .int .i64 z.a.cat, .string z.a.name, .bool z.a.must] 72)).trans Bz0.out).trans Bz1.out))⟩
                              case measure => simp [intOf]; omega
                            · have zz1 := decide_eq_false hz1
                              have Zn1 := Lib.hid hz1
                              clear hz1
                              go_wp2_with (first
                                | (go_at_call 16; (with_reducible refine zC0.out.mono ?_); rintro e vz0 ⟨rfl, hb, hw⟩; have Bz0 := Lib.hid hb; have Lz0 := Lib.hid (hw Zk0.out); have Xz0 := Lib.hid (Xzs.out.keep (hb.heap Xzs.out.lt hnz)); have yz03 := Xz0.out.cell 3; have zC1 := Lib.hid (ktext_any z.v.s Lz0.out (by have := HS3.out; have := M5.out; have := HS.out; have := M4.out; have := HM.out; omega) HOK.out.2.1.2.2); unfold Taking at zC1; rw [zz1] at zC1; clear hb hw)
                                | (go_at_call 16; (with_reducible refine zC1.out.mono ?_); rintro e vz1 ⟨rfl, hb, hw⟩; have Bz1 := Lib.hid hb; clear hb hw))
                              go_ret
                              have hbad : ¬ cc ≤ m := by have := HC.out; have := HS.out; have := M4.out; have := HSX.out; have := HEX.out; have := M5.out; have := HS3.out; have := HSZ.out; have := HEZ.out; have := Zk0.out; have := Zn1.out; omega
                              exact ⟨ret_bool (decide_eq_false hbad).symm, ((((G3.out.trans HB.out).trans GR.out).trans HB3.out).trans (((Only.alloc g wz (.cells #[.int .i64 z.op, .int .i64 z.v.k, .int .i64 z.v.n, .string z.v.s, .int .i64 z.a.cat, .string z.a.name, .bool z.a.must] 72)).trans Bz0.out).trans Bz1.out)), fun h => absurd h hbad⟩
                          · rw [decide_eq_false hz0] at zC0
                            have Zn0 := Lib.hid hz0
                            clear hz0
                            go_wp2_with (first
                              | (go_at_call 16; (with_reducible refine zC0.out.mono ?_); rintro e vz0 ⟨rfl, hb, hw⟩; have Bz0 := Lib.hid hb; clear hb hw))
                            go_ret
                            have hbad : ¬ cc ≤ m := by have := HC.out; have := HS.out; have := M4.out; have := HSX.out; have := HEX.out; have := M5.out; have := HS3.out; have := HSZ.out; have := HEZ.out; have := Zn0.out; omega
                            exact ⟨ret_bool (decide_eq_false hbad).symm, ((((G3.out.trans HB.out).trans GR.out).trans HB3.out).trans ((Only.alloc g wz (.cells #[.int .i64 z.op, .int .i64 z.v.k, .int .i64 z.v.n, .string z.v.s, .int .i64 z.a.cat, .string z.a.name, .bool z.a.must] 72)).trans Bz0.out)), fun h => absurd h hbad⟩
                        · obtain rfl : k3 = j2 := by omega
                          go_wp2
                          go_roundw
                          case rel =>
                            have hs := HS3.out
                            rw [sumC_all HLC.out] at hs
                            exact ⟨k + 1, m3, by omega, by go_num, by rw [sumC_take HX.out, HEX.out]; have := HS.out; have := M5.out; omega, HF3.out, ((HB.out.trans GR.out).trans HB3.out)⟩
                          case measure => simp [intOf]; omega
                    · have rr3 := decide_eq_false hr3
                      have Rn3 := Lib.hid hr3
                      clear hr3
                      go_wp2_with (first
                        | (go_at_call 16; (with_reducible refine rC0.out.mono ?_); rintro e vr0 ⟨rfl, hb, hw⟩; have Br0 := Lib.hid hb; have Lr0 := Lib.hid (hw Rk0.out); have Xr0 := Lib.hid (Xrs.out.keep (hb.heap Xrs.out.lt hne)); have yr02 := Xr0.out.cell 2; have rC1 := Lib.hid (ktarget_any Lr0.out (by have := HS.out; have := M4.out; have := HM.out; omega) HR.out (HT1.out.keep (((Only.alloc g wo (.cells #[.string x.id, .bool x.deny, .slice B1 j1 q1, .slice B2 j2 q2, .slice B3 j3 q3] 58)).trans Br0.out).kept HR.out) (fun _ h _ => h))); unfold Taking at rC1; rw [rr1] at rC1; clear hb hw)
                        | (go_at_call 27; (with_reducible refine rC1.out.mono ?_); rintro e vr1 ⟨rfl, hb, hw⟩; have Br1 := Lib.hid hb; have Lr1 := Lib.hid (hw Rk1.out); have Xr1 := Lib.hid (Xr0.out.keep (hb.heap Xr0.out.lt hne)); have yr13 := Xr1.out.cell 3; have rC2 := Lib.hid (takes_any (n := j2) Lr1.out (by have := HS.out; have := M4.out; have := HM.out; omega) (by unfold maxLen; omega)); unfold Taking at rC2; rw [rr2] at rC2; clear hb hw)
                        | (go_at_call 15; (with_reducible refine rC2.out.mono ?_); rintro e vr2 ⟨rfl, hb, hw⟩; have Br2 := Lib.hid hb; have Lr2 := Lib.hid (hw Rk2.out); have Xr2 := Lib.hid (Xr1.out.keep (hb.heap Xr1.out.lt hne)); have yr24 := Xr2.out.cell 4; have rC3 := Lib.hid (kobls_any Lr2.out (by have := HS.out; have := M4.out; have := HM.out; omega) HR.out (HT3.out.keep (((((Only.alloc g wo (.cells #[.string x.id, .bool x.deny, .slice B1 j1 q1, .slice B2 j2 q2, .slice B3 j3 q3] 58)).trans Br0.out).trans Br1.out).trans Br2.out).kept HR.out) (fun _ h _ => h))); unfold Taking at rC3; rw [rr3] at rC3; clear hb hw)
                        | (go_at_call 28; (with_reducible refine rC3.out.mono ?_); rintro e vr3 ⟨rfl, hb, hw⟩; have Br3 := Lib.hid hb; clear hb hw))
                      go_ret
                      have hbad : ¬ cc ≤ m := by have := HC.out; have := HS.out; have := M4.out; have := HSX.out; have := HEX.out; have := Rk0.out; have := Rk1.out; have := Rk2.out; have := Rn3.out; omega
                      exact ⟨ret_bool (decide_eq_false hbad).symm, ((G3.out.trans HB.out).trans (((((Only.alloc g wo (.cells #[.string x.id, .bool x.deny, .slice B1 j1 q1, .slice B2 j2 q2, .slice B3 j3 q3] 58)).trans Br0.out).trans Br1.out).trans Br2.out).trans Br3.out)), fun h => absurd h hbad⟩
                  · have rr2 := decide_eq_false hr2
                    have Rn2 := Lib.hid hr2
                    clear hr2
                    go_wp2_with (first
                      | (go_at_call 16; (with_reducible refine rC0.out.mono ?_); rintro e vr0 ⟨rfl, hb, hw⟩; have Br0 := Lib.hid hb; have Lr0 := Lib.hid (hw Rk0.out); have Xr0 := Lib.hid (Xrs.out.keep (hb.heap Xrs.out.lt hne)); have yr02 := Xr0.out.cell 2; have rC1 := Lib.hid (ktarget_any Lr0.out (by have := HS.out; have := M4.out; have := HM.out; omega) HR.out (HT1.out.keep (((Only.alloc g wo (.cells #[.string x.id, .bool x.deny, .slice B1 j1 q1, .slice B2 j2 q2, .slice B3 j3 q3] 58)).trans Br0.out).kept HR.out) (fun _ h _ => h))); unfold Taking at rC1; rw [rr1] at rC1; clear hb hw)
                      | (go_at_call 27; (with_reducible refine rC1.out.mono ?_); rintro e vr1 ⟨rfl, hb, hw⟩; have Br1 := Lib.hid hb; have Lr1 := Lib.hid (hw Rk1.out); have Xr1 := Lib.hid (Xr0.out.keep (hb.heap Xr0.out.lt hne)); have yr13 := Xr1.out.cell 3; have rC2 := Lib.hid (takes_any (n := j2) Lr1.out (by have := HS.out; have := M4.out; have := HM.out; omega) (by unfold maxLen; omega)); unfold Taking at rC2; rw [rr2] at rC2; clear hb hw)
                      | (go_at_call 15; (with_reducible refine rC2.out.mono ?_); rintro e vr2 ⟨rfl, hb, hw⟩; have Br2 := Lib.hid hb; clear hb hw))
                    go_ret
                    have hbad : ¬ cc ≤ m := by have := HC.out; have := HS.out; have := M4.out; have := HSX.out; have := HEX.out; have := Rk0.out; have := Rk1.out; have := Rn2.out; omega
                    exact ⟨ret_bool (decide_eq_false hbad).symm, ((G3.out.trans HB.out).trans ((((Only.alloc g wo (.cells #[.string x.id, .bool x.deny, .slice B1 j1 q1, .slice B2 j2 q2, .slice B3 j3 q3] 58)).trans Br0.out).trans Br1.out).trans Br2.out)), fun h => absurd h hbad⟩
                · have rr1 := decide_eq_false hr1
                  have Rn1 := Lib.hid hr1
                  clear hr1
                  go_wp2_with (first
                    | (go_at_call 16; (with_reducible refine rC0.out.mono ?_); rintro e vr0 ⟨rfl, hb, hw⟩; have Br0 := Lib.hid hb; have Lr0 := Lib.hid (hw Rk0.out); have Xr0 := Lib.hid (Xrs.out.keep (hb.heap Xrs.out.lt hne)); have yr02 := Xr0.out.cell 2; have rC1 := Lib.hid (ktarget_any Lr0.out (by have := HS.out; have := M4.out; have := HM.out; omega) HR.out (HT1.out.keep (((Only.alloc g wo (.cells #[.string x.id, .bool x.deny, .slice B1 j1 q1, .slice B2 j2 q2, .slice B3 j3 q3] 58)).trans Br0.out).kept HR.out) (fun _ h _ => h))); unfold Taking at rC1; rw [rr1] at rC1; clear hb hw)
                    | (go_at_call 27; (with_reducible refine rC1.out.mono ?_); rintro e vr1 ⟨rfl, hb, hw⟩; have Br1 := Lib.hid hb; clear hb hw))
                  go_ret
                  have hbad : ¬ cc ≤ m := by have := HC.out; have := HS.out; have := M4.out; have := HSX.out; have := HEX.out; have := Rk0.out; have := Rn1.out; omega
                  exact ⟨ret_bool (decide_eq_false hbad).symm, ((G3.out.trans HB.out).trans (((Only.alloc g wo (.cells #[.string x.id, .bool x.deny, .slice B1 j1 q1, .slice B2 j2 q2, .slice B3 j3 q3] 58)).trans Br0.out).trans Br1.out)), fun h => absurd h hbad⟩
              · rw [decide_eq_false hr0] at rC0
                have Rn0 := Lib.hid hr0
                clear hr0
                go_wp2_with (first
                  | (go_at_call 16; (with_reducible refine rC0.out.mono ?_); rintro e vr0 ⟨rfl, hb, hw⟩; have Br0 := Lib.hid hb; clear hb hw))
                go_ret
                have hbad : ¬ cc ≤ m := by have := HC.out; have := HS.out; have := M4.out; have := HSX.out; have := HEX.out; have := Rn0.out; omega
                exact ⟨ret_bool (decide_eq_false hbad).symm, ((G3.out.trans HB.out).trans ((Only.alloc g wo (.cells #[.string x.id, .bool x.deny, .slice B1 j1 q1, .slice B2 j2 q2, .slice B3 j3 q3] 58)).trans Br0.out)), fun h => absurd h hbad⟩
            · obtain rfl : k = n2 := by omega
              have hs := HS.out
              rw [sumC_all HL2.out] at hs
              have HSR := Lib.hid hs
              clear hs
              have XR := Lib.hid (Xh3.out.keep (HB.out.heap Xh3.out.lt hgn))
              have yr5 := XR.out.cell 5
              have G5 := Lib.hid (G3.out.trans HB.out)
              go_wp2
              go_loopw [99] (fun i wr => ∃ k5 m5 : Nat, k5 ≤ n3 ∧ i = .int .i64 k5 ∧ sumC (polC d) (p.kids.take k5) + m5 = mk ∧ Lf wr g m5 ∧ Only g wo wr) (fun i _ => n3 - (intOf i).toNat)
              case atStart => exact ⟨0, mk, Nat.zero_le _, rfl, by rw [sumC_zero]; omega, HF.out, Only.refl⟩
              case round =>
                obtain ⟨wz, hwz⟩ : ∃ wz, wz = wr := ⟨wr, rfl⟩
                subst hwz
                obtain ⟨k5, m5, hk5, rfl, hs, hlf, hb⟩ := hrel
                have HS5 := Lib.hid hs
                have HB5 := Lib.hid hb
                have HF5 := Lib.hid hlf
                clear hs hb hlf yr5
                by_cases hlt5 : k5 < n3
                · obtain ⟨b5, o5, x, d', B1, j1, q1, B2, j2, q2, B3, j3, q3, B4, j4, q4, rfl, hRb5, hbl5, hx, hd, ⟨xid, xalg⟩, ⟨f0, f1, f2, f3, f4, f5, f6⟩, t1, t2, t3, t4⟩ := (H3.out.keep ((G5.out.trans HB5.out).kept HR.out) (fun _ h _ => h)).at_ hlt5
                  have HX := Lib.hid hx
                  have HSX := Lib.hid (sumC_le (f := polC d) hx)
                  have hka := (Only.alloc g wz (.cells #[.string x.id, .bool x.set, .int .i64 x.alg, .slice B1 j1 q1, .slice B2 j2 q2, .slice B3 j3 q3, .slice B4 j4 q4] 28)).kept HR.out
                  have pC := (ih d' hd) (HF5.out.alloc (.cells #[.string x.id, .bool x.set, .int .i64 x.alg, .slice B1 j1 q1, .slice B2 j2 q2, .slice B3 j3 q3, .slice B4 j4 q4] 28)) (by have := HS5.out; have := HSR.out; have := M4.out; have := HM.out; omega) HR.out xid (t1.keep hka (fun _ h _ => h)) (t2.keep hka (fun _ h _ => h)) (t3.keep hka (fun _ h _ => h)) (t4.keep hka (fun _ h _ => h))
                  unfold Taking at pC
                  rw [← hd] at pC
                  clear hx xid xalg t1 t2 t3 t4 hka
                  by_cases hp : polC d x ≤ m5
                  · rw [decide_eq_true hp] at pC
                    have PC := Lib.hid pC
                    have Pk := Lib.hid hp
                    clear hp pC
                    go_wp2_with (go_at_call 14; refine PC.out.mono ?_; rintro e v7 ⟨rfl, hb, hw⟩; have B7 := Lib.hid hb; have L7 := Lib.hid (hw Pk.out); clear hb hw)
                    go_roundw
                    case rel => exact ⟨k5 + 1, m5 - polC d x, by omega, by go_num, by rw [sumC_take HX.out]; have := HS5.out; have := Pk.out; omega, L7.out, HB5.out.trans ((Only.alloc _ _ _).trans B7.out)⟩
                    case measure => simp [intOf]; omega
                  · rw [decide_eq_false hp] at pC
                    have PC := Lib.hid pC
                    have Pn := Lib.hid hp
                    clear hp pC
                    go_wp2_with (go_at_call 14; refine PC.out.mono ?_; rintro e v7 ⟨rfl, hb, hw⟩; have B7 := Lib.hid hb; clear hb hw)
                    go_ret
                    have hbad : ¬ cc ≤ m := by have := HC.out; have := HSR.out; have := M4.out; have := HS5.out; have := HSX.out; have := Pn.out; omega
                    exact ⟨ret_bool (decide_eq_false hbad).symm, G5.out.trans (HB5.out.trans ((Only.alloc _ _ _).trans B7.out)), fun h => absurd h hbad⟩
                · obtain rfl : k5 = n3 := by omega
                  go_wp2
                  go_ret
                  have hs := HS5.out
                  rw [sumC_all HL3.out] at hs
                  have h1 := HC.out
                  have h2 := HSR.out
                  have h3 := M4.out
                  exact ⟨ret_bool (decide_eq_true (by omega)).symm, G5.out.trans HB5.out, fun _ => by rw [show m - cc = m5 by omega]; exact HF5.out⟩
        · have dd3 := decide_eq_false o3
          have No3 := Lib.hid o3
          clear o3
          go_enter Tryz.func14, Tryz.ntmps14
          go_wp2_with (first
            | (go_at_call 15; (with_reducible refine hC0.out.mono ?_); rintro e vh0 ⟨rfl, hb, hw⟩; have Bh0 := Lib.hid hb; have Lh0 := Lib.hid (hw Ok0.out); have Xh0 := Lib.hid (Xhs.out.keep (hb.heap Xhs.out.lt hgn)); have yh00 := Xh0.out.cell 0; have hC1 := Lib.hid (ktext_any p.id Lh0.out (by have := HM.out; omega) HID.out); unfold Taking at hC1; rw [dd1] at hC1; clear hb hw)
            | (go_at_call 16; (with_reducible refine hC1.out.mono ?_); rintro e vh1 ⟨rfl, hb, hw⟩; have Bh1 := Lib.hid hb; have Lh1 := Lib.hid (hw Ok1.out); have Xh1 := Lib.hid (Xh0.out.keep (hb.heap Xh0.out.lt hgn)); have yh13 := Xh1.out.cell 3; have hC2 := Lib.hid (ktarget_any Lh1.out (by have := HM.out; omega) HR.out (H1.out.keep ((((Only.alloc g w (.cells #[.string p.id, .bool p.set, .int .i64 p.alg, .slice A1 n1 k1, .slice A2 n2 k2, .slice A3 n3 k3, .slice A4 n4 k4] 28)).trans Bh0.out).trans Bh1.out).kept HR.out) (fun _ h _ => h))); unfold Taking at hC2; rw [dd2] at hC2; clear hb hw)
            | (go_at_call 27; (with_reducible refine hC2.out.mono ?_); rintro e vh2 ⟨rfl, hb, hw⟩; have Bh2 := Lib.hid hb; have Lh2 := Lib.hid (hw Ok2.out); have Xh2 := Lib.hid (Xh1.out.keep (hb.heap Xh1.out.lt hgn)); have yh26 := Xh2.out.cell 6; have hC3 := Lib.hid (kobls_any Lh2.out (by have := HM.out; omega) HR.out (H4.out.keep (((((Only.alloc g w (.cells #[.string p.id, .bool p.set, .int .i64 p.alg, .slice A1 n1 k1, .slice A2 n2 k2, .slice A3 n3 k3, .slice A4 n4 k4] 28)).trans Bh0.out).trans Bh1.out).trans Bh2.out).kept HR.out) (fun _ h _ => h))); unfold Taking at hC3; rw [dd3] at hC3; clear hb hw)
            | (go_at_call 28; (with_reducible refine hC3.out.mono ?_); rintro e vh3 ⟨rfl, hb, hw⟩; have Bh3 := Lib.hid hb; clear hb hw))
          go_ret
          have hbad : ¬ cc ≤ m := by have := HC.out; have := Ok0.out; have := Ok1.out; have := Ok2.out; have := No3.out; omega
          exact ⟨ret_bool (decide_eq_false hbad).symm, (((((Only.alloc g w (.cells #[.string p.id, .bool p.set, .int .i64 p.alg, .slice A1 n1 k1, .slice A2 n2 k2, .slice A3 n3 k3, .slice A4 n4 k4] 28)).trans Bh0.out).trans Bh1.out).trans Bh2.out).trans Bh3.out), fun h => absurd h hbad⟩
      · have dd2 := decide_eq_false o2
        have No2 := Lib.hid o2
        clear o2
        go_enter Tryz.func14, Tryz.ntmps14
        go_wp2_with (first
          | (go_at_call 15; (with_reducible refine hC0.out.mono ?_); rintro e vh0 ⟨rfl, hb, hw⟩; have Bh0 := Lib.hid hb; have Lh0 := Lib.hid (hw Ok0.out); have Xh0 := Lib.hid (Xhs.out.keep (hb.heap Xhs.out.lt hgn)); have yh00 := Xh0.out.cell 0; have hC1 := Lib.hid (ktext_any p.id Lh0.out (by have := HM.out; omega) HID.out); unfold Taking at hC1; rw [dd1] at hC1; clear hb hw)
          | (go_at_call 16; (with_reducible refine hC1.out.mono ?_); rintro e vh1 ⟨rfl, hb, hw⟩; have Bh1 := Lib.hid hb; have Lh1 := Lib.hid (hw Ok1.out); have Xh1 := Lib.hid (Xh0.out.keep (hb.heap Xh0.out.lt hgn)); have yh13 := Xh1.out.cell 3; have hC2 := Lib.hid (ktarget_any Lh1.out (by have := HM.out; omega) HR.out (H1.out.keep ((((Only.alloc g w (.cells #[.string p.id, .bool p.set, .int .i64 p.alg, .slice A1 n1 k1, .slice A2 n2 k2, .slice A3 n3 k3, .slice A4 n4 k4] 28)).trans Bh0.out).trans Bh1.out).kept HR.out) (fun _ h _ => h))); unfold Taking at hC2; rw [dd2] at hC2; clear hb hw)
          | (go_at_call 27; (with_reducible refine hC2.out.mono ?_); rintro e vh2 ⟨rfl, hb, hw⟩; have Bh2 := Lib.hid hb; clear hb hw))
        go_ret
        have hbad : ¬ cc ≤ m := by have := HC.out; have := Ok0.out; have := Ok1.out; have := No2.out; omega
        exact ⟨ret_bool (decide_eq_false hbad).symm, ((((Only.alloc g w (.cells #[.string p.id, .bool p.set, .int .i64 p.alg, .slice A1 n1 k1, .slice A2 n2 k2, .slice A3 n3 k3, .slice A4 n4 k4] 28)).trans Bh0.out).trans Bh1.out).trans Bh2.out), fun h => absurd h hbad⟩
    · have dd1 := decide_eq_false o1
      have No1 := Lib.hid o1
      clear o1
      go_enter Tryz.func14, Tryz.ntmps14
      go_wp2_with (first
        | (go_at_call 15; (with_reducible refine hC0.out.mono ?_); rintro e vh0 ⟨rfl, hb, hw⟩; have Bh0 := Lib.hid hb; have Lh0 := Lib.hid (hw Ok0.out); have Xh0 := Lib.hid (Xhs.out.keep (hb.heap Xhs.out.lt hgn)); have yh00 := Xh0.out.cell 0; have hC1 := Lib.hid (ktext_any p.id Lh0.out (by have := HM.out; omega) HID.out); unfold Taking at hC1; rw [dd1] at hC1; clear hb hw)
        | (go_at_call 16; (with_reducible refine hC1.out.mono ?_); rintro e vh1 ⟨rfl, hb, hw⟩; have Bh1 := Lib.hid hb; clear hb hw))
      go_ret
      have hbad : ¬ cc ≤ m := by have := HC.out; have := Ok0.out; have := No1.out; omega
      exact ⟨ret_bool (decide_eq_false hbad).symm, (((Only.alloc g w (.cells #[.string p.id, .bool p.set, .int .i64 p.alg, .slice A1 n1 k1, .slice A2 n2 k2, .slice A3 n3 k3, .slice A4 n4 k4] 28)).trans Bh0.out).trans Bh1.out), fun h => absurd h hbad⟩
  · rw [decide_eq_false o0] at hC0
    have No0 := Lib.hid o0
    clear o0
    go_enter Tryz.func14, Tryz.ntmps14
    go_wp2_with (first
      | (go_at_call 15; (with_reducible refine hC0.out.mono ?_); rintro e vh0 ⟨rfl, hb, hw⟩; have Bh0 := Lib.hid hb; clear hb hw))
    go_ret
    have hbad : ¬ cc ≤ m := by have := HC.out; have := No0.out; omega
    exact ⟨ret_bool (decide_eq_false hbad).symm, ((Only.alloc g w (.cells #[.string p.id, .bool p.set, .int .i64 p.alg, .slice A1 n1 k1, .slice A2 n2 k2, .slice A3 n3 k3, .slice A4 n4 k4] 28)).trans Bh0.out), fun h => absurd h hbad⟩
end Go.Proofs.YtadjfkgnoklmiaaGreat
/- The atoms of a small policy are short. -/
namespace Go.Proofs.YtadjfkgnoklmiaaGreat
set_option linter.unusedVariables false
open Go.RowKit

theorem textC_short {s : ByteArray} (h : textC s ≤ 3000) : s.size ≤ 1000000 := by unfold textC at h; omega
theorem short_tg {t : Tgt} (h : tgC t ≤ 3000) : ∀ x ∈ tgA t, ShortA x := by
  intro x hx
  obtain ⟨o, ho, hx⟩ := List.mem_flatMap.1 hx
  obtain ⟨a, ha, hx⟩ := List.mem_flatMap.1 hx
  obtain ⟨m, hm, rfl⟩ := List.mem_map.1 hx
  have h1 := sumC_mem (f := anyC) ho
  have h2 := sumC_mem (f := allC) ha
  have h3 := sumC_mem (f := matC) hm
  unfold tgC at h
  rw [show anyC o = 1 + o.length + sumC allC o from rfl] at h1
  rw [show allC a = 1 + a.length + sumC matC a from rfl] at h2
  rw [show matC m = textC m.a.name + textC m.v.s from rfl] at h3
  exact ⟨⟨textC_short (by show textC m.a.name ≤ 3000; omega), textC_short (by show textC m.v.s ≤ 3000; omega)⟩, by show ([] : List Nod).length ≤ 100000; simp, fun y hy => by cases hy⟩
theorem short_rule {r : Rul} (h : ruleC r ≤ 3000) : ∀ x ∈ rulA r, ShortA x := by
  intro x hx
  unfold ruleC at h
  rcases List.mem_append.1 hx with hx | hx
  · exact short_tg (by omega) x hx
  · unfold condA at hx
    split at hx
    · simp at hx
    · simp at hx
      subst hx
      refine ⟨⟨(show (ByteArray.empty).size ≤ 1000000 by decide +kernel), (show (ByteArray.empty).size ≤ 1000000 by decide +kernel)⟩, by show r.cond.length ≤ 100000; omega, fun y hy => ?_⟩
      have h1 := sumC_mem (f := nodC) (show y ∈ r.cond from hy)
      rw [show nodC y = textC y.a.name + textC y.v.s from rfl] at h1
      exact ⟨textC_short (by omega), textC_short (by omega)⟩
theorem short_pol {w : World} {R : Nat → Prop} : ∀ (d : Nat) {vs : List Value} {p : Pol}, PolAt w R d vs p → polC d p ≤ 3000 → ∀ x ∈ polA p, ShortA x
  | 0, _, _, h, _ => h.elim
  | d + 1, vs, p, h, hs => by
    obtain ⟨A1, n1, c1, A2, n2, c2, A3, n3, c3, A4, n4, c4, _, _, _, h1, h2, h3, h4⟩ := h
    rw [polC] at hs
    intro x hx
    rw [polA_eq] at hx
    rcases List.mem_append.1 hx with hx | hx
    · rcases List.mem_append.1 hx with hx | hx
      · exact short_tg (by omega) x hx
      · obtain ⟨r, hr, hx⟩ := List.mem_flatMap.1 hx
        have := sumC_mem (f := ruleC) hr
        exact short_rule (by omega) x hx
    · obtain ⟨k, hk, hx⟩ := List.mem_flatMap.1 hx
      have h5 := sumC_mem (f := polC d) hk
      obtain ⟨j, hj, rfl⟩ := List.getElem_of_mem hk
      obtain ⟨b, o, y, vs, _, _, _, hy, _, _, hp⟩ := Rw.at_ h3 (j := j) (by have := Rw.len h3; omega)
      rw [List.getElem?_eq_getElem hj] at hy
      obtain rfl := Option.some.inj hy
      exact short_pol d hp (by omega) x hx
theorem short_in {w : World} {R : Nat → Prop} {p : Pol} {A1 A2 A3 A4 : Option Addr} {n1 k1 n2 k2 n3 k3 n4 k4 m : Nat} (h : PolIn w R p A1 n1 k1 A2 n2 k2 A3 n3 k3 A4 n4 k4) (h3 : Pls w R m A3 n3 k3 p.kids) (hs : polC (m + 1) p ≤ 3000) : ∀ x ∈ polA p, ShortA x :=
  short_pol (m + 1) (vs := [.string p.id, .bool p.set, .int .i64 p.alg, .slice A1 n1 k1, .slice A2 n2 k2, .slice A3 n3 k3, .slice A4 n4 k4]) ⟨A1, n1, k1, A2, n2, k2, A3, n3, k3, A4, n4, k4, rfl, h.1.1, h.1.2, h.2.1, h.2.2.1, h3, h.2.2.2.2⟩ hs
theorem of_ok {p : Pol} (h : ofE p = 0) : rightE p = 0 ∧ (atomsP p).length ≤ 64 ∧ ofL p = atomsP p := by
  have hl : ofL p = atomsP p := by unfold ofL; rw [if_pos h]
  unfold ofE at h
  by_cases hr : rightE p = 0
  · rw [if_neg (by rw [hr]; simp)] at h
    by_cases hc : 64 < (gathP p).length
    · rw [if_pos hc] at h; cases h
    · exact ⟨hr, by rw [← gath_few (by omega)]; omega, hl⟩
  · rw [if_pos hr] at h; cases h
theorem of_is {p : Pol} (hr : rightE p = 0) (hl : (atomsP p).length ≤ 64) : ofE p = 0 := by
  unfold ofE
  rw [if_neg (by rw [hr]; simp), if_neg]
  rw [atoms_few hl]
  omega
end Go.Proofs.YtadjfkgnoklmiaaGreat
/- append of many cells, one each, to a row of the call's own; what it leaves alone. -/
namespace Go.Proofs.YtadjfkgnoklmiaaGreat
set_option linter.unusedVariables false
open Go.RowKit

theorem append_cells {P : Program} {T E : TypeId} {i : TypeInfo} {z : Value} {by_ : Nat} (ht : P.underlying T = some (.slice E)) (hi : P.info? E = some i) (hz : i.zero = some z) (hz1 : z.oneCell' = true) (hs : i.size = 1) (hb : i.bytes = by_) (hby : by_ ≤ 1000)
    {w : World} {base B n c m c2 ty : Nat} {A A2 : Option Addr} {xs ys : List Value} (h : w.ownsRow base E 1 (.slice A n c) n xs) (hy : Sl w B A2 m c2 ys) (h1 : ∀ v ∈ ys, v.oneCell' = true)
    (hn : n + m ≤ 1000000) (hbase : base ≤ w.heap.size) :
    ∃ A' c' w', (Builtin.append_ #[T, T] ty #[.slice A n c, .slice A2 m c2]).run P w = .ok (.slice A' (n + m) c') w' ∧
      w'.ownsRow base E 1 (.slice A' (n + m) c') (n + m) (xs ++ ys) ∧ Below base w w' ∧ w.grownBy w' (Value.slice A n c).ownBlock ∧
      ((Value.slice A' (n + m) c').ownBlock = (Value.slice A n c).ownBlock ∨ (Value.slice A' (n + m) c').ownBlock = some w.heap.size) := by
  have hlen := hy.len
  have fin : ∀ (ad : Addr), A2 = some ad → (∀ j u, ys[j]? = some u → w.cell? (ad.add j) = some u) → ∃ A' c' w', (Builtin.append_ #[T, T] ty #[.slice A n c, .slice A2 m c2]).run P w = .ok (.slice A' (n + m) c') w' ∧
      w'.ownsRow base E 1 (.slice A' (n + m) c') (n + m) (xs ++ ys) ∧ Below base w w' ∧ w.grownBy w' (Value.slice A n c).ownBlock ∧
      ((Value.slice A' (n + m) c').ownBlock = (Value.slice A n c).ownBlock ∨ (Value.slice A' (n + m) c').ownBlock = some w.heap.size) := by
    rintro ad rfl hc
    have hb2 : (n + m) * by_ ≤ 1000000 * 1000 := Nat.mul_le_mul hn hby
    obtain ⟨v', w', hrun, h2, h3, h4, h5⟩ := run_append_own_at (P := P) w base T ty E i z 1 by_ ht hi hz hs hb (by cases z <;> first | rfl | cases hz1) (by omega) (.slice A n c) n xs h
      ad m c2 ys (by omega) hc h1 (by unfold maxLen; omega) (by omega) hbase
    have hform : ∃ A' c', v' = .slice A' (n + m) c' := by
      rcases h2.2 with ⟨hv, hz⟩ | ⟨g, cap, cur, hv, _⟩
      · exact ⟨_, _, by rw [hv, hz]⟩
      · exact ⟨_, _, hv⟩
    obtain ⟨A', c', rfl⟩ := hform
    exact ⟨A', c', w', hrun, h2, (Below.refl base w).grown h3 hbase (fun k hk => (h.lt k hk).1), h3, h5⟩
  rcases hy.2.2.2 with h0 | ⟨b, o, e, hb', hc⟩
  · subst h0
    obtain rfl : ys = [] := List.eq_nil_of_length_eq_zero hlen
    rcases A2 with _ | ad
    · exact ⟨A, c, w, append_nil_src ht hi h, by simpa using h, Below.refl _ _, ⟨rfl, rfl, rfl, Nat.le_refl _, fun _ _ _ => rfl⟩, .inl rfl⟩
    · exact fin ad rfl (fun j u hu => by simp at hu)
  · refine fin _ e fun j u hu => ?_
    have := hc j u hu
    by_cases hj : j = 0
    · subst hj; simpa [Addr.add] using this
    · simpa [Addr.add, hj] using this

theorem Sl.keep1 {w w' : World} {B n c : Nat} {A : Option Addr} {xs : List Value} (h : Sl w B A n c xs) (hk : ∀ ad, A = some ad → w'.heap[ad.block]? = w.heap[ad.block]?) : Sl w' B A n c xs := by
  obtain ⟨h1, h2, h3, h4⟩ := h
  refine ⟨h1, h2, h3, ?_⟩
  rcases h4 with h4 | ⟨b, o, e, hb, hc⟩
  · exact .inl h4
  · have hk' : w'.heap[b]? = w.heap[b]? := hk _ e
    exact .inr ⟨b, o, e, hb, fun j u hu => (World.cell?_of_block (a := ⟨b, o + j, none⟩) hk').trans (hc j u hu)⟩
theorem Sl.grown {w w' : World} {n c : Nat} {A : Option Addr} {xs : List Value} {v : Value} (h : Sl w w.heap.size A n c xs) (g : w.grownBy w' v.ownBlock) (hne : ∀ ad, A = some ad → v.ownBlock ≠ some ad.block) : Sl w' w'.heap.size A n c xs := by
  rcases Nat.eq_zero_or_pos n with h0 | h0
  · subst h0
    exact ⟨h.1, h.2.1, h.2.2.1, .inl rfl⟩
  · refine (h.keep1 fun ad e => g.block ad.block ?_ ?_).more g.size
    · obtain ⟨b, o, u, e', hb, _⟩ := h.at_ h0
      rw [e] at e'
      injection e' with e'
      subst e'
      exact hb
    · exact fun hh => hne ad e hh.symm
end Go.Proofs.YtadjfkgnoklmiaaGreat
/- Rows of marks of the call's own: append of many. -/
namespace Go.Proofs.YtadjfkgnoklmiaaGreat
set_option linter.unusedVariables false
open Go.RowKit

theorem append_marks {w : World} {base B n c m c2 ty : Nat} {A A2 : Option Addr} {xs ys : List Mk} (h : w.ownsRow base 48 1 (.slice A n c) n (mv xs)) (hy : Sl w B A2 m c2 (mv ys)) (hn : n + m ≤ 1000000) (hbase : base ≤ w.heap.size) :
    ∃ A' c' w', (Builtin.append_ #[125, 125] ty #[.slice A n c, .slice A2 m c2]).run Tryz.prog w = .ok (.slice A' (n + m) c') w' ∧
      w'.ownsRow base 48 1 (.slice A' (n + m) c') (n + m) (mv (xs ++ ys)) ∧ Below base w w' ∧ w.grownBy w' (Value.slice A n c).ownBlock ∧
      ((Value.slice A' (n + m) c').ownBlock = (Value.slice A n c).ownBlock ∨ (Value.slice A' (n + m) c').ownBlock = some w.heap.size) := by
  obtain ⟨i, hi, hz0, hz1, hz2⟩ := info_parts markinfo
  rw [mv_app]
  exact append_cells Tryz.underlying125 hi hz0 rfl hz1 hz2 (by decide) h hy one_mv hn hbase
end Go.Proofs.YtadjfkgnoklmiaaGreat
/- Decisions in memory: rows of duties of the call's own, rows of results. -/
namespace Go.Proofs.YtadjfkgnoklmiaaGreat
set_option linter.unusedVariables false
open Go.RowKit

def OwD (w : World) (base : Nat) (A : Option Addr) (n c : Nat) (l : List Dut) : Prop :=
  w.ownsRow base 80 3 (.slice A n c) n (l.flatMap Dut.cells) ∧ l.length = n ∧ (∀ x ∈ l, x.ok) ∧ base ≤ w.heap.size
section
variable {w w' : World} {base n c : Nat} {A : Option Addr} {l : List Dut}
theorem OwD.nil (w : World) (base : Nat) (hb : base ≤ w.heap.size) : OwD w base none 0 0 [] := ⟨⟨by simp, .inl ⟨rfl, rfl⟩⟩, rfl, by simp, hb⟩
theorem OwD.below (h : OwD w base A n c l) (hb : Below w.heap.size w w') : OwD w' base A n c l :=
  ⟨h.1.kept (row := none) ⟨hb.os, hb.tape, hb.output, hb.size, fun k hk _ => hb.block k hk⟩ (by
    by_cases hv : (Value.slice A n c).ownBlock = none
    · exact .inl hv
    · exact .inr hv), h.2.1, h.2.2.1, Nat.le_trans h.2.2.2 hb.size⟩
theorem OwD.dus (h : OwD w base A n c l) (hn : n ≤ 1000000) : Dus w (fun b => base ≤ b) A n c l := Rw.flat_own h.1 (by omega) h.2.1 (fun _ => rfl) h.2.2.1 (fun _ _ h => h)
theorem OwD.app {m c2 : Nat} {R : Nat → Prop} {A2 : Option Addr} {ys : List Dut} (h : OwD w base A n c l) (hy : Dus w R A2 m c2 ys) (hn : n + m ≤ 1000000) (ty : Nat) :
    ∃ A' c' w', (Builtin.append_ #[26, 26] ty #[.slice A n c, .slice A2 m c2]).run Tryz.prog w = .ok (.slice A' (n + m) c') w' ∧ OwD w' base A' (n + m) c' (l ++ ys) ∧ Below base w w' := by
  obtain ⟨A', c', w', r, o, b, _, _⟩ := append_duts (ty := ty) h.1 hy hn h.2.2.2
  exact ⟨A', c', w', r, ⟨o, by rw [List.length_append, h.2.1, Rw.len hy], fun x hx => (List.mem_append.1 hx).elim (h.2.2.1 x) (Rw.all hy x), Nat.le_trans h.2.2.2 b.size⟩, b⟩
theorem OwD.push {x : Dut} (h : OwD w base A n c l) (hx : x.ok) (hn : n < 1000000) (ty : Nat) :
    ∃ A' c' w', (Builtin.append_ #[26, 26] ty #[.slice A n c, .slice (some ⟨w.heap.size, 0, none⟩) 1 1]).run Tryz.prog (w.alloc (.cells #[.int .i64 x.on, .int .i64 x.kind, .string x.arg] 80)) = .ok (.slice A' (n + 1) c') w' ∧ OwD w' base A' (n + 1) c' (l ++ [x]) ∧ Below base w w' := by
  have a1 : Below w.heap.size w (w.alloc (.cells #[.int .i64 x.on, .int .i64 x.kind, .string x.arg] 80)) := (Below.refl _ _).alloc (Nat.le_refl _) _
  have hl := Dus.lit w (R := fun _ => True) [x] (n := 1) rfl (by omega) trivial (fun y hy => by simp at hy; subst hy; exact hx)
  obtain ⟨A', c', w', r, o, b⟩ := (h.below a1).app (show Dus (w.alloc (.cells #[.int .i64 x.on, .int .i64 x.kind, .string x.arg] 80)) (fun _ => True) (some ⟨w.heap.size, 0, none⟩) 1 1 [x] by simpa [Dut.cells] using hl) (by omega) ty
  exact ⟨A', c', w', r, o, (a1.mono h.2.2.2).trans b⟩
end

def ResAt (w : World) (R : Nat → Prop) (vs : List Value) (r : Res) : Prop := ∃ A n c, vs = [mcell r.m, .slice A n c] ∧ Dus w R A n c r.ob
def Rss (w : World) (R : Nat → Prop) := Rw 2 (ResAt w R) w R
section
variable {w w' : World} {R R' : Nat → Prop} {A : Option Addr} {n c : Nat}
theorem ResAt.keep {vs : List Value} {r : Res} (h : ResAt w R vs r) (hk : Kept R w w') (hR : ∀ b, R b → b < w.heap.size → R' b) : ResAt w' R' vs r := by
  obtain ⟨A, n, c, e, h1⟩ := h
  exact ⟨A, n, c, e, h1.keep hk hR⟩
theorem keeps_res : Keeps ResAt := fun _ _ _ _ _ _ h hk hR => h.keep hk hR
theorem Rss.keep {l : List Res} (h : Rss w R A n c l) (hk : Kept R w w') (hR : ∀ b, R b → b < w.heap.size → R' b) : Rss w' R' A n c l := Rw.keep h hk hR fun _ _ _ h => h.keep hk hR
theorem ResAt.one {w : World} {R : Nat → Prop} (vs : List Value) (r : Res) (h : ResAt w R vs r) : ∀ v ∈ vs, v.oneCell' = true := by
  obtain ⟨A, n, c, rfl, _⟩ := h
  intro v hv
  simp at hv
  rcases hv with rfl | rfl <;> rfl
theorem Rss.at_ {l : List Res} (h : Rss w R A n c l) {j : Nat} (hj : j < n) : ∃ b o r A' n' c', A = some ⟨b, o, none⟩ ∧ R b ∧ b < w.heap.size ∧ l[j]? = some r ∧
    (w.cell? ⟨b, o + j * 2, none⟩ = some (.complex .f64 (fl r.m.1) (fl r.m.2)) ∧ w.cell? ⟨b, o + j * 2 + 1, none⟩ = some (.slice A' n' c')) ∧ Dus w R A' n' c' r.ob := by
  obtain ⟨b, o, g, vs, e, hb, hlt, hm, hl, hv, A', n', c', rfl, hin⟩ := Rw.at_ h hj
  exact ⟨b, o, g, A', n', c', e, hb, hlt, hm, ⟨hv 0 _ rfl, hv 1 _ rfl⟩, hin⟩
end
theorem resinfo : (Tryz.prog.info? 50).map (fun i => (i.zero, i.size, i.bytes)) = some (some (.agg #[.complex .f64 0 0, .slice none 0 0]), 2, 40) := by kernel_rfl
theorem push_res {w : World} {base n c : Nat} {A : Option Addr} {l : List Res} {A1 : Option Addr} {n1 c1 : Nat} {r : Res} (h : Gr 2 ResAt w base 50 A n c l) (hx : Dus w (Nb base (.slice A n c)) A1 n1 c1 r.ob) (hn : n < 1000000) :
    ∃ A' c' w', (Builtin.append_ #[100, 100] 100 #[.slice A n c, .slice (some ⟨w.heap.size, 0, none⟩) 1 1]).run Tryz.prog (w.alloc (.cells #[.complex .f64 (fl r.m.1) (fl r.m.2), .slice A1 n1 c1] 50)) = .ok (.slice A' (n + 1) c') w' ∧ Gr 2 ResAt w' base 50 A' (n + 1) c' (l ++ [r]) ∧ Below base w w' := by
  obtain ⟨i, hi, hz, hs, hb⟩ := info_of resinfo
  exact Gr.push (vs := [mcell r.m, .slice A1 n1 c1]) (x := r) Tryz.underlying100 hi hz hs hb rfl (by omega) (by omega) keeps_res h ⟨A1, n1, c1, rfl, hx⟩ rfl (fun _ _ _ _ => ResAt.one _ _) hn

def OwM (w : World) (base : Nat) (A : Option Addr) (n c : Nat) (l : List Mk) : Prop := w.ownsRow base 48 1 (.slice A n c) n (mv l) ∧ l.length = n ∧ base ≤ w.heap.size
theorem OwM.nil (w : World) (base : Nat) (hb : base ≤ w.heap.size) : OwM w base none 0 0 [] := ⟨⟨by simp [mv], .inl ⟨rfl, rfl⟩⟩, rfl, hb⟩
theorem OwM.below {w w' : World} {base n c : Nat} {A : Option Addr} {l : List Mk} (h : OwM w base A n c l) (hb : Below w.heap.size w w') : OwM w' base A n c l :=
  ⟨h.1.kept (row := none) ⟨hb.os, hb.tape, hb.output, hb.size, fun k hk _ => hb.block k hk⟩ (by
    by_cases hv : (Value.slice A n c).ownBlock = none
    · exact .inl hv
    · exact .inr hv), h.2.1, Nat.le_trans h.2.2 hb.size⟩
theorem OwM.sl {w : World} {base n c : Nat} {A : Option Addr} {l : List Mk} (h : OwM w base A n c l) : Sl w w.heap.size A n c (mv l) := Sl.of_own h.1
theorem OwM.push {w : World} {base n c : Nat} {A : Option Addr} {l : List Mk} {m : Mk} (h : OwM w base A n c l) (hn : n < 1000000) (ty : Nat) :
    ∃ A' c' w', (Builtin.append_ #[125, 125] ty #[.slice A n c, .slice (some ⟨w.heap.size, 0, none⟩) 1 1]).run Tryz.prog (w.alloc (.cells #[.complex .f64 (fl m.1) (fl m.2)] 48)) = .ok (.slice A' (n + 1) c') w' ∧ OwM w' base A' (n + 1) c' (l ++ [m]) ∧ Below base w w' := by
  have a1 : Below w.heap.size w (w.alloc (.cells #[.complex .f64 (fl m.1) (fl m.2)] 48)) := (Below.refl _ _).alloc (Nat.le_refl _) _
  have h' := h.below a1
  have hs : Sl (w.alloc (.cells #[.complex .f64 (fl m.1) (fl m.2)] 48)) (w.heap.size + 1) (some ⟨w.heap.size, 0, none⟩) 1 1 (mv [m]) := Sl.lit w 48 (mv [m]) 1 rfl (by unfold maxLen; omega)
  obtain ⟨A', c', w', r, o, b, _, _⟩ := append_marks (ty := ty) h'.1 hs (by omega) h'.2.2
  exact ⟨A', c', w', r, ⟨o, by rw [List.length_append, h.2.1]; rfl, Nat.le_trans h'.2.2 b.size⟩, (a1.mono h.2.2).trans b⟩
end Go.Proofs.YtadjfkgnoklmiaaGreat
/- Package eval: on, Duties. -/
namespace Go.Proofs.YtadjfkgnoklmiaaGreat
set_option linter.unusedVariables false
open Go.RowKit
attribute [local go_sem] eq0 feq2 eq4 fgt0 gt2 ord_eq ord_gt ord_lt

theorem filter_step {l : List Dut} {k : Nat} {x : Dut} (f : Dut → Bool) (h : l[k]? = some x) : (l.take (k + 1)).filter f = (l.take k).filter f ++ if f x = true then [x] else [] := by
  obtain ⟨hk, e⟩ := List.getElem?_eq_some_iff.1 h
  rw [List.take_succ_eq_append_getElem hk, e, List.filter_append]
  congr 1
  by_cases hf : f x = true
  · rw [if_pos hf, List.filter_cons_of_pos hf]; rfl
  · rw [if_neg hf, List.filter_cons_of_neg hf]; rfl
set_option maxRecDepth 100000 in
set_option maxHeartbeats 1600000 in
theorem on_any {w : World} {R : Nat → Prop} {A : Option Addr} {n c : Nat} {l : List Dut} (d : Int) (h : Dus w R A n c l) (hs : ∀ o ∈ l, o.arg.size ≤ 1000000) (hn : n ≤ 500000) :
    Calls Tryz.prog 56 #[.slice A n c, .int .i64 d] w fun e w' => ∃ A' n' c', e = .returned (.slice A' n' c') ∧ Below w.heap.size w w' ∧ OwD w' w.heap.size A' n' c' (l.filter (fun o => decide (o.on = d))) := by
  have hle := Rw.le h
  have hcap := Rw.cap h
  have HL := Lib.hid (Rw.len h)
  unfold maxLen at hcap
  have H := Lib.hid h
  have HS := Lib.hid hs
  clear h hs
  go_enter Tryz.func56, Tryz.ntmps56
  go_wp2
  go_loopw [5, 10] (fun out i wr => ∃ (k : Nat) (A' : Option Addr) (n' c' : Nat), k ≤ n ∧ i = .int .i64 k ∧ out = .slice A' n' c' ∧ n' ≤ k ∧ OwD wr w.heap.size A' n' c' ((l.take k).filter (fun o => decide (o.on = d))) ∧ Below w.heap.size w wr) (fun out i _ => n - (intOf i).toNat)
  case atStart => exact ⟨0, none, 0, 0, Nat.zero_le _, rfl, rfl, Nat.le_refl _, OwD.nil _ _ (Nat.le_refl _), Below.refl _ _⟩
  case round =>
    obtain ⟨k, A', n', c', hk, rfl, rfl, hnk, ho, hb⟩ := hrel
    have HO := Lib.hid ho
    have HB := Lib.hid hb
    clear ho hb
    by_cases hlt : k < n
    · obtain ⟨b, o, x, rfl, hRb, hbl, hx, hok, x0, x1, x2⟩ := (H.out.keep (Kept.all HB.out R) (fun _ h _ => h)).at_ hlt
      have HX := Lib.hid hx
      have HK := Lib.hid hok
      have HA := Lib.hid (HS.out x (List.mem_of_getElem? hx))
      have HF := Lib.hid (filter_step (fun o => decide (o.on = d)) hx)
      obtain ⟨xo, xk, xa⟩ := x
      simp only at x0 x1 x2
      clear hx hok
      by_cases hd : xo = d
      · have hdb : (xo == d) = true := by rw [beq_iff_eq]; exact hd
        have D0 := (Below.refl wr.heap.size wr).alloc (Nat.le_refl _) (.cells #[.int .i64 xo, .int .i64 xk, .string xa] 80)
        have HC : Hid (Calls Tryz.prog 94 #[.string xa] (wr.alloc (.cells #[.int .i64 xo, .int .i64 xk, .string xa] 80)) fun e w' => e = .returned (.string xa) ∧ Below (wr.alloc (.cells #[.int .i64 xo, .int .i64 xk, .string xa] 80)).heap.size (wr.alloc (.cells #[.int .i64 xo, .int .i64 xk, .string xa] 80)) w') := clone_any xa _ HA.out
        have HD := Lib.hid hd
        have B2 := Lib.hid D0
        clear hd D0
        go_wp2_with fail
        refine HC.out.mono ?_
        rintro e w2 ⟨rfl, hb⟩
        have q1 := Ob.below (Ob.made wr 80 #[.int .i64 xo, .int .i64 xk, .string xa]) hb (by rw [size_al]; omega)
        have q4 := q1.frozen 2
        have z0 := q1.cell 0
        have z1 := q1.cell 1
        have z2 := q1.cell 2
        have d1 : Below wr.heap.size wr (w2.setCell ⟨wr.heap.size, 2, none⟩ (.string xa)) := (below_step B2.out hb).setCell (Nat.le_refl _) _
        have hz : (w2.setCell ⟨wr.heap.size, 2, none⟩ (.string xa)).heap.size = w2.heap.size := by simp [World.setCell]
        obtain ⟨A2, c2, w3, r3, o3, b3⟩ := (HO.out.below d1).push (x := ⟨xo, xk, xa⟩) HK.out (by omega) 26
        rw [hz] at r3
        simp only at r3
        have R3 := Lib.hid r3
        have O3 := Lib.hid o3
        have B3 := Lib.hid (HB.out.trans ((d1.mono HB.out.size).trans b3))
        clear hb d1 hz r3 o3 b3 q1
        go_wp2_with (first
          | (at_builtin; refine wpList_append_run (o := ⟨some 25, _, _, _, _, _⟩) rfl _ _ _ _ rfl rfl rfl R3.out ?_))
        go_roundw
        case rel => exact ⟨k + 1, A2, n' + 1, c2, by omega, by go_num, rfl, by omega, by rw [HF.out, if_pos (by simpa using HD.out)]; exact O3.out, B3.out⟩
        case measure => simp [intOf]; omega
      · have hdb : (xo == d) = false := by rw [beq_eq_false_iff_ne]; exact hd
        have HD := Lib.hid hd
        clear hd
        go_wp2_with fail
        go_roundw
        case rel =>
          have a1 : Below wr.heap.size wr (wr.alloc (.cells #[.int .i64 xo, .int .i64 xk, .string xa] 80)) := (Below.refl _ _).alloc (Nat.le_refl _) _
          exact ⟨k + 1, A', n', c', by omega, by go_num, rfl, by omega, by rw [HF.out, if_neg (by simpa using HD.out), List.append_nil]; exact HO.out.below a1, below_step HB.out a1⟩
        case measure => simp [intOf]; omega
    · obtain rfl : k = n := by omega
      go_wp2
      go_ret
      have ho := HO.out
      rw [List.take_of_length_le (by have := HL.out; omega)] at ho
      exact ⟨A', n', c', rfl, HB.out, ho⟩
set_option maxHeartbeats 1600000 in
theorem duties_any {w : World} {R : Nat → Prop} {A : Option Addr} {n c : Nat} {l : List Dut} (p d : Fin 5) (h : Dus w R A n c l) (hs : ∀ o ∈ l, o.arg.size ≤ 1000000) (hn : n ≤ 500000) :
    Calls Tryz.prog 40 #[.slice A n c, .complex .f64 (fl p) (fl d)] w fun e w' => ∃ A' n' c', e = .returned (.slice A' n' c') ∧ Below w.heap.size w w' ∧ OwD w' w.heap.size A' n' c' (dutsM l (p, d)) := by
  have H1 := Lib.hid (on_any (w := w) 1 h hs hn)
  have H2 := Lib.hid (on_any (w := w) 2 h hs hn)
  have HE : Hid (dutsM l (p, d) = if (p, d) = ((4, 0) : Mk) then l.filter (fun o => decide (o.on = 1)) else if (p, d) = ((0, 4) : Mk) then l.filter (fun o => decide (o.on = 2)) else []) := rfl
  generalize dutsM l (p, d) = out at *
  clear h hs
  by_cases h1 : (p, d) = ((4, 0) : Mk)
  · obtain ⟨rfl, rfl⟩ := Prod.mk.inj h1
    have HQ : Hid (out = l.filter (fun o => decide (o.on = 1))) := HE.out.trans (if_pos rfl)
    clear h1 HE
    go_enter Tryz.func40, Tryz.ntmps40
    go_wp2_with fail
    refine H1.out.mono ?_
    rintro e w1 ⟨A', n', c', rfl, hb, ho⟩
    have B1 := Lib.hid hb
    have O1 := Lib.hid ho
    clear hb ho
    go_wp2_with fail
    go_ret
    exact ⟨A', n', c', rfl, B1.out, by rw [HQ.out]; exact O1.out⟩
  · by_cases h2 : (p, d) = ((0, 4) : Mk)
    · obtain ⟨rfl, rfl⟩ := Prod.mk.inj h2
      have HQ : Hid (out = l.filter (fun o => decide (o.on = 2))) := HE.out.trans (if_neg h1 |>.trans (if_pos rfl))
      clear h1 h2 HE
      go_enter Tryz.func40, Tryz.ntmps40
      go_wp2_with fail
      refine H2.out.mono ?_
      rintro e w1 ⟨A', n', c', rfl, hb, ho⟩
      have B1 := Lib.hid hb
      have O1 := Lib.hid ho
      clear hb ho
      go_wp2_with fail
      go_ret
      exact ⟨A', n', c', rfl, B1.out, by rw [HQ.out]; exact O1.out⟩
    · have HQ : Hid (out = []) := HE.out.trans (if_neg h1 |>.trans (if_neg h2))
      have e1 : (p == 4 && d == 0) = false := by
        rw [Bool.eq_false_iff]
        intro h
        rw [Bool.and_eq_true, beq_iff_eq, beq_iff_eq] at h
        exact h1 (by rw [h.1, h.2])
      have e2 : (p == 0 && d == 4) = false := by
        rw [Bool.eq_false_iff]
        intro h
        rw [Bool.and_eq_true, beq_iff_eq, beq_iff_eq] at h
        exact h2 (by rw [h.1, h.2])
      clear h1 h2 HE H1 H2
      go_enter Tryz.func40, Tryz.ntmps40
      go_wp2_with fail
      go_ret
      exact ⟨none, 0, 0, rfl, Below.refl _ _, by rw [HQ.out]; exact OwD.nil _ _ (Nat.le_refl _)⟩
end Go.Proofs.YtadjfkgnoklmiaaGreat
/- Indet: the project's and the reference's. -/
namespace Go.Proofs.YtadjfkgnoklmiaaGreat
open Go.RowKit
attribute [local go_sem] eq0 feq2 eq4 fgt0 gt2 ord_eq ord_gt ord_lt run_max_fl

set_option maxHeartbeats 3200000 in
theorem indet_any (p d : Fin 5) (w : World) : Calls Tryz.prog 38 #[.complex .f64 (fl p) (fl d)] w fun z w' => z = .returned (.complex .f64 (fl (indetP p d)) (fl (indetD p d))) ∧ w = w' := by
  obtain rfl | rfl | rfl | rfl | rfl := five p
  all_goals
    obtain rfl | rfl | rfl | rfl | rfl := five d
    all_goals
      go_enter Tryz.func38, Tryz.ntmps38
      go_wp2
      go_ret
      exact ⟨ret_c (by decide +kernel) (by decide +kernel), rfl⟩
end Go.Proofs.YtadjfkgnoklmiaaGreat
/- Package eval: effect, Rule. -/
namespace Go.Proofs.YtadjfkgnoklmiaaGreat
set_option linter.unusedVariables false
open Go.RowKit Go.Sort
attribute [local go_sem] eq0 feq2 eq4 fgt0 gt2 ord_eq ord_gt ord_lt

theorem ev_store {P : Program} {w : World} {a : Addr} {m : Mode} (k : FloatKind) (x y : Nat) : (store a (.complex k x y) m).run P w = stored P w a (.complex k x y) m := run_store P w a _ m rfl
attribute [local go_sem] ev_store
theorem Ob.grownI {w : World} {g i : Nat} {t : TypeId} {cs : Array Value} {a : Value} (h : Ob w g t cs) (hi : cs[i]? = some a) : ∀ d os, (grow (redrawn w d) os).cell? ⟨g, i, none⟩ = some a :=
  fun d os => cell_regrown ((h.cell i).trans hi) d os
theorem res_ret {fn : Func} {t : Tmp} {tmps : Array Value} {w : World} {g : Nat} {m : Value} {A : Option Addr} {n c : Nat} (h : fn.results = #[.cell t 50]) (hp : tmps.getD t undef = .pointer (some ⟨g, 0, none⟩))
    (hg : Ob w g 50 #[m, .slice A n c]) : (results fn tmps).run Tryz.prog w = .ok (.agg #[m, .slice A n c]) w :=
  results_cell_row h tmps w g _ _ (0, 0) _ hp hg Tryz.underlying50 rfl (by kernel_rfl)
theorem Dus.set2 {w : World} {g B B0 : Nat} {A : Option Addr} {n c : Nat} {l : List Dut} (h : Dus w (fun b => B ≤ b) A n c l) (hg : g < B) (hB : B0 ≤ B) (u v : Value) : Dus ((w.setCell ⟨g, 0, none⟩ u).setCell ⟨g, 1, none⟩ v) (fun b => B0 ≤ b) A n c l :=
  h.keep ⟨by simp [World.setCell], fun b hb _ => (Below.heap_setCell _ _ _ _ (by have h1 : B ≤ b := hb; show b ≠ g; omega)).trans (Below.heap_setCell _ _ _ _ (by have h1 : B ≤ b := hb; show b ≠ g; omega))⟩ (fun b hb _ => Nat.le_trans hB hb)
theorem below_set2 {w w' : World} {g : Nat} (h : Below w.heap.size w w') (hg : w.heap.size ≤ g) (u v : Value) : Below w.heap.size w ((w'.setCell ⟨g, 0, none⟩ u).setCell ⟨g, 1, none⟩ v) :=
  (h.setCell (p := ⟨g, 0, none⟩) hg u).setCell (p := ⟨g, 1, none⟩) hg v
theorem Ob.set2 {w : World} {g : Nat} {t : TypeId} {a b : Value} (h : Ob w g t #[a, b]) (u v : Value) : Ob ((w.setCell ⟨g, 0, none⟩ u).setCell ⟨g, 1, none⟩ v) g t #[u, v] := by
  simpa using (h.put 0 u).put 1 v
theorem mark_na (m : Mk) (h : m = (0, 0)) : (.complex .f64 0 0 : Value) = .complex .f64 (fl m.1) (fl m.2) := by rw [h, fl0]

set_option maxHeartbeats 800000 in
theorem effect_any (w : World) (s : ByteArray) (b : Bool) (A1 : Option Addr) (n1 c1 : Nat) (A2 : Option Addr) (n2 c2 : Nat) (A3 : Option Addr) (n3 c3 : Nat) :
    Calls Tryz.prog 97 #[.agg #[.string s, .bool b, .slice A1 n1 c1, .slice A2 n2 c2, .slice A3 n3 c3]] w fun e w' => e = .returned (.complex .f64 (fl (effM b).1) (fl (effM b).2)) ∧ Below w.heap.size w w' := by
  have a1 := Lib.hid ((Below.refl w.heap.size w).alloc (Nat.le_refl _) (.cells #[.string s, .bool b, .slice A1 n1 c1, .slice A2 n2 c2, .slice A3 n3 c3] 58))
  cases b
  · go_enter Tryz.func97, Tryz.ntmps97
    go_wp2_with fail
    go_ret
    refine ⟨?_, a1.out⟩
    show _ = Ending.returned (.complex .f64 (fl 4) (fl 0))
    rw [fl0, fl4]
    rfl
  · go_enter Tryz.func97, Tryz.ntmps97
    go_wp2_with fail
    go_ret
    refine ⟨?_, a1.out⟩
    show _ = Ending.returned (.complex .f64 (fl 0) (fl 4))
    rw [fl0, fl4]
    rfl

def ShortD (l : List Dut) : Prop := ∀ o ∈ l, o.arg.size ≤ 1000000
set_option maxRecDepth 100000 in
set_option maxHeartbeats 3200000 in
theorem evrule_any {ask : List Giv} {w : World} {R R2 : Nat → Prop} {A : Option Addr} {n c : Nat} {r : Rul} {A1 A2 A3 : Option Addr} {n1 n2 n3 c1 c2 c3 : Nat} (h1 : Tg w R A1 n1 c1 r.tg) (h2 : Nds w R A2 n2 c2 r.cond) (h3 : Dus w R A3 n3 c3 r.ob)
    (hs : ShortD r.ob) (hn : n3 ≤ 500000) (hA : Gvs w R2 A n c ask) (hG : ShortG ask) :
    Calls Tryz.prog 54 #[.agg #[.string r.id, .bool r.deny, .slice A1 n1 c1, .slice A2 n2 c2, .slice A3 n3 c3], .slice A n c] w fun e w' => ∃ A' n' c', e = .returned (.agg #[.complex .f64 (fl (ruleV ask r).m.1) (fl (ruleV ask r).m.2), .slice A' n' c']) ∧ Below w.heap.size w w' ∧ Dus w' (fun b => w.heap.size ≤ b) A' n' c' (ruleV ask r).ob := by
  have HM := Lib.hid (fun W (hW : Below w.heap.size w W) => tgmet_any (w := W) (h1.keep (Kept.all hW R) (fun _ h _ => h)) (hA.keep (Kept.all hW R2) (fun _ h _ => h)) hG)
  have HC := Lib.hid (fun W (hW : Below w.heap.size w W) => econd_any (w := W) (h2.keep (Kept.all hW R) (fun _ h _ => h)) (hA.keep (Kept.all hW R2) (fun _ h _ => h)) hG)
  have HD := Lib.hid (fun W (hW : Below w.heap.size w W) (p d : Fin 5) => duties_any (w := W) p d (h3.keep (Kept.all hW R) (fun _ h _ => h)) hs hn)
  have HN := Lib.hid hn
  have HL3 := Lib.hid (Rw.len h3)
  have HE := Lib.hid (fun W => effect_any W r.id r.deny A1 n1 c1 A2 n2 c2 A3 n3 c3)
  have HV : Hid (ruleV ask r = ruleO (metI ask r.tg) (condP ask r.cond) r) := rfl
  have HT := Lib.hid (tri_met ask r.tg)
  have HK : Hid (condP ask r.cond = 0 ∨ condP ask r.cond = 1 ∨ condP ask r.cond = 2) := by
    show _ ∨ _
    unfold condP
    repeat' split
    all_goals simp
  have HO : Hid (ruleO (metI ask r.tg) (condP ask r.cond) r = if metI ask r.tg = 0 ∨ metI ask r.tg = 2 ∧ condP ask r.cond = 0 then noRes else if metI ask r.tg = 1 ∨ condP ask r.cond = 1 then ⟨indM (effM r.deny), []⟩ else ⟨effM r.deny, dutsM r.ob (effM r.deny)⟩) := rfl
  generalize metI ask r.tg = t at *
  generalize condP ask r.cond = cc at *
  generalize ruleV ask r = v at *
  generalize ruleO t cc r = v' at *
  obtain ⟨q, hq⟩ : ∃ q, q = effM r.deny := ⟨_, rfl⟩
  rw [← hq] at HE HO
  obtain ⟨p, d⟩ := q
  obtain ⟨s, b, tg, cond, ob⟩ := r
  simp only at HE HO HD HL3
  have OB := Lib.hid (Ob.made w 58 #[.string s, .bool b, .slice A1 n1 c1, .slice A2 n2 c2, .slice A3 n3 c3])
  have a1 : Below w.heap.size w (w.alloc (.cells #[.string s, .bool b, .slice A1 n1 c1, .slice A2 n2 c2, .slice A3 n3 c3] 58)) := (Below.refl w.heap.size w).alloc (Nat.le_refl _) _
  have OB2 := Lib.hid (OB.out.keep (w' := (w.alloc (.cells #[.string s, .bool b, .slice A1 n1 c1, .slice A2 n2 c2, .slice A3 n3 c3] 58)).alloc (.cells #[.complex .f64 0 0, .slice none 0 0] 50)) (Below.heap_alloc _ _ _ OB.out.lt))
  have OR := Ob.made (w.alloc (.cells #[.string s, .bool b, .slice A1 n1 c1, .slice A2 n2 c2, .slice A3 n3 c3] 58)) 50 #[.complex .f64 0 0, .slice none 0 0]
  rw [size_al] at OR
  have OR2 := Lib.hid OR
  have D2 := Lib.hid (a1.alloc (by rw [size_al]; omega) (.cells #[.complex .f64 0 0, .slice none 0 0] 50))
  have HZ2 : Hid (((w.alloc (.cells #[.string s, .bool b, .slice A1 n1 c1, .slice A2 n2 c2, .slice A3 n3 c3] 58)).alloc (.cells #[.complex .f64 0 0, .slice none 0 0] 50)).heap.size = w.heap.size + 2) := by show _ = _; rw [size_al, size_al]
  have o0 := OB2.out.cell 0
  have o1 := OB2.out.cell 1
  have o2 := OB2.out.cell 2
  have o3 := OB2.out.cell 3
  have o4 := OB2.out.cell 4
  clear h1 h2 h3 hs hn hA hG OB OR a1 hq
  go_enter Tryz.func54, Tryz.ntmps54
  go_wp2_with fail
  refine (HE.out _).mono ?_
  rintro e w1 ⟨rfl, hb⟩
  have D3 := Lib.hid (below_step D2.out hb)
  have OB3 := Lib.hid (OB2.out.below hb OB2.out.lt)
  have OR3 := Lib.hid (OR2.out.below hb OR2.out.lt)
  have HZ3 : Hid (w.heap.size + 2 ≤ w1.heap.size) := by have h1 := hb.size; have h2 := HZ2.out; show _ ≤ _; omega
  clear hb o0 o1 o2 o3 o4
  have g2 := OB3.out.grownI (i := 2) rfl
  have g3 := OB3.out.grownI (i := 3) rfl
  have QM := Lib.hid (fun d os => Calls.regrown_of (w := w1) (d := d) (os := os) (HM.out (grow (redrawn w1 d) os) (D3.out.trans ((below_regrown w1 d os).mono D3.out.size))))
  have QC := Lib.hid (fun d os => Calls.regrown_of (w := w1) (d := d) (os := os) (HC.out (grow (redrawn w1 d) os) (D3.out.trans ((below_regrown w1 d os).mono D3.out.size))))
  go_wp2_with fail
  refine wp_region_quiet_below (by kernel_rfl) (by kernel_rfl) ?_
  repeat (go_big_quiet_step (first | (go_at_call 12; with_reducible exact QM.out _ _) | (go_at_call 13; with_reducible exact QC.out _ _)))
  refine wpQuiet_nil ?_
  intro _ hw'
  obtain ⟨⟨dq, osq⟩, hw''⟩ := hw'
  subst hw''
  have hb := below_regrown w1 dq osq
  generalize grow (redrawn w1 dq) osq = w2 at *
  have D4 := Lib.hid (below_step D3.out hb)
  have OB4 := Lib.hid (OB3.out.below hb OB3.out.lt)
  have OR4 := Lib.hid (OR3.out.below hb OR3.out.lt)
  have HZ4 : Hid (w.heap.size + 2 ≤ w2.heap.size) := by have h1 := hb.size; have h2 := HZ3.out; show _ ≤ _; omega
  clear hb g2 g3 QM QC
  rcases (show t = 0 ∨ t = 1 ∨ t = 2 by have := HT.out; unfold Tri at this; omega) with rfl | rfl | rfl
  · have HQ : Hid (v' = noRes) := HO.out.trans (if_pos (.inl rfl))
    have r0 := OR4.out.cell 0
    have r1 := OR4.out.cell 1
    have s0 := OR4.out.frozen 0
    have s1 := OR4.out.frozen 1
    go_wp2_with fail
    try simp only [Exit.inBlock, Exit.then]
    refine bodyPost_ret (res_ret rfl rfl (OR4.out.set2 (.complex .f64 0 0) (.slice none 0 0))) rfl ?_
    exact ⟨none, 0, 0, by rw [HV.out, HQ.out, mark_na noRes.m rfl], below_set2 D4.out (by omega) _ _, by rw [HV.out, HQ.out]; exact Rw.nil_ _ _ _ _⟩
  · have HQ : Hid (v' = ⟨indM (p, d), []⟩) := HO.out.trans ((if_neg (by omega)).trans (if_pos (.inl rfl)))
    have HI := Lib.hid (indet_any p d)
    have r0 := OR4.out.cell 0
    have r1 := OR4.out.cell 1
    have s0 := OR4.out.frozen 0
    have s1 := OR4.out.frozen 1
    go_wp2_with fail
    refine (HI.out _).mono ?_
    rintro z w' ⟨rfl, rfl⟩
    go_wp2_with fail
    try simp only [Exit.inBlock, Exit.then]
    refine bodyPost_ret (res_ret rfl rfl (OR4.out.set2 (.complex .f64 (fl (indetP p d)) (fl (indetD p d))) (.slice none 0 0))) rfl ?_
    exact ⟨none, 0, 0, by rw [HV.out, HQ.out]; rfl, below_set2 D4.out (by omega) _ _, by rw [HV.out, HQ.out]; exact Rw.nil_ _ _ _ _⟩
  · rcases HK.out with rfl | rfl | rfl
    · have HQ : Hid (v' = noRes) := HO.out.trans (if_pos (.inr ⟨rfl, rfl⟩))
      have r0 := OR4.out.cell 0
      have r1 := OR4.out.cell 1
      have s0 := OR4.out.frozen 0
      have s1 := OR4.out.frozen 1
      go_wp2_with fail
      try simp only [Exit.inBlock, Exit.then]
      refine bodyPost_ret (res_ret rfl rfl (OR4.out.set2 (.complex .f64 0 0) (.slice none 0 0))) rfl ?_
      exact ⟨none, 0, 0, by rw [HV.out, HQ.out, mark_na noRes.m rfl], below_set2 D4.out (by omega) _ _, by rw [HV.out, HQ.out]; exact Rw.nil_ _ _ _ _⟩
    · have HQ : Hid (v' = ⟨indM (p, d), []⟩) := HO.out.trans ((if_neg (by omega)).trans (if_pos (.inr rfl)))
      have HI := Lib.hid (indet_any p d)
      have r0 := OR4.out.cell 0
      have r1 := OR4.out.cell 1
      have s0 := OR4.out.frozen 0
      have s1 := OR4.out.frozen 1
      go_wp2_with fail
      refine (HI.out _).mono ?_
      rintro z w' ⟨rfl, rfl⟩
      go_wp2_with fail
      try simp only [Exit.inBlock, Exit.then]
      refine bodyPost_ret (res_ret rfl rfl (OR4.out.set2 (.complex .f64 (fl (indetP p d)) (fl (indetD p d))) (.slice none 0 0))) rfl ?_
      exact ⟨none, 0, 0, by rw [HV.out, HQ.out]; rfl, below_set2 D4.out (by omega) _ _, by rw [HV.out, HQ.out]; exact Rw.nil_ _ _ _ _⟩
    · have HQ : Hid (v' = ⟨(p, d), dutsM ob (p, d)⟩) := HO.out.trans ((if_neg (by omega)).trans (if_neg (by omega)))
      have o4 := OB4.out.cell 4
      go_wp2_with fail
      refine (HD.out _ D4.out p d).mono ?_
      rintro z w3 ⟨A', n', c', rfl, hb, ho⟩
      have OR5 := Lib.hid (OR4.out.below hb OR4.out.lt)
      have D5 := Lib.hid (below_step D4.out hb)
      have HLn : Hid ((dutsM ob (p, d)).length = n') := ho.2.1
      have HLe := Lib.hid (dutsM_len ob (p, d))
      have HLo : Hid (ob.length = n3) := HL3.out
      have DU := Lib.hid (ho.dus (by have h1 := HLn.out; have h2 := HLe.out; have h3 := HLo.out; have h4 := HN.out; omega))
      clear hb ho
      have r0 := OR5.out.cell 0
      have r1 := OR5.out.cell 1
      have s0 := OR5.out.frozen 0
      have s1 := OR5.out.frozen 1
      go_wp2_with fail
      try simp only [Exit.inBlock, Exit.then]
      refine bodyPost_ret (res_ret rfl rfl (OR5.out.set2 (.complex .f64 (fl p) (fl d)) (.slice A' n' c'))) rfl ?_
      exact ⟨A', n', c', by rw [HV.out, HQ.out], below_set2 D5.out (by omega) _ _, by rw [HV.out, HQ.out]; exact DU.out.set2 (by have := HZ4.out; omega) (by have := HZ4.out; omega) _ _⟩
end Go.Proofs.YtadjfkgnoklmiaaGreat
/- All for any algorithm and any marks. -/
namespace Go.Proofs.YtadjfkgnoklmiaaGreat
set_option linter.unusedVariables false
open Go.RowKit
attribute [local go_sem] eq0 feq2 eq4 fgt0 gt2 ord_eq ord_gt ord_lt run_max_fl

theorem allK_bad1 {a : Int} (h : algB a = false) (l : List Mk) : allK a l = ((0, 0), 1) := by unfold allK; rw [h]; rfl
theorem allK_bad2 (a : Int) {l : List Mk} (h : l.all rightK = false) : allK a l = ((0, 0), 1) := by unfold allK; rw [h, Bool.and_false]; rfl

set_option maxHeartbeats 1600000 in
theorem comball_any {w : World} {B n c : Nat} {A : Option Addr} {l : List Mk} (a : Int) {p d : Fin 5} {e : Int} (h : Sl w B A n c (mv l)) (hr : allK a l = ((p, d), e)) :
    Calls Tryz.prog 55 #[.int .i64 a, .slice A n c] w fun z w' => z = .returned (.tuple #[.complex .f64 (fl p) (fl d), .int .i64 e]) ∧ w = w' := by
  by_cases ha : algB a = true
  · by_cases hl : l.all rightK = true
    · obtain ⟨i, rfl⟩ := alg_of ha
      rw [allK_right i (List.all_eq_true.1 hl)] at hr
      obtain ⟨hm, rfl⟩ := Prod.mk.inj hr
      exact all_to i h (List.all_eq_true.1 hl) hm
    · have hl' : l.all rightK = false := by simpa using hl
      rw [allK_bad2 a hl'] at hr
      obtain ⟨hm, rfl⟩ := Prod.mk.inj hr
      obtain ⟨rfl, rfl⟩ := Prod.mk.inj hm
      have c1 := cmarks_any h
      have c2 := cright_any a
      rw [hl'] at c1
      rw [ha] at c2
      have C1 := Lib.hid c1
      have C2 := Lib.hid c2
      clear c1 c2 h hl hl' ha hm hr
      go_enter Tryz.func55, Tryz.ntmps55
      go_wp2_with fail
      refine (C2.out _).mono ?_
      rintro z w' ⟨rfl, rfl⟩
      go_wp2_with fail
      refine C1.out.mono ?_
      rintro z w' ⟨rfl, rfl⟩
      go_wp2_with fail
      go_ret2
      exact ⟨by rw [fl0]; rfl, rfl⟩
  · have ha' : algB a = false := by simpa using ha
    rw [allK_bad1 ha'] at hr
    obtain ⟨hm, rfl⟩ := Prod.mk.inj hr
    obtain ⟨rfl, rfl⟩ := Prod.mk.inj hm
    have c2 := cright_any a
    rw [ha'] at c2
    have C2 := Lib.hid c2
    clear c2 h ha ha' hm hr
    go_enter Tryz.func55, Tryz.ntmps55
    go_wp2_with fail
    refine (C2.out _).mono ?_
    rintro z w' ⟨rfl, rfl⟩
    go_wp2_with fail
    go_ret2
    exact ⟨by rw [fl0]; rfl, rfl⟩

end Go.Proofs.YtadjfkgnoklmiaaGreat
/- Package eval: joined, along. -/
namespace Go.Proofs.YtadjfkgnoklmiaaGreat
set_option linter.unusedVariables false
open Go.RowKit
attribute [local go_sem] eq0 feq2 eq4 fgt0 gt2 ord_eq ord_gt ord_lt ev_store

theorem map_step {α β : Type} (f : α → β) {l : List α} {k : Nat} {x : α} (h : l[k]? = some x) : (l.take (k + 1)).map f = (l.take k).map f ++ [f x] := by
  obtain ⟨hk, e⟩ := List.getElem?_eq_some_iff.1 h
  rw [List.take_succ_eq_append_getElem hk, e, List.map_append]
  rfl
set_option maxRecDepth 100000 in
set_option maxHeartbeats 1600000 in
theorem joined_any {w : World} {R : Nat → Prop} {A : Option Addr} {n c : Nat} {l : List Res} (alg : Int) (h : Rss w R A n c l) (hn : n ≤ 700000) :
    Calls Tryz.prog 37 #[.int .i64 alg, .slice A n c] w fun e w' => e = .returned (.complex .f64 (fl (joinV alg l).1) (fl (joinV alg l).2)) ∧ Below w.heap.size w w' := by
  have hle := Rw.le h
  have hcap := Rw.cap h
  have HL := Lib.hid (Rw.len h)
  unfold maxLen at hcap
  have H := Lib.hid h
  obtain ⟨⟨⟨p, d⟩, e⟩, hq⟩ : ∃ q, allK alg (l.map Res.m) = q := ⟨_, rfl⟩
  have HQ := Lib.hid hq
  have HJ : Hid (joinV alg l = (p, d)) := by show _ = _; unfold joinV; rw [hq]
  generalize joinV alg l = j at *
  clear h hq
  go_enter Tryz.func37, Tryz.ntmps37
  go_wp2
  go_loopw [5, 12] (fun out i wr => ∃ (k : Nat) (A' : Option Addr) (c' : Nat), k ≤ n ∧ i = .int .i64 k ∧ out = .slice A' k c' ∧ OwM wr w.heap.size A' k c' ((l.take k).map Res.m) ∧ Below w.heap.size w wr) (fun out i _ => n - (intOf i).toNat)
  case atStart => exact ⟨0, none, 0, Nat.zero_le _, rfl, rfl, OwM.nil _ _ (Nat.le_refl _), Below.refl _ _⟩
  case round =>
    obtain ⟨k, A', c', hk, rfl, rfl, ho, hb⟩ := hrel
    have HO := Lib.hid ho
    have HB := Lib.hid hb
    clear ho hb
    by_cases hlt : k < n
    · obtain ⟨b, o, r, Ax, nx, cx, rfl, hRb, hbl, hx, ⟨x0, x1⟩, hin⟩ := (H.out.keep (Kept.all HB.out R) (fun _ h _ => h)).at_ hlt
      have HF := Lib.hid (map_step Res.m hx)
      obtain ⟨⟨rp, rd⟩, rob⟩ := r
      simp only at x0 x1
      have a1 : Below wr.heap.size wr (wr.alloc (.cells #[.complex .f64 (fl rp) (fl rd), .slice Ax nx cx] 50)) := (Below.refl _ _).alloc (Nat.le_refl _) _
      obtain ⟨A2, c2, w3, r3, o3, b3⟩ := (HO.out.below a1).push (m := (rp, rd)) (by omega) 125
      rw [size_al] at r3
      simp only at r3
      have R3 := Lib.hid r3
      have O3 := Lib.hid o3
      have B3 := Lib.hid (HB.out.trans ((a1.mono HB.out.size).trans b3))
      clear hx hin a1 r3 o3 b3
      go_wp2_with (first
        | (at_builtin; refine wpList_append_run (o := ⟨some 20, _, _, _, _, _⟩) rfl _ _ _ _ rfl rfl rfl R3.out ?_))
      go_roundw
      case rel => exact ⟨k + 1, A2, c2, by omega, by go_num, rfl, by rw [HF.out]; exact O3.out, B3.out⟩
      case measure => simp [intOf]; omega
    · obtain rfl : k = n := by omega
      have ho := HO.out
      rw [List.take_of_length_le (by have := HL.out; omega)] at ho
      have HA := Lib.hid (comball_any (w := wr) alg ho.sl HQ.out)
      clear ho
      go_wp2_with fail
      refine HA.out.mono ?_
      rintro z w' ⟨rfl, rfl⟩
      go_wp2_with fail
      go_ret
      exact ⟨by rw [HJ.out]; rfl, HB.out⟩
theorem obS_step {l : List Res} {k : Nat} {x : Res} (h : l[k]? = some x) : obS (l.take (k + 1)) = obS (l.take k) + x.ob.length := by
  obtain ⟨hk, e⟩ := List.getElem?_eq_some_iff.1 h
  rw [List.take_succ_eq_append_getElem hk, e, obS_app]
  rfl
theorem along_step {alg : Int} {m : Mk} {l : List Res} {k : Nat} {x : Res} (h : l[k]? = some x) (hn : alg = 3 → ∀ r ∈ l.take k, r.m ≠ m) : alongV alg m (l.take (k + 1)) = alongV alg m (l.take k) ++ if x.m = m then x.ob else [] := by
  obtain ⟨hk, e⟩ := List.getElem?_eq_some_iff.1 h
  rw [List.take_succ_eq_append_getElem hk, e]
  have h1 : alongV alg m [x] = if x.m = m then x.ob else [] := by
    unfold alongV
    simp only [alongV, List.append_nil]
    split
    · split <;> rfl
    · rfl
  by_cases h3 : alg = 3
  · have h0 := along_none (alg := alg) [] (hn h3)
    rw [List.append_nil] at h0
    rw [along_none [x] (hn h3), h0, h1]
    rfl
  · rw [along_app h3, h1]
theorem along_stop {alg : Int} {m : Mk} {l : List Res} {k : Nat} {x : Res} (h : l[k]? = some x) (h3 : alg = 3) (hn : ∀ r ∈ l.take k, r.m ≠ m) (hx : x.m = m) : alongV alg m l = alongV alg m (l.take (k + 1)) := by
  obtain ⟨hk, e⟩ := List.getElem?_eq_some_iff.1 h
  conv => lhs; rw [← List.take_append_drop k l, List.drop_eq_getElem_cons hk, e]
  rw [List.take_succ_eq_append_getElem hk, e, along_none _ hn, along_none _ hn]
  unfold alongV
  rw [if_pos hx, if_pos h3, if_pos hx, if_pos h3]
set_option maxRecDepth 100000 in
set_option maxHeartbeats 1600000 in
theorem along_any {w : World} {R : Nat → Prop} {A : Option Addr} {n c : Nat} {l : List Res} (alg : Int) (p d : Fin 5) (h : Rss w R A n c l) (hn : obS l ≤ 700000) :
    Calls Tryz.prog 39 #[.int .i64 alg, .slice A n c, .complex .f64 (fl p) (fl d)] w fun e w' => ∃ A' n' c', e = .returned (.slice A' n' c') ∧ Below w.heap.size w w' ∧ OwD w' w.heap.size A' n' c' (alongV alg (p, d) l) := by
  have hle := Rw.le h
  have hcap := Rw.cap h
  have HL := Lib.hid (Rw.len h)
  unfold maxLen at hcap
  have H := Lib.hid h
  clear h
  have HN := Lib.hid hn
  go_enter Tryz.func39, Tryz.ntmps39
  go_wp2
  go_loopw [7, 12] (fun out i wr => ∃ (k : Nat) (A' : Option Addr) (n' c' : Nat), k ≤ n ∧ i = .int .i64 k ∧ out = .slice A' n' c' ∧ (n' ≤ obS (l.take k) ∧ OwD wr w.heap.size A' n' c' (alongV alg (p, d) (l.take k)) ∧ (alg = 3 → ∀ r ∈ l.take k, r.m ≠ (p, d))) ∧ Below w.heap.size w wr) (fun out i _ => n - (intOf i).toNat)
  case atStart => exact ⟨0, none, 0, 0, Nat.zero_le _, rfl, rfl, ⟨Nat.zero_le _, OwD.nil _ _ (Nat.le_refl _), fun _ r hr => by simp at hr⟩, Below.refl _ _⟩
  case round =>
    obtain ⟨k, A', n', c', hk, rfl, rfl, ho, hb⟩ := hrel
    have HO := Lib.hid ho
    have HB := Lib.hid hb
    clear ho hb
    by_cases hlt : k < n
    · obtain ⟨b, o, r, Ax, nx, cx, rfl, hRb, hbl, hx, ⟨x0, x1⟩, hin⟩ := (H.out.keep (Kept.all HB.out R) (fun _ h _ => h)).at_ hlt
      have HX := Lib.hid hx
      have HF := Lib.hid (along_step hx HO.out.2.2)
      have HS := Lib.hid (obS_step hx)
      have HS2 := Lib.hid (obS_take l (k + 1))
      obtain ⟨⟨rp, rd⟩, rob⟩ := r
      simp only at x0 x1 hin
      have a1 : Below wr.heap.size wr (wr.alloc (.cells #[.complex .f64 (fl rp) (fl rd), .slice Ax nx cx] 50)) := (Below.refl _ _).alloc (Nat.le_refl _) _
      have HNX : Hid (nx = rob.length) := (Rw.len hin).symm
      by_cases hm : (rp, rd) = (p, d)
      · obtain ⟨rfl, rfl⟩ := Prod.mk.inj hm
        obtain ⟨A2, c2, w3, r3, o3, b3⟩ := (HO.out.2.1.below a1).app (hin.keep (Kept.all a1 R) (fun _ h _ => h)) (by have h1 := HO.out.1; have h2 := HS.out; have h3 := HS2.out; have h4 := HNX.out; have h5 := HN.out; simp only at h2; omega) 26
        have R3 := Lib.hid r3
        have O3 := Lib.hid o3
        have B3 := Lib.hid (HB.out.trans ((a1.mono HB.out.size).trans b3))
        have HE : Hid (alongV alg (rp, rd) (l.take (k + 1)) = alongV alg (rp, rd) (l.take k) ++ rob) := HF.out.trans (by rw [if_pos rfl])
        have HLen : Hid (n' + nx ≤ obS (l.take (k + 1))) := by have h1 := HO.out.1; have h2 := HS.out; have h4 := HNX.out; simp only at h2; show _ ≤ _; omega
        clear hx hin a1 r3 o3 b3 hm HF
        by_cases h3 : alg = 3
        · have hb3 : (alg == 3) = true := by rw [beq_iff_eq]; exact h3
          have HW := Lib.hid (along_stop HX.out h3 (HO.out.2.2 h3) rfl)
          clear h3
          go_wp2_with (first
            | (at_builtin; refine wpList_append_run (o := ⟨some 23, _, _, _, _, _⟩) rfl _ _ _ _ rfl rfl rfl R3.out ?_))
          go_ret
          exact ⟨A2, n' + nx, c2, rfl, B3.out, by rw [HW.out, HE.out]; exact O3.out⟩
        · have hb3 : (alg == 3) = false := by rw [beq_eq_false_iff_ne]; exact h3
          have H3 := Lib.hid h3
          clear h3
          go_wp2_with (first
            | (at_builtin; refine wpList_append_run (o := ⟨some 23, _, _, _, _, _⟩) rfl _ _ _ _ rfl rfl rfl R3.out ?_))
          go_roundw
          case rel => exact ⟨k + 1, A2, n' + nx, c2, by omega, by go_num, rfl, ⟨HLen.out, by rw [HE.out]; exact O3.out, fun h => absurd h H3.out⟩, B3.out⟩
          case measure => simp [intOf]; omega
      · have hmb : (rp == p && rd == d) = false := by
          rw [Bool.eq_false_iff]
          intro h
          rw [Bool.and_eq_true, beq_iff_eq, beq_iff_eq] at h
          exact hm (by rw [h.1, h.2])
        have HE : Hid (alongV alg (p, d) (l.take (k + 1)) = alongV alg (p, d) (l.take k)) := HF.out.trans (by rw [if_neg hm, List.append_nil])
        have HM : Hid (alg = 3 → ∀ r ∈ l.take (k + 1), r.m ≠ (p, d)) := fun h3 r hr => by
          obtain ⟨hk', e⟩ := List.getElem?_eq_some_iff.1 HX.out
          rw [List.take_succ_eq_append_getElem hk', e] at hr
          rcases List.mem_append.1 hr with hr | hr
          · exact HO.out.2.2 h3 r hr
          · simp at hr
            subst hr
            exact hm
        have A1 := Lib.hid a1
        clear hx hin a1 hm HF
        go_wp2_with fail
        go_roundw
        case rel => exact ⟨k + 1, A', n', c', by omega, by go_num, rfl, ⟨by have h1 := HO.out.1; have h2 := HS.out; omega, by rw [HE.out]; exact HO.out.2.1.below A1.out, HM.out⟩, below_step HB.out A1.out⟩
        case measure => simp [intOf]; omega
    · obtain rfl : k = n := by omega
      go_wp2
      go_ret
      have ho := HO.out
      rw [List.take_of_length_le (by have := HL.out; omega)] at ho
      exact ⟨A', n', c', rfl, HB.out, ho.2.1⟩
end Go.Proofs.YtadjfkgnoklmiaaGreat
/- A builtin append whose run is known, as an operation of a region's head. -/
namespace Go.Proofs.YtadjfkgnoklmiaaGreat
set_option linter.unusedVariables false
open Go.RowKit

theorem oper_append {P : Program} {o : Oper} {a : Act} {w w' : World} {K : Act → World → Prop} {Q : Exit → Act → World → Prop} (s x : Operand) (t u : TypeId)
    (hop : o.op = Op.call { callee := Callee.builtin Builtin.append, args := #[s, x], argTypes := #[t, u] }) {sv xv v' : Value} (hs : a.eval s = sv) (hx : a.eval x = xv) (hrun : (Builtin.append_ #[t, u] o.type #[sv, xv]).run P w = .ok v' w') (hK : K (a.put o.dst v') w') : Oper.wp P o a w K Q := by
  unfold Oper.wp
  simp [execOp, hop, resolve, invoke, builtin, hs, hx, hrun, Result.andThen]
  exact hK
end Go.Proofs.YtadjfkgnoklmiaaGreat
/- Package eval: parts, decided, Policy. -/
namespace Go.Proofs.YtadjfkgnoklmiaaGreat
set_option linter.unusedVariables false
open Go.RowKit
attribute [local go_sem] eq0 feq2 eq4 fgt0 gt2 ord_eq ord_gt ord_lt ev_store

def RightAt (p : Pol) : Prop := ∃ d s s', d ≤ 4 ∧ polS d p s = (0, s')
theorem right_at {p : Pol} (h : rightE p = 0) : RightAt p := ⟨4, ⟨[], 0⟩, (polS 4 p ⟨[], 0⟩).2, by omega, by unfold rightE at h; rw [← h]⟩
theorem dut_short {o : Dut} (h : dutE o = 0) : o.arg.size ≤ 1000000 := by
  unfold dutE at h
  split at h
  · rename_i hc
    have := hc.2.2.2
    unfold Named at this
    have h1 := this.1.2
    have : o.arg.size = (bl o.arg).length := by
      show o.arg.data.size = o.arg.data.toList.length
      exact Array.length_toList.symm
    omega
  · cases h
theorem firstE_all {α : Type} {f : α → Int} : ∀ {l : List α}, firstE f l = 0 → ∀ x ∈ l, f x = 0
  | [], _, x, hx => by simp at hx
  | y :: l, h, x, hx => by
    simp only [firstE] at h
    split at h
    · rename_i h0; exact absurd h h0
    · rename_i h0
      rcases List.mem_cons.1 hx with rfl | hx
      · simpa using h0
      · exact firstE_all h x hx
theorem ob_short {l : List Dut} (h : obE l = 0) : ShortD l := fun o ho => by
  unfold obE at h
  split at h
  · cases h
  · exact dut_short (firstE_all h o ho)
theorem RightAt.all {p : Pol} (h : RightAt p) : (∀ k ∈ p.kids, RightAt k) ∧ (obE p.ob = 0 ∧ tgE p.tg = 0) ∧ (∀ r ∈ p.rules, tgE r.tg = 0 ∧ exprE r.cond = 0 ∧ obE r.ob = 0) ∧ szP p ≤ 700000 ∧ p.rules.length ≤ 16 ∧ p.kids.length ≤ 16 := by
  obtain ⟨d, s, s', hd, e⟩ := h
  match d, hd, e with
  | 0, _, e => simp [polS] at e
  | d + 1, hd, e =>
    have hc := sz_cap (d + 1) e
    obtain ⟨_, h2, h3, h4, h5, s1, s2, h6, h7⟩ := polE_parts e
    have hcap : capP (d + 1) ≤ 700000 := by
      rcases (show d = 0 ∨ d = 1 ∨ d = 2 ∨ d = 3 by omega) with rfl | rfl | rfl | rfl <;> decide
    refine ⟨fun k hk => ?_, ⟨h3, h2⟩, fun r hr => ?_, by omega, h4, h5⟩
    · obtain ⟨x, y, e'⟩ := firsts_all h7 k hk
      exact ⟨d, x, y, by omega, e'⟩
    · obtain ⟨x, y, e'⟩ := firsts_all h6 r hr
      exact rule_parts e'

def DecOk (d : Nat) : Prop :=
  ∀ {ask : List Giv} {w : World} {R R2 : Nat → Prop} {A : Option Addr} {n c : Nat} {p : Pol} {A1 A2 A3 A4 : Option Addr} {n1 k1 n2 k2 n3 k3 n4 k4 : Nat}, RightAt p →
    Tg w R A1 n1 k1 p.tg → Rus w R A2 n2 k2 p.rules → Pls w R d A3 n3 k3 p.kids → Dus w R A4 n4 k4 p.ob → Gvs w R2 A n c ask → ShortG ask →
    Calls Tryz.prog 22 #[.agg #[.string p.id, .bool p.set, .int .i64 p.alg, .slice A1 n1 k1, .slice A2 n2 k2, .slice A3 n3 k3, .slice A4 n4 k4], .slice A n c] w
      fun e w' => ∃ A' n' c', e = .returned (.agg #[.complex .f64 (fl (evV ask p).m.1) (fl (evV ask p).m.2), .slice A' n' c']) ∧ Below w.heap.size w w' ∧ Dus w' (fun b => w.heap.size ≤ b) A' n' c' (evV ask p).ob
set_option maxRecDepth 100000 in
set_option maxHeartbeats 3200000 in
theorem evparts_any (d : Nat) (ih : ∀ d', d = d' + 1 → DecOk d') {ask : List Giv} {w : World} {R R2 : Nat → Prop} {A : Option Addr} {n c : Nat} {p : Pol} {A1 A2 A3 A4 : Option Addr} {n1 k1 n2 k2 n3 k3 n4 k4 : Nat} (hp : RightAt p)
    (h2 : Rus w R A2 n2 k2 p.rules) (h3 : Pls w R d A3 n3 k3 p.kids) (hA : Gvs w R2 A n c ask) (hG : ShortG ask) :
    Calls Tryz.prog 36 #[.agg #[.string p.id, .bool p.set, .int .i64 p.alg, .slice A1 n1 k1, .slice A2 n2 k2, .slice A3 n3 k3, .slice A4 n4 k4], .slice A n c] w
      fun e w' => ∃ A' n' c', e = .returned (.slice A' n' c') ∧ Below w.heap.size w w' ∧ Rss w' (fun b => w.heap.size ≤ b) A' n' c' (partsV ask p) := by
  have HRA := Lib.hid hp.all
  have hle2 := Rw.le h2
  have hcap2 := Rw.cap h2
  have hle3 := Rw.le h3
  have hcap3 := Rw.cap h3
  unfold maxLen at hcap2 hcap3
  have HL2 := Lib.hid (Rw.len h2)
  have HL3 := Lib.hid (Rw.len h3)
  have HB2 : Hid (n2 ≤ 16) := by have := hp.all.2.2.2.2.1; have := Rw.len h2; show _ ≤ _; omega
  have HB3 : Hid (n3 ≤ 16) := by have := hp.all.2.2.2.2.2; have := Rw.len h3; show _ ≤ _; omega
  have H2 := Lib.hid h2
  have H3 := Lib.hid h3
  have HA := Lib.hid hA
  have HIH := Lib.hid ih
  have OB0 := Ob.made w 28 #[.string p.id, .bool p.set, .int .i64 p.alg, .slice A1 n1 k1, .slice A2 n2 k2, .slice A3 n3 k3, .slice A4 n4 k4]
  have a0 : Below w.heap.size w (w.alloc (.cells #[.string p.id, .bool p.set, .int .i64 p.alg, .slice A1 n1 k1, .slice A2 n2 k2, .slice A3 n3 k3, .slice A4 n4 k4] 28)) := (Below.refl w.heap.size w).alloc (Nat.le_refl _) _
  have OB := Lib.hid OB0
  have A0 := Lib.hid a0
  have HV : Hid (partsV ask p = p.rules.map (ruleV ask) ++ p.kids.map (evV ask)) := rfl
  have q4 := OB0.cell 4
  clear hp h2 h3 hA OB0 a0 ih
  go_enter Tryz.func36, Tryz.ntmps36
  go_wp2
  go_loopw [5, 13] (fun out i wr => ∃ (k : Nat) (A' : Option Addr) (c' : Nat), k ≤ n2 ∧ i = .int .i64 k ∧ out = .slice A' k c' ∧ Gr 2 ResAt wr (w.alloc (.cells #[.string p.id, .bool p.set, .int .i64 p.alg, .slice A1 n1 k1, .slice A2 n2 k2, .slice A3 n3 k3, .slice A4 n4 k4] 28)).heap.size 50 A' k c' ((p.rules.take k).map (ruleV ask)) ∧ Below (w.alloc (.cells #[.string p.id, .bool p.set, .int .i64 p.alg, .slice A1 n1 k1, .slice A2 n2 k2, .slice A3 n3 k3, .slice A4 n4 k4] 28)).heap.size (w.alloc (.cells #[.string p.id, .bool p.set, .int .i64 p.alg, .slice A1 n1 k1, .slice A2 n2 k2, .slice A3 n3 k3, .slice A4 n4 k4] 28)) wr) (fun out i _ => n2 - (intOf i).toNat)
  case atStart => exact ⟨0, none, 0, Nat.zero_le _, rfl, rfl, Gr.nil _ _ (Nat.le_refl _), Below.refl _ _⟩
  case round =>
    obtain ⟨k, A', c', hk, rfl, rfl, ho, hb⟩ := hrel
    have HO := Lib.hid ho
    have HB := Lib.hid hb
    have HW := Lib.hid (below_step A0.out hb)
    have OW := Lib.hid (OB.out.below hb OB.out.lt)
    clear ho hb
    by_cases hlt : k < n2
    · obtain ⟨b, o, r, B1, m1, d1, B2, m2, d2, B3, m3, d3, rfl, hRb, hbl, hx, hid, ⟨x0, x1, x2, x3, x4⟩, t1, t2, t3⟩ := (H2.out.keep (Kept.all HW.out R) (fun _ h _ => h)).at_ hlt
      have HX := Lib.hid (map_step (ruleV ask) hx)
      have hr := HRA.out.2.2.1 r (List.mem_of_getElem? hx)
      have a1 : Below wr.heap.size wr (wr.alloc (.cells #[.string r.id, .bool r.deny, .slice B1 m1 d1, .slice B2 m2 d2, .slice B3 m3 d3] 58)) := (Below.refl _ _).alloc (Nat.le_refl _) _
      have hm3 : m3 ≤ 500000 := by have h1 := Rw.len t3; have h2 := ob_eight hr.2.2; omega
      have HC := Lib.hid (evrule_any (w := wr.alloc (.cells #[.string r.id, .bool r.deny, .slice B1 m1 d1, .slice B2 m2 d2, .slice B3 m3 d3] 58)) (t1.keep (Kept.all a1 R) (fun _ h _ => h)) (t2.keep (Kept.all a1 R) (fun _ h _ => h)) (t3.keep (Kept.all a1 R) (fun _ h _ => h)) (ob_short hr.2.2) hm3 (HA.out.keep (Kept.all (HW.out.trans (a1.mono HW.out.size)) R2) (fun _ h _ => h)) hG)
      have A1' := Lib.hid a1
      clear hx hid t1 t2 t3 hr a1 hm3
      generalize hv : ruleV ask r = v at *
      clear hv
      obtain ⟨⟨vp, vd⟩, vob⟩ := v
      obtain ⟨rid, rdeny, rtg, rcond, rob⟩ := r
      simp only at x0 x1 x2 x3 x4 HC A1'
      go_wp2_with fail
      refine HC.out.mono ?_
      rintro z w3 ⟨E1, e2, e3, rfl, hb, hd⟩
      have b1 : Below wr.heap.size wr w3 := below_step A1'.out hb
      have hsz := A1'.out.size
      obtain ⟨A5, c5, w5, r5, o5, b5⟩ := push_res (r := ⟨(vp, vd), vob⟩) (Gr.below keeps_res HO.out b1) (hd.keep (Kept.refl _ _) (fun b hb _ => HO.out.apart b (Nat.le_trans hsz hb))) (by have := HB2.out; omega)
      have R5 := Lib.hid r5
      have O5 := Lib.hid o5
      have B5 := Lib.hid (HB.out.trans ((b1.mono HB.out.size).trans b5))
      clear hb hd b1 hsz r5 o5 b5
      go_wp2_with (first
        | (at_builtin; refine wpList_append_run (o := ⟨some 22, _, _, _, _, _⟩) rfl _ _ _ _ rfl rfl rfl R5.out ?_))
      go_roundw
      case rel => exact ⟨k + 1, A5, c5, by omega, by go_num, rfl, by rw [HX.out]; exact O5.out, B5.out⟩
      case measure => simp [intOf]; omega
    · obtain rfl : n2 = k := by omega
      have hL := HO.out
      rw [List.take_of_length_le (by have := HL2.out; omega)] at hL
      have HR := Lib.hid hL
      have q5 := OW.out.cell 5
      clear hL HO
      go_wp2
      go_loopw [5, 27] (fun out i wq => ∃ (j : Nat) (A' : Option Addr) (c' : Nat), j ≤ n3 ∧ i = .int .i64 j ∧ out = .slice A' (n2 + j) c' ∧ Gr 2 ResAt wq (w.alloc (.cells #[.string p.id, .bool p.set, .int .i64 p.alg, .slice A1 n1 k1, .slice A2 n2 k2, .slice A3 n3 k3, .slice A4 n4 k4] 28)).heap.size 50 A' (n2 + j) c' (p.rules.map (ruleV ask) ++ (p.kids.take j).map (evV ask)) ∧ Below (w.alloc (.cells #[.string p.id, .bool p.set, .int .i64 p.alg, .slice A1 n1 k1, .slice A2 n2 k2, .slice A3 n3 k3, .slice A4 n4 k4] 28)).heap.size (w.alloc (.cells #[.string p.id, .bool p.set, .int .i64 p.alg, .slice A1 n1 k1, .slice A2 n2 k2, .slice A3 n3 k3, .slice A4 n4 k4] 28)) wq) (fun out i _ => n3 - (intOf i).toNat)
      case atStart => exact ⟨0, A', c', Nat.zero_le _, rfl, rfl, by simpa using HR.out, HB.out⟩
      case round =>
        obtain ⟨wo, hwo⟩ : ∃ wo, wo = wr := ⟨wr, rfl⟩
        subst hwo
        obtain ⟨j, A6, c6, hj, rfl, rfl, ho, hb⟩ := hrel
        have HO := Lib.hid ho
        have HC0 := Lib.hid hb
        have HW2 := Lib.hid (below_step A0.out hb)
        clear ho hb
        by_cases hlt2 : j < n3
        · obtain ⟨b, o, kid, d', B1, m1, d1, B2, m2, d2, B3, m3, d3, B4, m4, d4, rfl, hRb, hbl, hx, hd, ⟨hid, halg⟩, ⟨x0, x1, x2, x3, x4, x5, x6⟩, t1, t2, t3, t4⟩ := (H3.out.keep (Kept.all HW2.out R) (fun _ h _ => h)).at_ hlt2
          have HX := Lib.hid (map_step (evV ask) hx)
          have a1 : Below wo.heap.size wo (wo.alloc (.cells #[.string kid.id, .bool kid.set, .int .i64 kid.alg, .slice B1 m1 d1, .slice B2 m2 d2, .slice B3 m3 d3, .slice B4 m4 d4] 28)) := (Below.refl _ _).alloc (Nat.le_refl _) _
          have HC := Lib.hid (HIH.out d' hd (w := wo.alloc (.cells #[.string kid.id, .bool kid.set, .int .i64 kid.alg, .slice B1 m1 d1, .slice B2 m2 d2, .slice B3 m3 d3, .slice B4 m4 d4] 28)) (HRA.out.1 kid (List.mem_of_getElem? hx)) (t1.keep (Kept.all a1 R) (fun _ h _ => h)) (t2.keep (Kept.all a1 R) (fun _ h _ => h)) (t3.keep (Kept.all a1 R) (fun _ h _ => h)) (t4.keep (Kept.all a1 R) (fun _ h _ => h)) (HA.out.keep (Kept.all (HW2.out.trans (a1.mono HW2.out.size)) R2) (fun _ h _ => h)) hG)
          have A1' := Lib.hid a1
          clear hx hid t1 t2 t3 t4 a1 hd halg
          generalize hv : evV ask kid = v at *
          clear hv
          obtain ⟨⟨vp, vd⟩, vob⟩ := v
          obtain ⟨ki, ks, ka, kt, kr, kk, ko⟩ := kid
          simp only [Pol.id, Pol.set, Pol.alg] at x0 x1 x2 x3 x4 x5 x6 HC A1'
          go_wp2_with fail
          refine HC.out.mono ?_
          rintro z w3 ⟨E1, e2, e3, rfl, hb, hd⟩
          have b1 : Below wo.heap.size wo w3 := below_step A1'.out hb
          have hsz := A1'.out.size
          obtain ⟨A5, c5, w5, r5, o5, b5⟩ := push_res (r := ⟨(vp, vd), vob⟩) (Gr.below keeps_res HO.out b1) (hd.keep (Kept.refl _ _) (fun b hb _ => HO.out.apart b (Nat.le_trans hsz hb))) (by have := HB2.out; have := HB3.out; omega)
          have R5 := Lib.hid r5
          have O5 := Lib.hid o5
          have B5 := Lib.hid (HC0.out.trans ((b1.mono HC0.out.size).trans b5))
          clear hb hd b1 hsz r5 o5 b5
          go_wp2_with (first
            | (at_builtin; refine wpList_append_run (o := ⟨some 36, _, _, _, _, _⟩) rfl _ _ _ _ rfl rfl rfl R5.out ?_))
          go_roundw
          case rel => exact ⟨j + 1, A5, c5, by omega, by go_num, rfl, by rw [HX.out, ← List.append_assoc]; exact O5.out, B5.out⟩
          case measure => simp [intOf]; omega
        · obtain rfl : n3 = j := by omega
          go_wp2
          go_ret
          have hR := HO.out
          rw [List.take_of_length_le (by have := HL3.out; omega), ← HV.out] at hR
          refine ⟨A6, n2 + n3, c6, rfl, HW2.out, ?_⟩
          have h1 : Rss wo (fun b => (w.alloc (.cells #[.string p.id, .bool p.set, .int .i64 p.alg, .slice A1 n1 k1, .slice A2 n2 k2, .slice A3 n3 k3, .slice A4 n4 k4] 28)).heap.size ≤ b) A6 (n2 + n3) c6 (partsV ask p) := hR.rw keeps_res (by have := HB2.out; have := HB3.out; omega)
          exact h1.keep (Kept.refl _ _) (fun b hb _ => Nat.le_trans A0.out.size hb)

set_option maxRecDepth 100000 in
set_option maxHeartbeats 6400000 in
theorem dec_step (d : Nat) (ih : ∀ d', d = d' + 1 → DecOk d') : DecOk d := by
  intro ask w R R2 A n c p A1 A2 A3 A4 n1 k1 n2 k2 n3 k3 n4 k4 hp h1 h2 h3 h4 hA hG
  have HM := Lib.hid (fun W (hW : Below w.heap.size w W) => tgmet_any (w := W) (h1.keep (Kept.all hW R) (fun _ h _ => h)) (hA.keep (Kept.all hW R2) (fun _ h _ => h)) hG)
  have HP := Lib.hid (fun W (hW : Below w.heap.size w W) => evparts_any (w := W) (A1 := A1) (n1 := n1) (k1 := k1) (A4 := A4) (n4 := n4) (k4 := k4) d ih hp (h2.keep (Kept.all hW R) (fun _ h _ => h)) (h3.keep (Kept.all hW R) (fun _ h _ => h)) (hA.keep (Kept.all hW R2) (fun _ h _ => h)) hG)
  have hob := Rw.len h4
  have hsz := hp.all.2.2.2.1
  have hpl := parts_len ask p
  have hn4 : n4 ≤ 500000 := by have := ob_eight hp.all.2.1.1; omega
  have HD := Lib.hid (fun W (hW : Below w.heap.size w W) (p d : Fin 5) => duties_any (w := W) p d (h4.keep (Kept.all hW R) (fun _ h _ => h)) (ob_short hp.all.2.1.1) hn4)
  have HV : Hid (evV ask p = polV (metI ask p.tg) p.alg p.ob (partsV ask p)) := decV_eq ask p
  have HT := Lib.hid (tri_met ask p.tg)
  have HS := Lib.hid (show (partsV ask p).length ≤ 700000 ∧ obS (partsV ask p) ≤ 700000 by omega)
  have HLD := Lib.hid (fun m => dutsM_len p.ob m)
  have HLO : Hid (p.ob.length ≤ 8) := ob_eight hp.all.2.1.1
  have HSD : Hid (obS (partsV ask p) + p.ob.length ≤ 700000) := by show _ ≤ _; omega
  have HPV : Hid (∀ t, polV t p.alg p.ob (partsV ask p) = if t = 0 then noRes else if t = 1 then ⟨indM (joinV p.alg (partsV ask p)), []⟩ else ⟨joinV p.alg (partsV ask p), alongV p.alg (joinV p.alg (partsV ask p)) (partsV ask p) ++ dutsM p.ob (joinV p.alg (partsV ask p))⟩) := fun _ => rfl
  clear h1 h2 h3 h4 hA ih hp hob hsz hpl hn4
  generalize metI ask p.tg = t at *
  generalize evV ask p = v at *
  generalize partsV ask p = ps at *
  obtain ⟨⟨jp, jd⟩, hj⟩ : ∃ q, q = joinV p.alg ps := ⟨_, rfl⟩
  have HJ := Lib.hid (fun W (R : Nat → Prop) (A : Option Addr) (n c : Nat) (h : Rss W R A n c ps) (hn : n ≤ 700000) => joined_any (w := W) p.alg h hn)
  rw [← hj] at HJ HPV
  clear hj
  have HAL := Lib.hid (fun W (R : Nat → Prop) (A : Option Addr) (n c : Nat) (h : Rss W R A n c ps) => along_any (w := W) p.alg jp jd h HS.out.2)
  obtain ⟨alv, hal⟩ : ∃ x, x = alongV p.alg (jp, jd) ps := ⟨_, rfl⟩
  have HAN : Hid (alv.length ≤ obS ps) := by show _ ≤ _; rw [hal]; exact along_len _ _ _
  rw [← hal] at HAL HPV
  clear hal
  obtain ⟨dv, hdv⟩ : ∃ x, x = dutsM p.ob (jp, jd) := ⟨_, rfl⟩
  have HDN := Lib.hid (HLD.out (jp, jd))
  have HD2 := Lib.hid (fun W hW => HD.out W hW jp jd)
  rw [← hdv] at HDN HD2 HPV
  clear hdv HD HLD
  have OB := Lib.hid (Ob.made w 28 #[.string p.id, .bool p.set, .int .i64 p.alg, .slice A1 n1 k1, .slice A2 n2 k2, .slice A3 n3 k3, .slice A4 n4 k4])
  have a1 : Below w.heap.size w (w.alloc (.cells #[.string p.id, .bool p.set, .int .i64 p.alg, .slice A1 n1 k1, .slice A2 n2 k2, .slice A3 n3 k3, .slice A4 n4 k4] 28)) := (Below.refl w.heap.size w).alloc (Nat.le_refl _) _
  have OB2 := Lib.hid (OB.out.keep (w' := (w.alloc (.cells #[.string p.id, .bool p.set, .int .i64 p.alg, .slice A1 n1 k1, .slice A2 n2 k2, .slice A3 n3 k3, .slice A4 n4 k4] 28)).alloc (.cells #[.complex .f64 0 0, .slice none 0 0] 50)) (Below.heap_alloc _ _ _ OB.out.lt))
  have OR := Ob.made (w.alloc (.cells #[.string p.id, .bool p.set, .int .i64 p.alg, .slice A1 n1 k1, .slice A2 n2 k2, .slice A3 n3 k3, .slice A4 n4 k4] 28)) 50 #[.complex .f64 0 0, .slice none 0 0]
  rw [size_al] at OR
  have OR2 := Lib.hid OR
  have D2 := Lib.hid (a1.alloc (by rw [size_al]; omega) (.cells #[.complex .f64 0 0, .slice none 0 0] 50))
  have HZ2 : Hid (((w.alloc (.cells #[.string p.id, .bool p.set, .int .i64 p.alg, .slice A1 n1 k1, .slice A2 n2 k2, .slice A3 n3 k3, .slice A4 n4 k4] 28)).alloc (.cells #[.complex .f64 0 0, .slice none 0 0] 50)).heap.size = w.heap.size + 2) := by show _ = _; rw [size_al, size_al]
  have o3 := OB2.out.cell 3
  clear OB OR a1
  obtain ⟨pid, pset, palg, ptg, pru, pki, pob⟩ := p
  simp only [Pol.id, Pol.set, Pol.alg, Pol.ob] at *
  go_enter Tryz.func22, Tryz.ntmps22
  go_wp2_with fail
  refine (HM.out _ D2.out).mono ?_
  rintro e w1 ⟨rfl, hb⟩
  have D3 := Lib.hid (below_step D2.out hb)
  have OB3 := Lib.hid (OB2.out.below hb OB2.out.lt)
  have OR3 := Lib.hid (OR2.out.below hb OR2.out.lt)
  have HZ3 : Hid (w.heap.size + 2 ≤ w1.heap.size) := by have h1 := hb.size; have h2 := HZ2.out; show _ ≤ _; omega
  clear hb o3
  rcases (show t = 0 ∨ t = 1 ∨ t = 2 by have := HT.out; unfold Tri at this; omega) with rfl | rfl | rfl
  · have HQ : Hid (v = noRes) := HV.out.trans ((HPV.out 0).trans (if_pos rfl))
    have r0 := OR3.out.cell 0
    have r1 := OR3.out.cell 1
    have s0 := OR3.out.frozen 0
    have s1 := OR3.out.frozen 1
    go_wp2_with fail
    try simp only [Exit.inBlock, Exit.then]
    refine bodyPost_ret (res_ret rfl rfl (OR3.out.set2 (.complex .f64 0 0) (.slice none 0 0))) rfl ?_
    exact ⟨none, 0, 0, by rw [HQ.out, mark_na noRes.m rfl], below_set2 D3.out (by omega) _ _, by rw [HQ.out]; exact Rw.nil_ _ _ _ _⟩
  · have HQ : Hid (v = ⟨indM (jp, jd), []⟩) := HV.out.trans ((HPV.out 1).trans ((if_neg (by omega)).trans (if_pos rfl)))
    have o0 := OB3.out.cell 0
    have o1 := OB3.out.cell 1
    have o2 := OB3.out.cell 2
    have o3 := OB3.out.cell 3
    have o4 := OB3.out.cell 4
    have o5 := OB3.out.cell 5
    have o6 := OB3.out.cell 6
    go_wp2_with fail
    refine (HP.out _ D3.out).mono ?_
    rintro e w2 ⟨E1, e2, e3, rfl, hb, hps⟩
    have D4 := Lib.hid (below_step D3.out hb)
    have OB4 := Lib.hid (OB3.out.below hb OB3.out.lt)
    have OR4 := Lib.hid (OR3.out.below hb OR3.out.lt)
    have HZ4 : Hid (w.heap.size + 2 ≤ w2.heap.size) := by have h1 := hb.size; have h2 := HZ3.out; show _ ≤ _; omega
    have HPS := Lib.hid hps
    have HE2 : Hid (e2 ≤ 700000) := by have h1 := Rw.len hps; have h2 := HS.out.1; show _ ≤ _; omega
    clear hb hps o0 o1 o2 o3 o4 o5 o6
    have o2 := OB4.out.cell 2
    go_wp2_with fail
    refine (HJ.out _ _ _ _ _ HPS.out HE2.out).mono ?_
    rintro e w3 ⟨rfl, hb⟩
    have D5 := Lib.hid (below_step D4.out hb)
    have OB5 := Lib.hid (OB4.out.below hb OB4.out.lt)
    have OR5 := Lib.hid (OR4.out.below hb OR4.out.lt)
    have HZ5 : Hid (w.heap.size + 2 ≤ w3.heap.size) := by have h1 := hb.size; have h2 := HZ4.out; show _ ≤ _; omega
    have HPS5 := Lib.hid (HPS.out.keep (Kept.all hb _) (fun _ h _ => h))
    clear hb o2
    have HI := Lib.hid (indet_any jp jd)
    have r0 := OR5.out.cell 0
    have r1 := OR5.out.cell 1
    have s0 := OR5.out.frozen 0
    have s1 := OR5.out.frozen 1
    go_wp2_with fail
    refine (HI.out _).mono ?_
    rintro z w' ⟨rfl, rfl⟩
    go_wp2_with fail
    try simp only [Exit.inBlock, Exit.then]
    refine bodyPost_ret (res_ret rfl rfl (OR5.out.set2 (.complex .f64 (fl (indetP jp jd)) (fl (indetD jp jd))) (.slice none 0 0))) rfl ?_
    exact ⟨none, 0, 0, by rw [HQ.out]; rfl, below_set2 D5.out (by omega) _ _, by rw [HQ.out]; exact Rw.nil_ _ _ _ _⟩
  · have HQ : Hid (v = ⟨(jp, jd), alv ++ dv⟩) := HV.out.trans ((HPV.out 2).trans ((if_neg (by omega)).trans (if_neg (by omega))))
    have o0 := OB3.out.cell 0
    have o1 := OB3.out.cell 1
    have o2 := OB3.out.cell 2
    have o3 := OB3.out.cell 3
    have o4 := OB3.out.cell 4
    have o5 := OB3.out.cell 5
    have o6 := OB3.out.cell 6
    go_wp2_with fail
    refine (HP.out _ D3.out).mono ?_
    rintro e w2 ⟨E1, e2, e3, rfl, hb, hps⟩
    have D4 := Lib.hid (below_step D3.out hb)
    have OB4 := Lib.hid (OB3.out.below hb OB3.out.lt)
    have OR4 := Lib.hid (OR3.out.below hb OR3.out.lt)
    have HZ4 : Hid (w.heap.size + 2 ≤ w2.heap.size) := by have h1 := hb.size; have h2 := HZ3.out; show _ ≤ _; omega
    have HPS := Lib.hid hps
    have HE2 : Hid (e2 ≤ 700000) := by have h1 := Rw.len hps; have h2 := HS.out.1; show _ ≤ _; omega
    clear hb hps o0 o1 o2 o3 o4 o5 o6
    have o2 := OB4.out.cell 2
    go_wp2_with fail
    refine (HJ.out _ _ _ _ _ HPS.out HE2.out).mono ?_
    rintro e w3 ⟨rfl, hb⟩
    have D5 := Lib.hid (below_step D4.out hb)
    have OB5 := Lib.hid (OB4.out.below hb OB4.out.lt)
    have OR5 := Lib.hid (OR4.out.below hb OR4.out.lt)
    have HZ5 : Hid (w.heap.size + 2 ≤ w3.heap.size) := by have h1 := hb.size; have h2 := HZ4.out; show _ ≤ _; omega
    have HPS5 := Lib.hid (HPS.out.keep (Kept.all hb _) (fun _ h _ => h))
    clear hb o2
    go_wp2_with fail
    have OBK := Lib.hid (fun V (hV : Below w3.heap.size w3 V) => OB5.out.below hV OB5.out.lt)
    refine wp_region_held_tail (fun w' => Below w3.heap.size w3 w') 11 (by kernel_rfl) (by kernel_rfl) ?_
    intro G
    change HeadW _ _ _ _ _ _ _ _ _ _ (w3.drewN 1)
    have S := Lib.hid (below_drewN (Below.refl w3.heap.size w3) 1)
    generalize w3.drewN 1 = y0 at *
    refine HeadW_take (i := 0) (v := ?_) G rfl (by kernel_rfl) (by kernel_rfl) (by kernel_rfl) (fun _ _ _ h => h) (Or.inl ⟨by rfl, ?_⟩) S.out ?_
    rotate_left
    · intro wz hS
      go_simp
      try with_reducible rfl
    refine HeadW_take (i := 1) (v := ?_) G rfl (by kernel_rfl) (by kernel_rfl) (by kernel_rfl) (fun _ _ _ h => h) (Or.inl ⟨by rfl, ?_⟩) S.out ?_
    rotate_left
    · intro wz hS
      go_simp
      try with_reducible rfl
    refine HeadW_take (i := 2) (v := ?_) G rfl (by kernel_rfl) (by kernel_rfl) (by kernel_rfl) (fun _ _ _ h => h) (Or.inl ⟨by rfl, ?_⟩) S.out ?_
    rotate_left
    · intro wz hS
      have hk := (OBK.out _ hS).cell 2
      go_simp
      try with_reducible rfl
    refine HeadW_take (i := 3) (v := ?_) G rfl (by kernel_rfl) (by kernel_rfl) (by kernel_rfl) (fun _ _ _ h => h) (Or.inl ⟨by rfl, ?_⟩) S.out ?_
    rotate_left
    · intro wz hS
      go_simp
      try with_reducible rfl
    refine HeadW_take (i := 4) (v := ?_) G rfl (by kernel_rfl) (by kernel_rfl) (by kernel_rfl) (fun _ _ _ h => h) (Or.inl ⟨by rfl, ?_⟩) S.out ?_
    rotate_left
    · intro wz hS
      go_simp
      try with_reducible rfl
    refine HeadW_take (i := 6) (v := ?_) G rfl (by kernel_rfl) (by kernel_rfl) (by kernel_rfl) (fun _ _ _ h => h) (Or.inl ⟨by rfl, ?_⟩) S.out ?_
    rotate_left
    · intro wz hS
      go_simp
      try with_reducible rfl
    refine HeadW_take (i := 7) (v := ?_) G rfl (by kernel_rfl) (by kernel_rfl) (by kernel_rfl) (fun _ _ _ h => h) (Or.inl ⟨by rfl, ?_⟩) S.out ?_
    rotate_left
    · intro wz hS
      have hk := (OBK.out _ hS).cell 6
      go_simp
      try with_reducible rfl
    refine HeadW_take (i := 8) (v := ?_) G rfl (by kernel_rfl) (by kernel_rfl) (by kernel_rfl) (fun _ _ _ h => h) (Or.inl ⟨by rfl, ?_⟩) S.out ?_
    rotate_left
    · intro wz hS
      go_simp
      try with_reducible rfl
    have HB0 := Lib.hid S.out.size
    refine HeadW_ready (rs := [5]) (by kernel_rfl) rfl rfl ?_
    refine AllW.cons rfl (fun K hK => ?_) AllW.nil
    go_simp
    refine (HAL.out _ _ _ _ _ (HPS5.out.keep (Kept.all S.out _) (fun _ h _ => h))).mono ?_
    rintro e y1 ⟨F1, f2, f3, rfl, hb, hal⟩
    have AL := Lib.hid hal
    have hal0 := hal.2.1
    have S := Lib.hid (S.out.trans (hb.mono S.out.size))
    refine hK _ _ S.out ?_
    clear hK K hb
    have HF2 : Hid (alv.length = f2) := hal0
    clear hal hal0
    refine HeadW_ready (rs := [9]) (by kernel_rfl) rfl rfl ?_
    refine AllW.cons rfl (fun K hK => ?_) AllW.nil
    go_simp
    refine (HD2.out _ (D5.out.trans (S.out.mono D5.out.size))).mono ?_
    rintro e y2 ⟨G1, g2, g3, rfl, hb, hdu⟩
    have AL2 := Lib.hid (AL.out.below hb)
    have hdn := hdu.2.1
    have DU := Lib.hid (hdu.dus (by have h1 := HDN.out; have h2 := HLO.out; omega))
    have S := Lib.hid (S.out.trans (hb.mono S.out.size))
    refine hK _ _ S.out ?_
    clear hK K hb
    have HG2 : Hid (dv.length = g2) := hdn
    clear hdu hdn AL
    obtain ⟨K1, k9, w6, r6, o6, b6⟩ := AL2.out.app DU.out (by have h1 := HF2.out; have h2 := HG2.out; have h3 := HAN.out; have h4 := HDN.out; have h5 := HSD.out; omega) 26
    have R6 := Lib.hid r6
    have O6 := Lib.hid o6
    have S6 := Lib.hid (S.out.trans (b6.mono HB0.out))
    clear r6 o6 b6
    refine HeadW_ready (rs := [10]) (by kernel_rfl) rfl rfl ?_
    refine AllW.cons rfl (fun K hK => ?_) AllW.nil
    refine oper_append (.tmp 32) (.tmp 36) 26 26 rfl rfl rfl R6.out ?_
    refine hK _ _ S6.out ?_
    clear hK K
    intro _
    refine ⟨by kernel_rfl, ?_⟩
    simp only [List.drop_succ_cons, List.drop_zero]
    have OR6 := Lib.hid (OR5.out.below S6.out OR5.out.lt)
    have D6 := Lib.hid (below_step D5.out S6.out)
    have DU6 := Lib.hid (O6.out.dus (by have h1 := HF2.out; have h2 := HG2.out; have h3 := HAN.out; have h4 := HDN.out; have h5 := HSD.out; omega))
    have r0 := OR6.out.cell 0
    have r1 := OR6.out.cell 1
    have s0 := OR6.out.frozen 0
    have s1 := OR6.out.frozen 1
    go_wp2_with fail
    try simp only [Exit.inBlock, Exit.then]
    refine bodyPost_ret (res_ret rfl rfl (OR6.out.set2 (.complex .f64 (fl jp) (fl jd)) (.slice K1 (f2 + g2) k9))) rfl ?_
    exact ⟨K1, f2 + g2, k9, by rw [HQ.out], below_set2 D6.out (by omega) _ _, by rw [HQ.out]; exact DU6.out.set2 (by have := HZ5.out; have := HB0.out; omega) (by have := HZ5.out; have := HB0.out; omega) _ _⟩
theorem dec_all : ∀ d, DecOk d
  | 0 => dec_step 0 (fun d' h => by omega)
  | d + 1 => dec_step (d + 1) (fun d' h => by obtain rfl : d = d' := by omega
                                              exact dec_all d)
end Go.Proofs.YtadjfkgnoklmiaaGreat

