/- Several texts in one: FunCalls, VHas. -/
import Derived.Test.YtmoglaknmlhpgaaGreatDoorOnlJ
import Derived.Test.YtmoglaknmlhpgaaGreatDoorOnlB
/- Package fun: number, reckon, Call. -/
namespace Go.Proofs.YtmoglaknmlhpgaaGreatDoor
set_option linter.unusedVariables false
open Go.RowKit Go.Sort

theorem num_is {f a b x e : Int} {w : World} {id : FuncId} {p : Int × Int} (hp : p = (x, e)) (h : Calls Tryz.prog id #[.int .i64 a, .int .i64 b] w fun z w' => z = .returned (.tuple #[.int .i64 p.1, .int .i64 p.2]) ∧ w = w') :
  Calls Tryz.prog id #[.int .i64 a, .int .i64 b] w fun z w' => z = .returned (.tuple #[.int .i64 x, .int .i64 e]) ∧ w = w' := by rwa [hp] at h
theorem pair_is {id : FuncId} {args : Array Value} {w : World} {P : Vl × Int} {k n e : Int} {s : ByteArray} (hp : P = (⟨k, n, s⟩, e)) (h : Calls Tryz.prog id args w fun z w' => z = .returned (.tuple #[P.1.val, .int .i64 P.2]) ∧ Below w.heap.size w w') :
  Calls Tryz.prog id args w fun z w' => z = .returned (.tuple #[.agg #[.int .i64 k, .int .i64 n, .string s], .int .i64 e]) ∧ Below w.heap.size w w' := by
 rw [hp] at h
 exact h
theorem pair_of (P : Vl × Int) : ∃ k n s e, P = (⟨k, n, s⟩, e) := ⟨_, _, _, _, rfl⟩
theorem fnumber_any (op a b x e : Int) (ho : op = 8 ∨ op = 9 ∨ op = 10) (ha : In64 a) (hb : In64 b) (hx : fits (opF op a b) = (x, e)) (w : World) :
  Calls Tryz.prog 193 #[.int .i64 op, .int .i64 a, .int .i64 b] w fun z w' => z = .returned (.tuple #[.int .i64 x, .int .i64 e]) ∧ w = w' := by
 rcases ho with rfl | rfl | rfl
 ·have C := Lib.hid (fun w => num_is (f := 0) hx (add_any a b ha hb w))
  clear ha hb hx
  go_enter Tryz.func193, Tryz.ntmps193
  go_wp2_with fail
  refine (C.out _).mono ?_
  rintro z w' ⟨rfl, rfl⟩
  go_wp2_with fail
  go_ret2
  exact ⟨rfl, rfl⟩
 ·have C := Lib.hid (fun w => num_is (f := 0) hx (sub_any a b ha hb w))
  clear ha hb hx
  go_enter Tryz.func193, Tryz.ntmps193
  go_wp2_with fail
  refine (C.out _).mono ?_
  rintro z w' ⟨rfl, rfl⟩
  go_wp2_with fail
  go_ret2
  exact ⟨rfl, rfl⟩
 ·have C := Lib.hid (fun w => num_is (f := 0) hx (mul_any a b ha hb w))
  clear ha hb hx
  go_enter Tryz.func193, Tryz.ntmps193
  go_wp2_with fail
  refine (C.out _).mono ?_
  rintro z w' ⟨rfl, rfl⟩
  go_wp2_with fail
  go_ret2
  exact ⟨rfl, rfl⟩

set_option maxHeartbeats 1600000 in
theorem reckon_any (op : Int) (a b : Vl) (ho : op = 8 ∨ op = 9 ∨ op = 10) (ha : In64 a.n) (hb : In64 b.n) (w : World) :
  Calls Tryz.prog 186 #[.int .i64 op, a.val, b.val] w fun z w' => z = .returned (.tuple #[(reckV op a b).1.val, .int .i64 (reckV op a b).2]) ∧ Below w.heap.size w w' := by
 obtain ⟨x, e, hx⟩ : ∃ x e, fits (opF op a.n b.n) = (x, e) := ⟨_, _, rfl⟩
 have C := Lib.hid (fnumber_any op a.n b.n x e ho ha hb hx)
 have HR : Hid (a.k = 2 → b.k = 2 → reckV op a b = if e = 0 then (numV x, 0) else (noneV, e)) := fun h1 h2 => by
  unfold reckV; rw [if_pos ⟨h1, h2⟩, hx]; rfl
 have HN : Hid (¬ (a.k = 2 ∧ b.k = 2) → reckV op a b = (noneV, 2)) := fun h => if_neg h
 clear ha hb hx ho
 generalize reckV op a b = R at *
 obtain ⟨k, n, s⟩ := a
 obtain ⟨k', n', s'⟩ := b
 show Calls _ _ #[_, .agg #[.int .i64 k, .int .i64 n, .string s], .agg #[.int .i64 k', .int .i64 n', .string s']] w _
 by_cases h1 : k = 2
 ·by_cases h2 : k' = 2
  ·subst h1 h2
   have hr := HR.out rfl rfl
   by_cases he : e = 0
   ·subst he
    rw [if_pos rfl] at hr
    have HQ := Lib.hid hr
    clear hr HR HN
    go_enter Tryz.func186, Tryz.ntmps186
    go_wp2_with fail
    refine (C.out _).mono ?_
    rintro z w' ⟨rfl, rfl⟩
    go_wp2_with fail
    try simp only [Exit.inBlock, Exit.then]
    refine bodyPost_ret (box_ret2 rfl rfl rfl (box3 _ _ _ _ _ _)) rfl ?_
    exact ⟨ret_v HQ.out, below3 (Below.refl _ _)⟩
   ·have he' : (e != 0) = true := by rw [bne_iff_ne]; exact he
    rw [if_neg he] at hr
    have HQ := Lib.hid hr
    clear hr HR HN he
    go_enter Tryz.func186, Tryz.ntmps186
    go_wp2_with fail
    refine (C.out _).mono ?_
    rintro z w' ⟨rfl, rfl⟩
    go_wp2_with fail
    try simp only [Exit.inBlock, Exit.then]
    refine bodyPost_ret (box_ret2 rfl rfl rfl (box3 _ _ _ _ _ _)) rfl ?_
    exact ⟨ret_v HQ.out, below3 (Below.refl _ _)⟩
  ·have hk : (k' != 2) = true := by rw [bne_iff_ne]; exact h2
   subst h1
   have HQ := Lib.hid (HN.out fun h => h2 h.2)
   clear HR HN h2
   go_enter Tryz.func186, Tryz.ntmps186
   go_wp2_with fail
   try simp only [Exit.inBlock, Exit.then]
   refine bodyPost_ret (box_ret2 rfl rfl rfl (box3 _ _ _ _ _ _)) rfl ?_
   exact ⟨ret_v HQ.out, below3 (Below.refl _ _)⟩
 ·have hk : (k != 2) = true := by rw [bne_iff_ne]; exact h1
  have HQ := Lib.hid (HN.out fun h => h1 h.1)
  clear HR HN h1
  go_enter Tryz.func186, Tryz.ntmps186
  go_wp2_with fail
  try simp only [Exit.inBlock, Exit.then]
  refine bodyPost_ret (box_ret2 rfl rfl rfl (box3 _ _ _ _ _ _)) rfl ?_
  exact ⟨ret_v HQ.out, below3 (Below.refl _ _)⟩

theorem known_is {op : Int} {b : Bool} (h : decide (6 ≤ op ∧ op ≤ 13) = b) (w : World) : Calls Tryz.prog 182 #[.int .i64 op] w fun e w' => e = .returned (.bool b) ∧ w = w' := by
 have := known_any op w
 rwa [h] at this
theorem takes_is {op : Int} {m : Int} (h : (needs op : Int) = m) (w : World) : Calls Tryz.prog 183 #[.int .i64 op] w fun e w' => e = .returned (.int .i64 m) ∧ w = w' := by
 have := ftakes_any op w
 rwa [h] at this
theorem allright_is {w : World} {B n c : Nat} {A : Option Addr} {l : List Vl} {b : Bool} (hb : allR l = b) (h : Vs w B A n c l) (hB : B ≤ w.heap.size) :
  Calls Tryz.prog 181 #[.slice A n c] w fun e w' => e = .returned (.bool b) ∧ Below w.heap.size w w' := by
 have := allright_any h hB
 rwa [hb] at this
theorem Vs.new {w : World} {B n c : Nat} {A : Option Addr} {l : List Vl} (h : Vs w B A n c l) (hB : B ≤ w.heap.size) (x : Obj) : Vs (w.alloc x) B A n c l := h.keep fun k hk => Below.heap_alloc w x k (by omega)

set_option maxHeartbeats 3200000 in
set_option maxRecDepth 100000 in
theorem call_bad1 {w : World} {B n c : Nat} {A : Option Addr} {l : List Vl} (h : Vs w B A n c l) (hB : B ≤ w.heap.size) (hn : n ≤ 1000000) (op : Int) (ha : allR l = false) :
  Calls Tryz.prog 177 #[.int .i64 op, .slice A n c] w fun e w' => e = .returned (.tuple #[(callV op l).1.val, .int .i64 (callV op l).2]) ∧ Below w.heap.size w w' := by
 have hlen := h.1
 have hcap := h.2.2.1
 have hle := h.2.1
 unfold maxLen at hcap
 have HV := Lib.hid (h.new hB (.cells #[.int .i64 0, .int .i64 0, .string ⟨#[]⟩] 31))
 have HBS : Hid (B ≤ (w.alloc (.cells #[.int .i64 0, .int .i64 0, .string ⟨#[]⟩] 31)).heap.size) := by show _ ≤ _; rw [size_al]; omega
 have HL := Lib.hid hlen
 have HA := Lib.hid ha
 have HQ := Lib.hid (call_bad (op := op) ha)
 clear ha h hlen hB
 go_enter Tryz.func177, Tryz.ntmps177
 go_wp2_with fail
 refine (allright_is HA.out HV.out HBS.out).mono ?_
 rintro e w1 ⟨rfl, hb1⟩
 have R1 := Lib.hid ((Bx.made w 0 0 ⟨#[]⟩).then_ hb1)
 have D1 := Lib.hid (Below.lit hb1)
 have V1 := Lib.hid ((HV.out.more HBS.out).then_ hb1)
 have c0 := R1.out.c3
 have f0 := R1.out.fz
 clear hb1
 go_wp2_with fail
 try simp only [Exit.inBlock, Exit.then]
 refine bodyPost_ret (box_ret2 rfl rfl rfl (R1.out.put _ _ _)) rfl ?_
 exact ⟨ret_v HQ.out, below_put D1.out (Nat.le_refl _) _ _ _⟩

set_option maxHeartbeats 3200000 in
set_option maxRecDepth 100000 in
theorem call_bad2 {w : World} {B n c : Nat} {A : Option Addr} {l : List Vl} (h : Vs w B A n c l) (hB : B ≤ w.heap.size) (hn : n ≤ 1000000) (op : Int) (ha : allR l = true) (hk : ¬ (6 ≤ op ∧ op ≤ 13)) :
  Calls Tryz.prog 177 #[.int .i64 op, .slice A n c] w fun e w' => e = .returned (.tuple #[(callV op l).1.val, .int .i64 (callV op l).2]) ∧ Below w.heap.size w w' := by
 have hlen := h.1
 have hcap := h.2.2.1
 have hle := h.2.1
 unfold maxLen at hcap
 have HV := Lib.hid (h.new hB (.cells #[.int .i64 0, .int .i64 0, .string ⟨#[]⟩] 31))
 have HBS : Hid (B ≤ (w.alloc (.cells #[.int .i64 0, .int .i64 0, .string ⟨#[]⟩] 31)).heap.size) := by show _ ≤ _; rw [size_al]; omega
 have HL := Lib.hid hlen
 have HA := Lib.hid ha
 have HQ := Lib.hid (call_op (l := l) hk)
 have HK := Lib.hid (decide_eq_false hk)
 clear ha h hlen hB hk
 go_enter Tryz.func177, Tryz.ntmps177
 go_wp2_with fail
 refine (allright_is HA.out HV.out HBS.out).mono ?_
 rintro e w1 ⟨rfl, hb1⟩
 have R1 := Lib.hid ((Bx.made w 0 0 ⟨#[]⟩).then_ hb1)
 have D1 := Lib.hid (Below.lit hb1)
 have V1 := Lib.hid ((HV.out.more HBS.out).then_ hb1)
 have c0 := R1.out.c3
 have f0 := R1.out.fz
 clear hb1
 go_wp2_with fail
 refine (known_is HK.out _).mono ?_
 rintro e w' ⟨rfl, rfl⟩
 go_wp2_with fail
 try simp only [Exit.inBlock, Exit.then]
 refine bodyPost_ret (box_ret2 rfl rfl rfl (R1.out.put _ _ _)) rfl ?_
 exact ⟨ret_v HQ.out, below_put D1.out (Nat.le_refl _) _ _ _⟩

set_option maxHeartbeats 3200000 in
set_option maxRecDepth 100000 in
theorem call_bad3 {w : World} {B n c : Nat} {A : Option Addr} {l : List Vl} (h : Vs w B A n c l) (hB : B ≤ w.heap.size) (hn : n ≤ 1000000) (op : Int) (ha : allR l = true) (hk : 6 ≤ op ∧ op ≤ 13) (hl : l.length ≠ needs op) :
  Calls Tryz.prog 177 #[.int .i64 op, .slice A n c] w fun e w' => e = .returned (.tuple #[(callV op l).1.val, .int .i64 (callV op l).2]) ∧ Below w.heap.size w w' := by
 have hlen := h.1
 have hcap := h.2.2.1
 have hle := h.2.1
 unfold maxLen at hcap
 have HV := Lib.hid (h.new hB (.cells #[.int .i64 0, .int .i64 0, .string ⟨#[]⟩] 31))
 have HBS : Hid (B ≤ (w.alloc (.cells #[.int .i64 0, .int .i64 0, .string ⟨#[]⟩] 31)).heap.size) := by show _ ≤ _; rw [size_al]; omega
 have HL := Lib.hid hlen
 have HA := Lib.hid ha
 have HQ := Lib.hid (call_len hl)
 have HK := Lib.hid (decide_eq_true hk)
 obtain ⟨m, hm⟩ : ∃ m : Int, (needs op : Int) = m := ⟨_, rfl⟩
 have HT := Lib.hid hm
 have hne : ((n : Int) != m) = true := by rw [bne_iff_ne]; omega
 clear ha h hlen hB hk hl hm
 go_enter Tryz.func177, Tryz.ntmps177
 go_wp2_with fail
 refine (allright_is HA.out HV.out HBS.out).mono ?_
 rintro e w1 ⟨rfl, hb1⟩
 have R1 := Lib.hid ((Bx.made w 0 0 ⟨#[]⟩).then_ hb1)
 have D1 := Lib.hid (Below.lit hb1)
 have V1 := Lib.hid ((HV.out.more HBS.out).then_ hb1)
 have c0 := R1.out.c3
 have f0 := R1.out.fz
 clear hb1
 go_wp2_with fail
 refine (known_is HK.out _).mono ?_
 rintro e w' ⟨rfl, rfl⟩
 go_wp2_with fail
 refine (takes_is HT.out _).mono ?_
 rintro e w' ⟨rfl, rfl⟩
 go_wp2_with fail
 try simp only [Exit.inBlock, Exit.then]
 refine bodyPost_ret (box_ret2 rfl rfl rfl (R1.out.put _ _ _)) rfl ?_
 exact ⟨ret_v HQ.out, below_put D1.out (Nat.le_refl _) _ _ _⟩

theorem two_of {l : List Vl} (h : l.length = 2) : ∃ a b, l = [a, b] := by
 match l, h with
 | [a, b], _ => exact ⟨a, b, rfl⟩
theorem one_of {l : List Vl} (h : l.length = 1) : ∃ a, l = [a] := by
 match l, h with
 | [a], _ => exact ⟨a, rfl⟩

set_option maxHeartbeats 3200000 in
set_option maxRecDepth 100000 in
theorem call_6 {w : World} {B c : Nat} {A : Option Addr} {a b : Vl} (h : Vs w B A 2 c [a, b]) (hB : B ≤ w.heap.size) (ha : allR [a, b] = true) :
  Calls Tryz.prog 177 #[.int .i64 6, .slice A 2 c] w fun e w' => e = .returned (.tuple #[(callV 6 [a, b]).1.val, .int .i64 (callV 6 [a, b]).2]) ∧ Below w.heap.size w w' := by
 have hlen := h.1
 have hcap := h.2.2.1
 have hle := h.2.1
 unfold maxLen at hcap
 have HV := Lib.hid (h.new hB (.cells #[.int .i64 0, .int .i64 0, .string ⟨#[]⟩] 31))
 have HBS : Hid (B ≤ (w.alloc (.cells #[.int .i64 0, .int .i64 0, .string ⟨#[]⟩] 31)).heap.size) := by show _ ≤ _; rw [size_al]; omega
 have HL := Lib.hid hlen
 have HA := Lib.hid ha
 have hq : callV 6 [a, b] = sameV a b := (call_ok ha (by decide) rfl).trans rfl
 obtain ⟨rk, rn, rs, re, hp⟩ := pair_of (sameV a b)
 have HQ := Lib.hid (hq.trans hp)
 have HP := Lib.hid hp
 have OA := Lib.hid (h.2.2.2.2 a (by simp))
 have OB := Lib.hid (h.2.2.2.2 b (by simp))
 have RA := Lib.hid (allR_iff.1 ha a (by simp))
 have RB := Lib.hid (allR_iff.1 ha b (by simp))
 have HK : Hid (decide (6 ≤ (6 : Int) ∧ (6 : Int) ≤ 13) = true) := by show _ = _; decide
 have HT : Hid ((needs 6 : Int) = 2) := rfl
 clear ha h hlen hB hq hp
 generalize callV 6 [a, b] = RR at *
 go_enter Tryz.func177, Tryz.ntmps177
 go_wp2_with fail
 refine (allright_is HA.out HV.out HBS.out).mono ?_
 rintro e w1 ⟨rfl, hb1⟩
 have R1 := Lib.hid ((Bx.made w 0 0 ⟨#[]⟩).then_ hb1)
 have D1 := Lib.hid (Below.lit hb1)
 have V1 := Lib.hid ((HV.out.more HBS.out).then_ hb1)
 have c0 := R1.out.c3
 have f0 := R1.out.fz
 clear hb1
 go_wp2_with fail
 refine (known_is HK.out _).mono ?_
 rintro e w' ⟨rfl, rfl⟩
 go_wp2_with fail
 refine (takes_is HT.out _).mono ?_
 rintro e w' ⟨rfl, rfl⟩
 obtain ⟨b0, o0, x, hA, hbB, hx, hok, x0, x1, x2⟩ := V1.out.at_ (k := 0) (by omega)
 subst hA
 obtain ⟨b1, o1, y, hA', _, hy, _, y0, y1, y2⟩ := V1.out.at_ (k := 1) (by omega)
 injection hA' with hA'
 injection hA' with e1 e2
 subst e1 e2
 obtain rfl : a = x := Option.some.inj hx
 obtain rfl : b = y := Option.some.inj hy
 simp only [Nat.zero_mul, Nat.one_mul, Nat.add_zero] at x0 x1 x2 y0 y1 y2
 clear hx hy hok
 have QC := Lib.hid (fun d os => Calls.regrown_of (w := w1) (d := d) (os := os) (pair_is HP.out (same_any a b (grow (redrawn w1 d) os))))
 obtain ⟨k, n, s⟩ := a
 obtain ⟨k', n', s'⟩ := b
 go_wp2_with fail
 have z0 := fun d os => cell_regrown x0 d os
 have z1 := fun d os => cell_regrown x1 d os
 have z2 := fun d os => cell_regrown x2 d os
 have z3 := fun d os => cell_regrown y0 d os
 have z4 := fun d os => cell_regrown y1 d os
 have z5 := fun d os => cell_regrown y2 d os
 refine wp_region_below_tail 9 (by kernel_rfl) (by kernel_rfl) ?_
 simp only [List.take_succ_cons, List.take_zero, List.drop_succ_cons, List.drop_zero]
 repeat (go_big_quiet_step ((go_at_call 184; exact QC.out _ _)))
 refine wpQuiet_nil ?_
 intro _ hw'
 obtain ⟨⟨dq, osq⟩, hw''⟩ := hw'
 subst hw''
 have hbel := below_regrown w1 dq osq
 have R3 := Lib.hid (R1.out.then_ hbel)
 have D3 := Lib.hid (below_step D1.out hbel)
 clear hbel c0 f0 R1 D1 z0 z1 z2 z3 z4 z5 QC
 have c0 := R3.out.c3
 have f0 := R3.out.fz
 go_wp2_with fail
 try simp only [Exit.inBlock, Exit.then]
 refine bodyPost_ret (box_ret2 rfl rfl rfl (R3.out.put _ _ _)) rfl ?_
 exact ⟨ret_v HQ.out, below_put D3.out (Nat.le_refl _) _ _ _⟩

set_option maxHeartbeats 3200000 in
set_option maxRecDepth 100000 in
theorem call_7 {w : World} {B c : Nat} {A : Option Addr} {a b : Vl} (h : Vs w B A 2 c [a, b]) (hB : B ≤ w.heap.size) (ha : allR [a, b] = true) :
  Calls Tryz.prog 177 #[.int .i64 7, .slice A 2 c] w fun e w' => e = .returned (.tuple #[(callV 7 [a, b]).1.val, .int .i64 (callV 7 [a, b]).2]) ∧ Below w.heap.size w w' := by
 have hlen := h.1
 have hcap := h.2.2.1
 have hle := h.2.1
 unfold maxLen at hcap
 have HV := Lib.hid (h.new hB (.cells #[.int .i64 0, .int .i64 0, .string ⟨#[]⟩] 31))
 have HBS : Hid (B ≤ (w.alloc (.cells #[.int .i64 0, .int .i64 0, .string ⟨#[]⟩] 31)).heap.size) := by show _ ≤ _; rw [size_al]; omega
 have HL := Lib.hid hlen
 have HA := Lib.hid ha
 have hq : callV 7 [a, b] = lessV a b := (call_ok ha (by decide) rfl).trans rfl
 obtain ⟨rk, rn, rs, re, hp⟩ := pair_of (lessV a b)
 have HQ := Lib.hid (hq.trans hp)
 have HP := Lib.hid hp
 have OA := Lib.hid (h.2.2.2.2 a (by simp))
 have OB := Lib.hid (h.2.2.2.2 b (by simp))
 have RA := Lib.hid (allR_iff.1 ha a (by simp))
 have RB := Lib.hid (allR_iff.1 ha b (by simp))
 have HK : Hid (decide (6 ≤ (7 : Int) ∧ (7 : Int) ≤ 13) = true) := by show _ = _; decide
 have HT : Hid ((needs 7 : Int) = 2) := rfl
 clear ha h hlen hB hq hp
 generalize callV 7 [a, b] = RR at *
 go_enter Tryz.func177, Tryz.ntmps177
 go_wp2_with fail
 refine (allright_is HA.out HV.out HBS.out).mono ?_
 rintro e w1 ⟨rfl, hb1⟩
 have R1 := Lib.hid ((Bx.made w 0 0 ⟨#[]⟩).then_ hb1)
 have D1 := Lib.hid (Below.lit hb1)
 have V1 := Lib.hid ((HV.out.more HBS.out).then_ hb1)
 have c0 := R1.out.c3
 have f0 := R1.out.fz
 clear hb1
 go_wp2_with fail
 refine (known_is HK.out _).mono ?_
 rintro e w' ⟨rfl, rfl⟩
 go_wp2_with fail
 refine (takes_is HT.out _).mono ?_
 rintro e w' ⟨rfl, rfl⟩
 obtain ⟨b0, o0, x, hA, hbB, hx, hok, x0, x1, x2⟩ := V1.out.at_ (k := 0) (by omega)
 subst hA
 obtain ⟨b1, o1, y, hA', _, hy, _, y0, y1, y2⟩ := V1.out.at_ (k := 1) (by omega)
 injection hA' with hA'
 injection hA' with e1 e2
 subst e1 e2
 obtain rfl : a = x := Option.some.inj hx
 obtain rfl : b = y := Option.some.inj hy
 simp only [Nat.zero_mul, Nat.one_mul, Nat.add_zero] at x0 x1 x2 y0 y1 y2
 clear hx hy hok
 have QC := Lib.hid (fun d os => Calls.regrown_of (w := w1) (d := d) (os := os) (pair_is HP.out (fless_any a b OA.out.2.2 OB.out.2.2 (grow (redrawn w1 d) os))))
 obtain ⟨k, n, s⟩ := a
 obtain ⟨k', n', s'⟩ := b
 go_wp2_with fail
 have z0 := fun d os => cell_regrown x0 d os
 have z1 := fun d os => cell_regrown x1 d os
 have z2 := fun d os => cell_regrown x2 d os
 have z3 := fun d os => cell_regrown y0 d os
 have z4 := fun d os => cell_regrown y1 d os
 have z5 := fun d os => cell_regrown y2 d os
 refine wp_region_below_tail 9 (by kernel_rfl) (by kernel_rfl) ?_
 simp only [List.take_succ_cons, List.take_zero, List.drop_succ_cons, List.drop_zero]
 repeat (go_big_quiet_step ((go_at_call 185; exact QC.out _ _)))
 refine wpQuiet_nil ?_
 intro _ hw'
 obtain ⟨⟨dq, osq⟩, hw''⟩ := hw'
 subst hw''
 have hbel := below_regrown w1 dq osq
 have R3 := Lib.hid (R1.out.then_ hbel)
 have D3 := Lib.hid (below_step D1.out hbel)
 clear hbel c0 f0 R1 D1 z0 z1 z2 z3 z4 z5 QC
 have c0 := R3.out.c3
 have f0 := R3.out.fz
 go_wp2_with fail
 try simp only [Exit.inBlock, Exit.then]
 refine bodyPost_ret (box_ret2 rfl rfl rfl (R3.out.put _ _ _)) rfl ?_
 exact ⟨ret_v HQ.out, below_put D3.out (Nat.le_refl _) _ _ _⟩

set_option maxHeartbeats 3200000 in
set_option maxRecDepth 100000 in
theorem call_8 {w : World} {B c : Nat} {A : Option Addr} {a b : Vl} (h : Vs w B A 2 c [a, b]) (hB : B ≤ w.heap.size) (ha : allR [a, b] = true) :
  Calls Tryz.prog 177 #[.int .i64 8, .slice A 2 c] w fun e w' => e = .returned (.tuple #[(callV 8 [a, b]).1.val, .int .i64 (callV 8 [a, b]).2]) ∧ Below w.heap.size w w' := by
 have hlen := h.1
 have hcap := h.2.2.1
 have hle := h.2.1
 unfold maxLen at hcap
 have HV := Lib.hid (h.new hB (.cells #[.int .i64 0, .int .i64 0, .string ⟨#[]⟩] 31))
 have HBS : Hid (B ≤ (w.alloc (.cells #[.int .i64 0, .int .i64 0, .string ⟨#[]⟩] 31)).heap.size) := by show _ ≤ _; rw [size_al]; omega
 have HL := Lib.hid hlen
 have HA := Lib.hid ha
 have hq : callV 8 [a, b] = reckV 8 a b := (call_ok ha (by decide) rfl).trans rfl
 obtain ⟨rk, rn, rs, re, hp⟩ := pair_of (reckV 8 a b)
 have HQ := Lib.hid (hq.trans hp)
 have HP := Lib.hid hp
 have OA := Lib.hid (h.2.2.2.2 a (by simp))
 have OB := Lib.hid (h.2.2.2.2 b (by simp))
 have RA := Lib.hid (allR_iff.1 ha a (by simp))
 have RB := Lib.hid (allR_iff.1 ha b (by simp))
 have HK : Hid (decide (6 ≤ (8 : Int) ∧ (8 : Int) ≤ 13) = true) := by show _ = _; decide
 have HT : Hid ((needs 8 : Int) = 2) := rfl
 clear ha h hlen hB hq hp
 generalize callV 8 [a, b] = RR at *
 go_enter Tryz.func177, Tryz.ntmps177
 go_wp2_with fail
 refine (allright_is HA.out HV.out HBS.out).mono ?_
 rintro e w1 ⟨rfl, hb1⟩
 have R1 := Lib.hid ((Bx.made w 0 0 ⟨#[]⟩).then_ hb1)
 have D1 := Lib.hid (Below.lit hb1)
 have V1 := Lib.hid ((HV.out.more HBS.out).then_ hb1)
 have c0 := R1.out.c3
 have f0 := R1.out.fz
 clear hb1
 go_wp2_with fail
 refine (known_is HK.out _).mono ?_
 rintro e w' ⟨rfl, rfl⟩
 go_wp2_with fail
 refine (takes_is HT.out _).mono ?_
 rintro e w' ⟨rfl, rfl⟩
 obtain ⟨b0, o0, x, hA, hbB, hx, hok, x0, x1, x2⟩ := V1.out.at_ (k := 0) (by omega)
 subst hA
 obtain ⟨b1, o1, y, hA', _, hy, _, y0, y1, y2⟩ := V1.out.at_ (k := 1) (by omega)
 injection hA' with hA'
 injection hA' with e1 e2
 subst e1 e2
 obtain rfl : a = x := Option.some.inj hx
 obtain rfl : b = y := Option.some.inj hy
 simp only [Nat.zero_mul, Nat.one_mul, Nat.add_zero] at x0 x1 x2 y0 y1 y2
 clear hx hy hok
 have QC := Lib.hid (fun d os => Calls.regrown_of (w := w1) (d := d) (os := os) (pair_is HP.out (reckon_any 8 a b (.inl rfl) OA.out.2.1 OB.out.2.1 (grow (redrawn w1 d) os))))
 obtain ⟨k, n, s⟩ := a
 obtain ⟨k', n', s'⟩ := b
 go_wp2_with fail
 have z0 := fun d os => cell_regrown x0 d os
 have z1 := fun d os => cell_regrown x1 d os
 have z2 := fun d os => cell_regrown x2 d os
 have z3 := fun d os => cell_regrown y0 d os
 have z4 := fun d os => cell_regrown y1 d os
 have z5 := fun d os => cell_regrown y2 d os
 refine wp_region_below_tail 10 (by kernel_rfl) (by kernel_rfl) ?_
 simp only [List.take_succ_cons, List.take_zero, List.drop_succ_cons, List.drop_zero]
 repeat (go_big_quiet_step ((go_at_call 186; exact QC.out _ _)))
 refine wpQuiet_nil ?_
 intro _ hw'
 obtain ⟨⟨dq, osq⟩, hw''⟩ := hw'
 subst hw''
 have hbel := below_regrown w1 dq osq
 have R3 := Lib.hid (R1.out.then_ hbel)
 have D3 := Lib.hid (below_step D1.out hbel)
 clear hbel c0 f0 R1 D1 z0 z1 z2 z3 z4 z5 QC
 have c0 := R3.out.c3
 have f0 := R3.out.fz
 go_wp2_with fail
 try simp only [Exit.inBlock, Exit.then]
 refine bodyPost_ret (box_ret2 rfl rfl rfl (R3.out.put _ _ _)) rfl ?_
 exact ⟨ret_v HQ.out, below_put D3.out (Nat.le_refl _) _ _ _⟩

set_option maxHeartbeats 3200000 in
set_option maxRecDepth 100000 in
theorem call_9 {w : World} {B c : Nat} {A : Option Addr} {a b : Vl} (h : Vs w B A 2 c [a, b]) (hB : B ≤ w.heap.size) (ha : allR [a, b] = true) :
  Calls Tryz.prog 177 #[.int .i64 9, .slice A 2 c] w fun e w' => e = .returned (.tuple #[(callV 9 [a, b]).1.val, .int .i64 (callV 9 [a, b]).2]) ∧ Below w.heap.size w w' := by
 have hlen := h.1
 have hcap := h.2.2.1
 have hle := h.2.1
 unfold maxLen at hcap
 have HV := Lib.hid (h.new hB (.cells #[.int .i64 0, .int .i64 0, .string ⟨#[]⟩] 31))
 have HBS : Hid (B ≤ (w.alloc (.cells #[.int .i64 0, .int .i64 0, .string ⟨#[]⟩] 31)).heap.size) := by show _ ≤ _; rw [size_al]; omega
 have HL := Lib.hid hlen
 have HA := Lib.hid ha
 have hq : callV 9 [a, b] = reckV 9 a b := (call_ok ha (by decide) rfl).trans rfl
 obtain ⟨rk, rn, rs, re, hp⟩ := pair_of (reckV 9 a b)
 have HQ := Lib.hid (hq.trans hp)
 have HP := Lib.hid hp
 have OA := Lib.hid (h.2.2.2.2 a (by simp))
 have OB := Lib.hid (h.2.2.2.2 b (by simp))
 have RA := Lib.hid (allR_iff.1 ha a (by simp))
 have RB := Lib.hid (allR_iff.1 ha b (by simp))
 have HK : Hid (decide (6 ≤ (9 : Int) ∧ (9 : Int) ≤ 13) = true) := by show _ = _; decide
 have HT : Hid ((needs 9 : Int) = 2) := rfl
 clear ha h hlen hB hq hp
 generalize callV 9 [a, b] = RR at *
 go_enter Tryz.func177, Tryz.ntmps177
 go_wp2_with fail
 refine (allright_is HA.out HV.out HBS.out).mono ?_
 rintro e w1 ⟨rfl, hb1⟩
 have R1 := Lib.hid ((Bx.made w 0 0 ⟨#[]⟩).then_ hb1)
 have D1 := Lib.hid (Below.lit hb1)
 have V1 := Lib.hid ((HV.out.more HBS.out).then_ hb1)
 have c0 := R1.out.c3
 have f0 := R1.out.fz
 clear hb1
 go_wp2_with fail
 refine (known_is HK.out _).mono ?_
 rintro e w' ⟨rfl, rfl⟩
 go_wp2_with fail
 refine (takes_is HT.out _).mono ?_
 rintro e w' ⟨rfl, rfl⟩
 obtain ⟨b0, o0, x, hA, hbB, hx, hok, x0, x1, x2⟩ := V1.out.at_ (k := 0) (by omega)
 subst hA
 obtain ⟨b1, o1, y, hA', _, hy, _, y0, y1, y2⟩ := V1.out.at_ (k := 1) (by omega)
 injection hA' with hA'
 injection hA' with e1 e2
 subst e1 e2
 obtain rfl : a = x := Option.some.inj hx
 obtain rfl : b = y := Option.some.inj hy
 simp only [Nat.zero_mul, Nat.one_mul, Nat.add_zero] at x0 x1 x2 y0 y1 y2
 clear hx hy hok
 have QC := Lib.hid (fun d os => Calls.regrown_of (w := w1) (d := d) (os := os) (pair_is HP.out (reckon_any 9 a b (.inr (.inl rfl)) OA.out.2.1 OB.out.2.1 (grow (redrawn w1 d) os))))
 obtain ⟨k, n, s⟩ := a
 obtain ⟨k', n', s'⟩ := b
 go_wp2_with fail
 have z0 := fun d os => cell_regrown x0 d os
 have z1 := fun d os => cell_regrown x1 d os
 have z2 := fun d os => cell_regrown x2 d os
 have z3 := fun d os => cell_regrown y0 d os
 have z4 := fun d os => cell_regrown y1 d os
 have z5 := fun d os => cell_regrown y2 d os
 refine wp_region_below_tail 10 (by kernel_rfl) (by kernel_rfl) ?_
 simp only [List.take_succ_cons, List.take_zero, List.drop_succ_cons, List.drop_zero]
 repeat (go_big_quiet_step ((go_at_call 186; exact QC.out _ _)))
 refine wpQuiet_nil ?_
 intro _ hw'
 obtain ⟨⟨dq, osq⟩, hw''⟩ := hw'
 subst hw''
 have hbel := below_regrown w1 dq osq
 have R3 := Lib.hid (R1.out.then_ hbel)
 have D3 := Lib.hid (below_step D1.out hbel)
 clear hbel c0 f0 R1 D1 z0 z1 z2 z3 z4 z5 QC
 have c0 := R3.out.c3
 have f0 := R3.out.fz
 go_wp2_with fail
 try simp only [Exit.inBlock, Exit.then]
 refine bodyPost_ret (box_ret2 rfl rfl rfl (R3.out.put _ _ _)) rfl ?_
 exact ⟨ret_v HQ.out, below_put D3.out (Nat.le_refl _) _ _ _⟩

set_option maxHeartbeats 3200000 in
set_option maxRecDepth 100000 in
theorem call_10 {w : World} {B c : Nat} {A : Option Addr} {a b : Vl} (h : Vs w B A 2 c [a, b]) (hB : B ≤ w.heap.size) (ha : allR [a, b] = true) :
  Calls Tryz.prog 177 #[.int .i64 10, .slice A 2 c] w fun e w' => e = .returned (.tuple #[(callV 10 [a, b]).1.val, .int .i64 (callV 10 [a, b]).2]) ∧ Below w.heap.size w w' := by
 have hlen := h.1
 have hcap := h.2.2.1
 have hle := h.2.1
 unfold maxLen at hcap
 have HV := Lib.hid (h.new hB (.cells #[.int .i64 0, .int .i64 0, .string ⟨#[]⟩] 31))
 have HBS : Hid (B ≤ (w.alloc (.cells #[.int .i64 0, .int .i64 0, .string ⟨#[]⟩] 31)).heap.size) := by show _ ≤ _; rw [size_al]; omega
 have HL := Lib.hid hlen
 have HA := Lib.hid ha
 have hq : callV 10 [a, b] = reckV 10 a b := (call_ok ha (by decide) rfl).trans rfl
 obtain ⟨rk, rn, rs, re, hp⟩ := pair_of (reckV 10 a b)
 have HQ := Lib.hid (hq.trans hp)
 have HP := Lib.hid hp
 have OA := Lib.hid (h.2.2.2.2 a (by simp))
 have OB := Lib.hid (h.2.2.2.2 b (by simp))
 have RA := Lib.hid (allR_iff.1 ha a (by simp))
 have RB := Lib.hid (allR_iff.1 ha b (by simp))
 have HK : Hid (decide (6 ≤ (10 : Int) ∧ (10 : Int) ≤ 13) = true) := by show _ = _; decide
 have HT : Hid ((needs 10 : Int) = 2) := rfl
 clear ha h hlen hB hq hp
 generalize callV 10 [a, b] = RR at *
 go_enter Tryz.func177, Tryz.ntmps177
 go_wp2_with fail
 refine (allright_is HA.out HV.out HBS.out).mono ?_
 rintro e w1 ⟨rfl, hb1⟩
 have R1 := Lib.hid ((Bx.made w 0 0 ⟨#[]⟩).then_ hb1)
 have D1 := Lib.hid (Below.lit hb1)
 have V1 := Lib.hid ((HV.out.more HBS.out).then_ hb1)
 have c0 := R1.out.c3
 have f0 := R1.out.fz
 clear hb1
 go_wp2_with fail
 refine (known_is HK.out _).mono ?_
 rintro e w' ⟨rfl, rfl⟩
 go_wp2_with fail
 refine (takes_is HT.out _).mono ?_
 rintro e w' ⟨rfl, rfl⟩
 obtain ⟨b0, o0, x, hA, hbB, hx, hok, x0, x1, x2⟩ := V1.out.at_ (k := 0) (by omega)
 subst hA
 obtain ⟨b1, o1, y, hA', _, hy, _, y0, y1, y2⟩ := V1.out.at_ (k := 1) (by omega)
 injection hA' with hA'
 injection hA' with e1 e2
 subst e1 e2
 obtain rfl : a = x := Option.some.inj hx
 obtain rfl : b = y := Option.some.inj hy
 simp only [Nat.zero_mul, Nat.one_mul, Nat.add_zero] at x0 x1 x2 y0 y1 y2
 clear hx hy hok
 have QC := Lib.hid (fun d os => Calls.regrown_of (w := w1) (d := d) (os := os) (pair_is HP.out (reckon_any 10 a b (.inr (.inr rfl)) OA.out.2.1 OB.out.2.1 (grow (redrawn w1 d) os))))
 obtain ⟨k, n, s⟩ := a
 obtain ⟨k', n', s'⟩ := b
 go_wp2_with fail
 have z0 := fun d os => cell_regrown x0 d os
 have z1 := fun d os => cell_regrown x1 d os
 have z2 := fun d os => cell_regrown x2 d os
 have z3 := fun d os => cell_regrown y0 d os
 have z4 := fun d os => cell_regrown y1 d os
 have z5 := fun d os => cell_regrown y2 d os
 refine wp_region_below_tail 10 (by kernel_rfl) (by kernel_rfl) ?_
 simp only [List.take_succ_cons, List.take_zero, List.drop_succ_cons, List.drop_zero]
 repeat (go_big_quiet_step ((go_at_call 186; exact QC.out _ _)))
 refine wpQuiet_nil ?_
 intro _ hw'
 obtain ⟨⟨dq, osq⟩, hw''⟩ := hw'
 subst hw''
 have hbel := below_regrown w1 dq osq
 have R3 := Lib.hid (R1.out.then_ hbel)
 have D3 := Lib.hid (below_step D1.out hbel)
 clear hbel c0 f0 R1 D1 z0 z1 z2 z3 z4 z5 QC
 have c0 := R3.out.c3
 have f0 := R3.out.fz
 go_wp2_with fail
 try simp only [Exit.inBlock, Exit.then]
 refine bodyPost_ret (box_ret2 rfl rfl rfl (R3.out.put _ _ _)) rfl ?_
 exact ⟨ret_v HQ.out, below_put D3.out (Nat.le_refl _) _ _ _⟩

set_option maxHeartbeats 3200000 in
set_option maxRecDepth 100000 in
theorem call_12 {w : World} {B c : Nat} {A : Option Addr} {a b : Vl} (h : Vs w B A 2 c [a, b]) (hB : B ≤ w.heap.size) (ha : allR [a, b] = true) :
  Calls Tryz.prog 177 #[.int .i64 12, .slice A 2 c] w fun e w' => e = .returned (.tuple #[(callV 12 [a, b]).1.val, .int .i64 (callV 12 [a, b]).2]) ∧ Below w.heap.size w w' := by
 have hlen := h.1
 have hcap := h.2.2.1
 have hle := h.2.1
 unfold maxLen at hcap
 have HV := Lib.hid (h.new hB (.cells #[.int .i64 0, .int .i64 0, .string ⟨#[]⟩] 31))
 have HBS : Hid (B ≤ (w.alloc (.cells #[.int .i64 0, .int .i64 0, .string ⟨#[]⟩] 31)).heap.size) := by show _ ≤ _; rw [size_al]; omega
 have HL := Lib.hid hlen
 have HA := Lib.hid ha
 have hq : callV 12 [a, b] = bothV 12 a b := (call_ok ha (by decide) rfl).trans rfl
 obtain ⟨rk, rn, rs, re, hp⟩ := pair_of (bothV 12 a b)
 have HQ := Lib.hid (hq.trans hp)
 have HP := Lib.hid hp
 have OA := Lib.hid (h.2.2.2.2 a (by simp))
 have OB := Lib.hid (h.2.2.2.2 b (by simp))
 have RA := Lib.hid (allR_iff.1 ha a (by simp))
 have RB := Lib.hid (allR_iff.1 ha b (by simp))
 have HK : Hid (decide (6 ≤ (12 : Int) ∧ (12 : Int) ≤ 13) = true) := by show _ = _; decide
 have HT : Hid ((needs 12 : Int) = 2) := rfl
 clear ha h hlen hB hq hp
 generalize callV 12 [a, b] = RR at *
 go_enter Tryz.func177, Tryz.ntmps177
 go_wp2_with fail
 refine (allright_is HA.out HV.out HBS.out).mono ?_
 rintro e w1 ⟨rfl, hb1⟩
 have R1 := Lib.hid ((Bx.made w 0 0 ⟨#[]⟩).then_ hb1)
 have D1 := Lib.hid (Below.lit hb1)
 have V1 := Lib.hid ((HV.out.more HBS.out).then_ hb1)
 have c0 := R1.out.c3
 have f0 := R1.out.fz
 clear hb1
 go_wp2_with fail
 refine (known_is HK.out _).mono ?_
 rintro e w' ⟨rfl, rfl⟩
 go_wp2_with fail
 refine (takes_is HT.out _).mono ?_
 rintro e w' ⟨rfl, rfl⟩
 have C := Lib.hid (pair_is ((judge_two (.inl rfl) RA.out RB.out).trans HP.out) (judge_any V1.out (Nat.le_refl _) (by omega) (allR_iff.1 HA.out) 12))
 go_wp2_with fail
 refine C.out.mono ?_
 rintro e w3 ⟨rfl, hb3⟩
 have R3 := Lib.hid (R1.out.then_ hb3)
 have D3 := Lib.hid (below_step D1.out hb3)
 clear hb3 c0 f0 R1 D1
 have c0 := R3.out.c3
 have f0 := R3.out.fz
 go_wp2_with fail
 try simp only [Exit.inBlock, Exit.then]
 refine bodyPost_ret (box_ret2 rfl rfl rfl (R3.out.put _ _ _)) rfl ?_
 exact ⟨ret_v HQ.out, below_put D3.out (Nat.le_refl _) _ _ _⟩

set_option maxHeartbeats 3200000 in
set_option maxRecDepth 100000 in
theorem call_13 {w : World} {B c : Nat} {A : Option Addr} {a b : Vl} (h : Vs w B A 2 c [a, b]) (hB : B ≤ w.heap.size) (ha : allR [a, b] = true) :
  Calls Tryz.prog 177 #[.int .i64 13, .slice A 2 c] w fun e w' => e = .returned (.tuple #[(callV 13 [a, b]).1.val, .int .i64 (callV 13 [a, b]).2]) ∧ Below w.heap.size w w' := by
 have hlen := h.1
 have hcap := h.2.2.1
 have hle := h.2.1
 unfold maxLen at hcap
 have HV := Lib.hid (h.new hB (.cells #[.int .i64 0, .int .i64 0, .string ⟨#[]⟩] 31))
 have HBS : Hid (B ≤ (w.alloc (.cells #[.int .i64 0, .int .i64 0, .string ⟨#[]⟩] 31)).heap.size) := by show _ ≤ _; rw [size_al]; omega
 have HL := Lib.hid hlen
 have HA := Lib.hid ha
 have hq : callV 13 [a, b] = bothV 13 a b := (call_ok ha (by decide) rfl).trans rfl
 obtain ⟨rk, rn, rs, re, hp⟩ := pair_of (bothV 13 a b)
 have HQ := Lib.hid (hq.trans hp)
 have HP := Lib.hid hp
 have OA := Lib.hid (h.2.2.2.2 a (by simp))
 have OB := Lib.hid (h.2.2.2.2 b (by simp))
 have RA := Lib.hid (allR_iff.1 ha a (by simp))
 have RB := Lib.hid (allR_iff.1 ha b (by simp))
 have HK : Hid (decide (6 ≤ (13 : Int) ∧ (13 : Int) ≤ 13) = true) := by show _ = _; decide
 have HT : Hid ((needs 13 : Int) = 2) := rfl
 clear ha h hlen hB hq hp
 generalize callV 13 [a, b] = RR at *
 go_enter Tryz.func177, Tryz.ntmps177
 go_wp2_with fail
 refine (allright_is HA.out HV.out HBS.out).mono ?_
 rintro e w1 ⟨rfl, hb1⟩
 have R1 := Lib.hid ((Bx.made w 0 0 ⟨#[]⟩).then_ hb1)
 have D1 := Lib.hid (Below.lit hb1)
 have V1 := Lib.hid ((HV.out.more HBS.out).then_ hb1)
 have c0 := R1.out.c3
 have f0 := R1.out.fz
 clear hb1
 go_wp2_with fail
 refine (known_is HK.out _).mono ?_
 rintro e w' ⟨rfl, rfl⟩
 go_wp2_with fail
 refine (takes_is HT.out _).mono ?_
 rintro e w' ⟨rfl, rfl⟩
 have C := Lib.hid (pair_is ((judge_two (.inr rfl) RA.out RB.out).trans HP.out) (judge_any V1.out (Nat.le_refl _) (by omega) (allR_iff.1 HA.out) 13))
 go_wp2_with fail
 refine C.out.mono ?_
 rintro e w3 ⟨rfl, hb3⟩
 have R3 := Lib.hid (R1.out.then_ hb3)
 have D3 := Lib.hid (below_step D1.out hb3)
 clear hb3 c0 f0 R1 D1
 have c0 := R3.out.c3
 have f0 := R3.out.fz
 go_wp2_with fail
 try simp only [Exit.inBlock, Exit.then]
 refine bodyPost_ret (box_ret2 rfl rfl rfl (R3.out.put _ _ _)) rfl ?_
 exact ⟨ret_v HQ.out, below_put D3.out (Nat.le_refl _) _ _ _⟩

set_option maxHeartbeats 3200000 in
set_option maxRecDepth 100000 in
theorem call_11 {w : World} {B c : Nat} {A : Option Addr} {a : Vl} (h : Vs w B A 1 c [a]) (hB : B ≤ w.heap.size) (ha : allR [a] = true) :
  Calls Tryz.prog 177 #[.int .i64 11, .slice A 1 c] w fun e w' => e = .returned (.tuple #[(callV 11 [a]).1.val, .int .i64 (callV 11 [a]).2]) ∧ Below w.heap.size w w' := by
 have hlen := h.1
 have hcap := h.2.2.1
 have hle := h.2.1
 unfold maxLen at hcap
 have HV := Lib.hid (h.new hB (.cells #[.int .i64 0, .int .i64 0, .string ⟨#[]⟩] 31))
 have HBS : Hid (B ≤ (w.alloc (.cells #[.int .i64 0, .int .i64 0, .string ⟨#[]⟩] 31)).heap.size) := by show _ ≤ _; rw [size_al]; omega
 have HL := Lib.hid hlen
 have HA := Lib.hid ha
 have hq : callV 11 [a] = notV a := (call_ok ha (by decide) rfl).trans rfl
 obtain ⟨rk, rn, rs, re, hp⟩ := pair_of (notV a)
 have HQ := Lib.hid (hq.trans hp)
 have HP := Lib.hid hp
 have OA := Lib.hid (h.2.2.2.2 a (by simp))
 have RA := Lib.hid (allR_iff.1 ha a (by simp))
 have HK : Hid (decide (6 ≤ (11 : Int) ∧ (11 : Int) ≤ 13) = true) := by show _ = _; decide
 have HT : Hid ((needs 11 : Int) = 1) := rfl
 clear ha h hlen hB hq hp
 generalize callV 11 [a] = RR at *
 go_enter Tryz.func177, Tryz.ntmps177
 go_wp2_with fail
 refine (allright_is HA.out HV.out HBS.out).mono ?_
 rintro e w1 ⟨rfl, hb1⟩
 have R1 := Lib.hid ((Bx.made w 0 0 ⟨#[]⟩).then_ hb1)
 have D1 := Lib.hid (Below.lit hb1)
 have V1 := Lib.hid ((HV.out.more HBS.out).then_ hb1)
 have c0 := R1.out.c3
 have f0 := R1.out.fz
 clear hb1
 go_wp2_with fail
 refine (known_is HK.out _).mono ?_
 rintro e w' ⟨rfl, rfl⟩
 go_wp2_with fail
 refine (takes_is HT.out _).mono ?_
 rintro e w' ⟨rfl, rfl⟩
 have C := Lib.hid (pair_is ((judge_one RA.out).trans HP.out) (judge_any V1.out (Nat.le_refl _) (by omega) (allR_iff.1 HA.out) 11))
 go_wp2_with fail
 refine C.out.mono ?_
 rintro e w3 ⟨rfl, hb3⟩
 have R3 := Lib.hid (R1.out.then_ hb3)
 have D3 := Lib.hid (below_step D1.out hb3)
 clear hb3 c0 f0 R1 D1
 have c0 := R3.out.c3
 have f0 := R3.out.fz
 go_wp2_with fail
 try simp only [Exit.inBlock, Exit.then]
 refine bodyPost_ret (box_ret2 rfl rfl rfl (R3.out.put _ _ _)) rfl ?_
 exact ⟨ret_v HQ.out, below_put D3.out (Nat.le_refl _) _ _ _⟩

theorem call_any {w : World} {B n c : Nat} {A : Option Addr} {l : List Vl} (h : Vs w B A n c l) (hB : B ≤ w.heap.size) (hn : n ≤ 1000000) (op : Int) :
  Calls Tryz.prog 177 #[.int .i64 op, .slice A n c] w fun e w' => e = .returned (.tuple #[(callV op l).1.val, .int .i64 (callV op l).2]) ∧ Below w.heap.size w w' := by
 cases ha : allR l with
 | false => exact call_bad1 h hB hn op ha
 | true =>
  by_cases hk : 6 ≤ op ∧ op ≤ 13
  ·by_cases hl : l.length = needs op
   ·have hlen := h.1
    by_cases h11 : op = 11
    ·subst h11
     obtain ⟨a, rfl⟩ := one_of hl
     subst hlen
     exact call_11 h hB ha
    ·have hl2 : l.length = 2 := hl.trans (if_neg h11)
     obtain ⟨a, b, rfl⟩ := two_of hl2
     subst hlen
     obtain rfl | rfl | rfl | rfl | rfl | rfl | rfl : op = 6 ∨ op = 7 ∨ op = 8 ∨ op = 9 ∨ op = 10 ∨ op = 12 ∨ op = 13 := by omega
     ·exact call_6 h hB ha
     ·exact call_7 h hB ha
     ·exact call_8 h hB ha
     ·exact call_9 h hB ha
     ·exact call_10 h hB ha
     ·exact call_12 h hB ha
     ·exact call_13 h hB ha
   ·exact call_bad3 h hB hn op ha hk hl
  ·exact call_bad2 h hB hn op ha hk
end Go.Proofs.YtmoglaknmlhpgaaGreatDoor
/- Has: the project's and the reference's. -/
namespace Go.Proofs.YtmoglaknmlhpgaaGreatDoor
set_option linter.unusedVariables false
open Go.RowKit Go.Sort

set_option maxHeartbeats 1600000 in
theorem vhas_any {w : World} {B n c : Nat} {A : Option Addr} {l : List Vl} (h : Vs w B A n c l) (hB : B ≤ w.heap.size) (k0 n0 : Int) (s0 : ByteArray) :
  Calls Tryz.prog 176 #[.slice A n c, .agg #[.int .i64 k0, .int .i64 n0, .string s0]] w fun e w' => e = .returned (.bool (hasB l ⟨k0, n0, s0⟩)) ∧ Below w.heap.size w w' := by
 have hlen := h.1
 have hcap := h.2.2.1
 have hle := h.2.1
 unfold maxLen at hcap
 have hb0 := Bx.made w k0 n0 s0
 have hvs : Vs (w.alloc (.cells #[.int .i64 k0, .int .i64 n0, .string s0] 31)) B A n c l := h.keep fun k hk => Below.heap_alloc w _ k (by omega)
 have hd : Below w.heap.size w (w.alloc (.cells #[.int .i64 k0, .int .i64 n0, .string s0] 31)) := (Below.refl _ _).alloc (Nat.le_refl _) _
 have hsz := size_al w (.cells #[.int .i64 k0, .int .i64 n0, .string s0] 31)
 have H0 := Lib.hid hb0
 have HV := Lib.hid hvs
 have HD := Lib.hid hd
 have HL := Lib.hid hlen
 clear h hb0 hvs hd hlen
 generalize hw1 : w.alloc (.cells #[.int .i64 k0, .int .i64 n0, .string s0] 31) = w1 at *
 have HW := Lib.hid hw1
 clear hw1
 go_enter Tryz.func176, Tryz.ntmps176
 go_wp2_with fail
 rw [HW.out]
 go_loopw [9] (fun i wr => ∃ k : Nat, k ≤ n ∧ i = .int .i64 k ∧ HasTo l ⟨k0, n0, s0⟩ k ∧ Below w1.heap.size w1 wr) (fun i _ => n - (intOf i).toNat)
 case atStart => exact ⟨0, Nat.zero_le _, rfl, fun j x _ hj => by omega, Below.refl _ _⟩
 case round =>
  obtain ⟨k, hk, rfl, ht, hb⟩ := hrel
  have HT := Lib.hid ht
  have HB := Lib.hid hb
  by_cases hlt : k < n
  ·obtain ⟨b, o, x, rfl, hbB, hx, hok, x0, x1, x2⟩ := (HV.out.below (hb.mono (by omega))).at_ hlt
   obtain ⟨kx, nx, sx⟩ := x
   have y := (H0.out.then_ hb).c3
   have HX := Lib.hid hx
   have hlt2 : w.heap.size < wr.heap.size := by have := hb.size; omega
   have hve := val_eq kx nx k0 n0 sx s0
   clear ht hb hx hok
   cases he : veq ⟨kx, nx, sx⟩ ⟨k0, n0, s0⟩
   ·rw [he] at hve
    have HE := Lib.hid he
    clear he
    go_wp2_with fail
    go_roundw
    case rel => exact ⟨k + 1, by omega, by go_num, HT.out.step HX.out HE.out, HB.out.alloc HB.out.size _⟩
    case measure => simp [intOf]; omega
   ·rw [he] at hve
    have HE := Lib.hid he
    clear he
    go_wp2_with fail
    go_ret
    exact ⟨ret_bool (has_true HX.out HE.out).symm, (HD.out.trans (HB.out.mono (by omega))).alloc (by omega) _⟩
  ·obtain rfl : k = n := by omega
   clear ht hb
   go_wp2_with fail
   go_ret
   exact ⟨ret_bool (HT.out.all HL.out).symm, HD.out.trans (HB.out.mono (by omega))⟩

end Go.Proofs.YtmoglaknmlhpgaaGreatDoor
