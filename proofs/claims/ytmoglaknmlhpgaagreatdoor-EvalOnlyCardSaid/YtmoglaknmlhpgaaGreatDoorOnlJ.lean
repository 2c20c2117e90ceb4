/- Several texts in one: ExprMem, FunNum, FunCall, ExprSmall, ExprLaws, ExprDec, FunJudge. -/
import Derived.Test.YtmoglaknmlhpgaaGreatDoorOnlF
import Derived.Test.YtmoglaknmlhpgaaGreatDoorOnlI
import Derived.Test.YtmoglaknmlhpgaaGreatDoorOnlB
import Derived.Test.YtmoglaknmlhpgaaGreatDoorOnlC
import Derived.Laws.ResultCell
import Derived.Test.YtmoglaknmlhpgaaGreatDoorOnlH
/- What a node made, in memory; the stack, which is the call's own and is cut and grows. -/
namespace Go.Proofs.YtmoglaknmlhpgaaGreatDoor
set_option linter.unusedVariables false
open Go.RowKit

def PartAt (w : World) (R : Nat → Prop) (vs : List Value) (p : Prt) : Prop := ∃ A n c, vs = [.slice A n c, .int .i64 p.v.k, .int .i64 p.v.n, .string p.v.s, .int .i64 p.e] ∧ (p.v.ok ∧ InI p.e) ∧ Vls w R A n c p.bag
def Prts (w : World) (R : Nat → Prop) := Rw 5 (PartAt w R) w R
section
variable {w w' : World} {R R' : Nat → Prop} {A : Option Addr} {n c : Nat}
theorem PartAt.keep {vs : List Value} {p : Prt} (h : PartAt w R vs p) (hk : Kept R w w') (hR : ∀ b, R b → b < w.heap.size → R' b) : PartAt w' R' vs p := by
 obtain ⟨A, n, c, e, h0, h1⟩ := h
 exact ⟨A, n, c, e, h0, h1.keep hk hR⟩
theorem keeps_part : Keeps PartAt := fun _ _ _ _ _ _ h hk hR => h.keep hk hR
theorem Prts.keep {l : List Prt} (h : Prts w R A n c l) (hk : Kept R w w') (hR : ∀ b, R b → b < w.heap.size → R' b) : Prts w' R' A n c l := Rw.keep h hk hR fun _ _ _ h => h.keep hk hR
theorem PartAt.one {w : World} {R : Nat → Prop} (vs : List Value) (p : Prt) (h : PartAt w R vs p) : ∀ v ∈ vs, v.oneCell' = true := by
 obtain ⟨A, n, c, rfl, _⟩ := h
 intro v hv
 simp at hv
 rcases hv with rfl | rfl | rfl | rfl | rfl <;> rfl
theorem Prts.at_ {l : List Prt} (h : Prts w R A n c l) {j : Nat} (hj : j < n) : ∃ b o p A' n' c', A = some ⟨b, o, none⟩ ∧ R b ∧ b < w.heap.size ∧ l[j]? = some p ∧ (p.v.ok ∧ InI p.e) ∧
  (w.cell? ⟨b, o + j * 5, none⟩ = some (.slice A' n' c') ∧ w.cell? ⟨b, o + j * 5 + 1, none⟩ = some (.int .i64 p.v.k) ∧ w.cell? ⟨b, o + j * 5 + 2, none⟩ = some (.int .i64 p.v.n) ∧ w.cell? ⟨b, o + j * 5 + 3, none⟩ = some (.string p.v.s) ∧ w.cell? ⟨b, o + j * 5 + 4, none⟩ = some (.int .i64 p.e)) ∧ Vls w R A' n' c' p.bag := by
 obtain ⟨b, o, g, vs, e, hb, hlt, hm, hl, hv, A', n', c', rfl, hok, hin⟩ := Rw.at_ h hj
 exact ⟨b, o, g, A', n', c', e, hb, hlt, hm, hok, ⟨hv 0 _ rfl, hv 1 _ rfl, hv 2 _ rfl, hv 3 _ rfl, hv 4 _ rfl⟩, hin⟩
end
theorem Rw.drop {α : Type} {k : Nat} {P : List Value → α → Prop} {w : World} {R : Nat → Prop} {A : Option Addr} {n c : Nat} {l : List α} (h : Rw k P w R A n c l) {m : Nat} (hm : m ≤ n) : Rw k P w R (if c = m then A else A.map (·.add (m * k))) (n - m) (c - m) (l.drop m) := by
 obtain ⟨h1, h2, h3, h4⟩ := h
 refine ⟨by rw [List.length_drop]; omega, by omega, ⟨by have := h3.1; omega, by have := h3.2; omega⟩, ?_⟩
 rcases h4 with h4 | ⟨b, o, e, hb, hlt, hc⟩
 ·left; omega
 ·by_cases hn : n = m
  ·left; omega
  ·right
   subst e
   rw [if_neg (by omega)]
   refine ⟨b, o + m * k, ?_, hb, hlt, fun j x hx => ?_⟩
   ·by_cases hk0 : m * k = 0 <;> simp [Addr.add, hk0]
   ·rw [List.getElem?_drop] at hx
    obtain ⟨vs, a1, a2, a3⟩ := hc (m + j) x hx
    refine ⟨vs, a1, fun i v hi => ?_, a3⟩
    rw [Nat.add_assoc o, ← Nat.add_mul]
    exact a2 i v hi
theorem flatten_take {k : Nat} : ∀ {raw : List (List Value)} {j : Nat}, (∀ y ∈ raw, y.length = k) → (raw.take j).flatten = raw.flatten.take (j * k)
 | [], j, _ => by simp
 | y :: raw, 0, _ => by simp
 | y :: raw, j + 1, h => by
  have hy := h y (by simp)
  rw [List.take_succ_cons, List.flatten_cons, List.flatten_cons, flatten_take fun z hz => h z (by simp [hz]), show (j + 1) * k = y.length + j * k by rw [hy, Nat.add_mul]; omega, List.take_length_add_append]
theorem own_block (A : Option Addr) (n n' c c' : Nat) : (Value.slice A n c).ownBlock = (Value.slice A n' c').ownBlock := by cases A <;> rfl
theorem Gr.take {α : Type} {k : Nat} {P : World → (Nat → Prop) → List Value → α → Prop} {w : World} {base : Nat} {E : TypeId} {A : Option Addr} {n c : Nat} {l : List α} (hP : Keeps P) (h : Gr k P w base E A n c l) {j : Nat} (hj : j ≤ n) : Gr k P w base E A j c (l.take j) := by
 obtain ⟨⟨raw, ⟨h0, h1⟩, h2, h3, h4, h5⟩, hb⟩ := h
 have hl : ∀ y ∈ raw.take j, y.length = k := fun y hy => h4 y (List.mem_of_mem_take hy)
 have hr : (raw.take j).length = j := by rw [List.length_take]; omega
 refine ⟨⟨raw.take j, ⟨by rw [flatten_len hl, hr], ?_⟩, hr, by rw [List.length_take]; omega, hl, fun i vs x a b => ?_⟩, hb⟩
 ·rcases h1 with ⟨hv, hn⟩ | ⟨g, cap, cur, a, b, r1, r2, r3, r4, r5⟩
  ·obtain rfl : j = 0 := by omega
   injection hv with e1 e2 e3
   subst e1 e3
   exact .inl ⟨rfl, rfl⟩
  ·injection a with e1 e2 e3
   subst e1 e3
   refine .inr ⟨g, c, cur, rfl, b, r1, by omega, r3, r4, ?_⟩
   rw [flatten_take h4, ← r5, List.take_take]
   congr 1
   exact (Nat.min_eq_left (Nat.mul_le_mul_right k hj)).symm
 ·have hij : i < j := by have := (List.getElem?_eq_some_iff.1 a).1; omega
  rw [List.getElem?_take, if_pos hij] at a b
  exact hP _ _ _ _ vs x (h5 i vs x a b) (Kept.refl _ _) (fun b hb _ => ⟨hb.1, by rw [own_block A j n c c]; exact hb.2⟩)
theorem partinfo : (Tryz.prog.info? 222).map (fun i => (i.zero, i.size, i.bytes)) = some (some (.agg #[.slice none 0 0, .int .i64 0, .int .i64 0, .string ⟨#[]⟩, .int .i64 0]), 5, 64) := by kernel_rfl
theorem push_part {w : World} {base n c : Nat} {A : Option Addr} {l : List Prt} {A1 : Option Addr} {n1 c1 : Nat} {p : Prt} (h : Gr 5 PartAt w base 222 A n c l) (hok : p.v.ok ∧ InI p.e) (hx : Vls w (Nb base (.slice A n c)) A1 n1 c1 p.bag) (hn : n < 1000000) :
  ∃ A' c' w', (Builtin.append_ #[220, 220] 220 #[.slice A n c, .slice (some ⟨w.heap.size, 0, none⟩) 1 1]).run Tryz.prog (w.alloc (.cells #[.slice A1 n1 c1, .int .i64 p.v.k, .int .i64 p.v.n, .string p.v.s, .int .i64 p.e] 222)) = .ok (.slice A' (n + 1) c') w' ∧ Gr 5 PartAt w' base 222 A' (n + 1) c' (l ++ [p]) ∧ Below base w w' := by
 obtain ⟨i, hi, hz, hs, hb⟩ := info_of partinfo
 exact Gr.push (vs := [.slice A1 n1 c1, .int .i64 p.v.k, .int .i64 p.v.n, .string p.v.s, .int .i64 p.e]) (x := p) Tryz.underlying220 hi hz hs hb rfl (by omega) (by omega) keeps_part h ⟨A1, n1, c1, rfl, hok, hx⟩ rfl (fun _ _ _ _ => PartAt.one _ _) hn
end Go.Proofs.YtmoglaknmlhpgaaGreatDoor
/- Add, Sub, Mul: the project's and the reference's. -/
namespace Go.Proofs.YtmoglaknmlhpgaaGreatDoor
set_option linter.unusedVariables false
open Go.RowKit

theorem ret_fits {a x : Int} {p : Int × Int} (h : p = (a, x)) : Ending.returned (.tuple #[.int .i64 a, .int .i64 x]) = .returned (.tuple #[.int .i64 p.1, .int .i64 p.2]) := by rw [h]

theorem add_any (a b : Int) (ha : In64 a) (hb : In64 b) (w : World) :
  Calls Tryz.prog 199 #[.int .i64 a, .int .i64 b] w fun e w' => e = .returned (.tuple #[.int .i64 (fits (a + b)).1, .int .i64 (fits (a + b)).2]) ∧ w = w' := by
 obtain ⟨c, hc⟩ : ∃ c, IntKind.i64.wrap (a + b) = c := ⟨_, rfl⟩
 have HC := Lib.hid hc
 go_enter Tryz.func199, Tryz.ntmps199
 go_wp2_with fail
 all_goals
  rename_i h
  have H := Lib.hid h
  clear h
  go_ret2
 ·exact ⟨ret_fits (sum_no ha hb HC.out (bne_iff_yes H.out)), rfl⟩
 ·exact ⟨ret_fits (sum_yes ha hb HC.out (bne_iff_no H.out)), rfl⟩
theorem sub_any (a b : Int) (ha : In64 a) (hb : In64 b) (w : World) :
  Calls Tryz.prog 200 #[.int .i64 a, .int .i64 b] w fun e w' => e = .returned (.tuple #[.int .i64 (fits (a - b)).1, .int .i64 (fits (a - b)).2]) ∧ w = w' := by
 obtain ⟨c, hc⟩ : ∃ c, IntKind.i64.wrap (a - b) = c := ⟨_, rfl⟩
 have HC := Lib.hid hc
 go_enter Tryz.func200, Tryz.ntmps200
 go_wp2_with fail
 all_goals
  rename_i h
  have H := Lib.hid h
  clear h
  go_ret2
 ·exact ⟨ret_fits (rest_no ha hb HC.out (bne_iff_yes H.out)), rfl⟩
 ·exact ⟨ret_fits (rest_yes ha hb HC.out (bne_iff_no H.out)), rfl⟩
theorem mul_any (a b : Int) (ha : In64 a) (hb : In64 b) (w : World) :
  Calls Tryz.prog 201 #[.int .i64 a, .int .i64 b] w fun e w' => e = .returned (.tuple #[.int .i64 (fits (a * b)).1, .int .i64 (fits (a * b)).2]) ∧ w = w' := by
 by_cases h0 : a = 0
 ·subst h0
  go_enter Tryz.func201, Tryz.ntmps201
  go_wp2_with fail
  go_ret2
  exact ⟨ret_fits (by rw [Int.zero_mul]; rfl), rfl⟩
 ·by_cases h1 : a = -1
  ·subst h1
   have C := Lib.hid (sub_any 0 b (by decide) hb)
   go_enter Tryz.func201, Tryz.ntmps201
   go_wp2_with fail
   refine (C.out _).mono ?_
   rintro e w' ⟨rfl, rfl⟩
   go_wp2_with fail
   go_ret2
   exact ⟨ret_fits (a := (fits (-b)).1) (x := (fits (-b)).2) (by rw [← neg_one, Int.zero_sub]), rfl⟩
  ·have H0 := Lib.hid h0
   have H1 := Lib.hid h1
   have b0 : (a == 0) = false := by rw [beq_eq_false_iff_ne]; exact h0
   have b1 : (a == -1) = false := by rw [beq_eq_false_iff_ne]; exact h1
   obtain ⟨c, hc⟩ : ∃ c, IntKind.i64.wrap (a * b) = c := ⟨_, rfl⟩
   have HC := Lib.hid hc
   go_enter Tryz.func201, Tryz.ntmps201
   go_wp2_with fail
   all_goals
    rename_i h
    have H := Lib.hid h
    clear h
    go_ret2
   ·exact ⟨ret_fits (prod_no ha hb H0.out H1.out HC.out (ne_yes H.out)), rfl⟩
   ·exact ⟨ret_fits (prod_yes ha H0.out H1.out HC.out (ne_no H.out)), rfl⟩

end Go.Proofs.YtmoglaknmlhpgaaGreatDoor
/- Package fun's and the reference's functions of values. -/
namespace Go.Proofs.YtmoglaknmlhpgaaGreatDoor
set_option linter.unusedVariables false
open Go.RowKit

theorem box_ret {fn : Func} {p : Tmp} {tmps : Array Value} {w : World} {g : Nat} {k n : Int} {s : ByteArray} (h : fn.results = #[.cell p 31]) (hp : tmps.getD p undef = .pointer (some ⟨g, 0, none⟩)) (hg : Bx w g k n s) :
  (results fn tmps).run Tryz.prog w = .ok (.agg #[.int .i64 k, .int .i64 n, .string s]) w :=
 results_cell_row h tmps w g _ _ (0, 0) _ hp hg Tryz.underlying31 rfl (by kernel_rfl)
theorem box_ret2 {fn : Func} {p u : Tmp} {tmps : Array Value} {w : World} {g : Nat} {k n : Int} {s : ByteArray} {v : Value} (h : fn.results = #[.cell p 31, .tmp u]) (hp : tmps.getD p undef = .pointer (some ⟨g, 0, none⟩)) (hu : tmps.getD u undef = v) (hg : Bx w g k n s) :
  (results fn tmps).run Tryz.prog w = .ok (.tuple #[.agg #[.int .i64 k, .int .i64 n, .string s], v]) w := by
 rw [results_cell_tmp h, hp, hu]
 have hl := run_loadVar_row (P := Tryz.prog) w g 31 _ _ (0, 0) _ hg Tryz.underlying31 rfl (by kernel_rfl)
 simp [asAddr, hl, Result.andThen]

theorem below1 (w : World) (x : Obj) : Below w.heap.size w (w.alloc x) := (Below.refl _ _).alloc (Nat.le_refl _) _
theorem below2 (w : World) (x y : Obj) : Below w.heap.size w ((w.alloc x).alloc y) := (below1 w x).alloc (by rw [size_al]; omega) _
theorem ftruth_any (b : Bool) (w : World) : Calls Tryz.prog 192 #[.bool b] w fun e w' => e = .returned (.agg #[.int .i64 1, .int .i64 (truthN b), .string ⟨#[]⟩]) ∧ Below w.heap.size w w' := by
 cases b
 all_goals
  go_enter Tryz.func192, Tryz.ntmps192
  go_wp2_with fail
  try simp only [Exit.inBlock, Exit.then]
  refine bodyPost_ret (box_ret rfl rfl ((Bx.made _ _ _ _).alloc _)) rfl ?_
  exact ⟨rfl, below2 _ _ _⟩
theorem known_any (op : Int) (w : World) : Calls Tryz.prog 182 #[.int .i64 op] w fun e w' => e = .returned (.bool (decide (6 ≤ op ∧ op ≤ 13))) ∧ w = w' := by
 by_cases h1 : 6 ≤ op <;> by_cases h2 : op ≤ 13
 all_goals
  go_enter Tryz.func182, Tryz.ntmps182
  go_wp2
  go_ret
  exact ⟨ret_bool (by simp [h1, h2]), rfl⟩
theorem ftakes_any (op : Int) (w : World) : Calls Tryz.prog 183 #[.int .i64 op] w fun e w' => e = .returned (.int .i64 (needs op : Int)) ∧ w = w' := by
 by_cases h : op = 11
 ·subst h
  go_enter Tryz.func183, Tryz.ntmps183
  go_wp2
  go_ret
  exact ⟨rfl, rfl⟩
 ·have hb : (op == 11) = false := by rw [beq_eq_false_iff_ne]; exact h
  have H : Hid (needs op = 2) := if_neg h
  go_enter Tryz.func183, Tryz.ntmps183
  go_wp2
  go_ret
  exact ⟨ret_int (by rw [H.out]; rfl), rfl⟩
theorem below3 {w w' : World} {x y z : Obj} (h : Below (((w.alloc x).alloc y).alloc z).heap.size (((w.alloc x).alloc y).alloc z) w') : Below w.heap.size w w' := Below.lit (Below.lit (Below.lit h))
theorem box3 (w : World) (x y : Obj) (k n : Int) (s : ByteArray) : Bx (((w.alloc x).alloc y).alloc (.cells #[.int .i64 k, .int .i64 n, .string s] 31)) (w.heap.size + 1 + 1) k n s := by
 have := Bx.made ((w.alloc x).alloc y) k n s
 rwa [size_al, size_al] at this
theorem ret_v {k n e : Int} {s : ByteArray} {p : Vl × Int} (h : p = (⟨k, n, s⟩, e)) : Ending.returned (.tuple #[.agg #[.int .i64 k, .int .i64 n, .string s], .int .i64 e]) = .returned (.tuple #[p.1.val, .int .i64 p.2]) := by rw [h]; rfl
theorem lt2 {n : Nat} : n ≤ n + 1 + 1 := by omega

set_option maxHeartbeats 1600000 in
theorem same_any (a b : Vl) (w : World) : Calls Tryz.prog 184 #[a.val, b.val] w fun e w' => e = .returned (.tuple #[(sameV a b).1.val, .int .i64 (sameV a b).2]) ∧ Below w.heap.size w w' := by
 obtain ⟨k, n, s⟩ := a
 obtain ⟨k', n', s'⟩ := b
 show Calls _ _ #[.agg #[.int .i64 k, .int .i64 n, .string s], .agg #[.int .i64 k', .int .i64 n', .string s']] w _
 by_cases h : k = k'
 ·subst h
  have hve := val_eq k n k n' s s'
  have hb := ftruth_any (veq ⟨k, n, s⟩ ⟨k, n', s'⟩)
  have hs : sameV ⟨k, n, s⟩ ⟨k, n', s'⟩ = (truthV (veq ⟨k, n, s⟩ ⟨k, n', s'⟩), 0) := if_pos rfl
  generalize veq ⟨k, n, s⟩ ⟨k, n', s'⟩ = bb at *
  have HB := Lib.hid hb
  have HS := Lib.hid hs
  clear hb hs
  go_enter Tryz.func184, Tryz.ntmps184
  go_wp2_with fail
  refine (HB.out _).mono ?_
  rintro e w1 ⟨rfl, hb1⟩
  have R1 := Lib.hid ((box3 w _ _ 0 0 ⟨#[]⟩).then_ hb1)
  have D1 := Lib.hid (below3 hb1)
  have c := R1.out.c3
  have f := R1.out.fz
  clear hb1
  go_wp2_with fail
  try simp only [Exit.inBlock, Exit.then]
  refine bodyPost_ret (box_ret2 rfl rfl rfl (R1.out.put _ _ _)) rfl ?_
  exact ⟨ret_v HS.out, below_put D1.out lt2 _ _ _⟩
 ·have hk : (k != k') = true := by rw [bne_iff_ne]; exact h
  have HK := Lib.hid h
  clear h
  go_enter Tryz.func184, Tryz.ntmps184
  go_wp2_with fail
  try simp only [Exit.inBlock, Exit.then]
  refine bodyPost_ret (box_ret2 rfl rfl rfl (box3 _ _ _ _ _ _)) rfl ?_
  exact ⟨ret_v (if_neg HK.out), below3 (Below.refl _ _)⟩

theorem fless_is (a b : Vl) (ha : a.s.size ≤ maxLen) (hb : b.s.size ≤ maxLen) (x : Bool) (e : Int) (h : lessOf a b = (x, e)) (w : World) :
  Calls Tryz.prog 174 #[.agg #[.int .i64 a.k, .int .i64 a.n, .string a.s], .agg #[.int .i64 b.k, .int .i64 b.n, .string b.s]] w fun z w' => z = .returned (.tuple #[.bool x, .int .i64 e]) ∧ Below w.heap.size w w' := by
 have := less_any a b ha hb w
 rwa [h] at this

set_option maxHeartbeats 1600000 in
theorem fless_any (a b : Vl) (ha : a.s.size ≤ maxLen) (hb : b.s.size ≤ maxLen) (w : World) : Calls Tryz.prog 185 #[a.val, b.val] w fun e w' => e = .returned (.tuple #[(lessV a b).1.val, .int .i64 (lessV a b).2]) ∧ Below w.heap.size w w' := by
 obtain ⟨x, e, hx⟩ : ∃ x e, lessOf a b = (x, e) := ⟨_, _, rfl⟩
 have hc := fless_is a b ha hb x e hx
 have hl : lessV a b = if e = 0 then (truthV x, 0) else (noneV, e) := by unfold lessV; rw [hx]
 generalize lessV a b = R at *
 obtain ⟨k, n, s⟩ := a
 obtain ⟨k', n', s'⟩ := b
 show Calls _ _ #[.agg #[.int .i64 k, .int .i64 n, .string s], .agg #[.int .i64 k', .int .i64 n', .string s']] w _
 have HC := Lib.hid hc
 clear hc hx
 by_cases h : e = 0
 ·subst h
  rw [if_pos rfl] at hl
  have HL := Lib.hid hl
  have HB := Lib.hid (ftruth_any x)
  clear hl
  go_enter Tryz.func185, Tryz.ntmps185
  go_wp2_with fail
  refine (HC.out _).mono ?_
  rintro e w1 ⟨rfl, hb1⟩
  have R1 := Lib.hid ((box3 w _ _ 0 0 ⟨#[]⟩).then_ hb1)
  have D1 := Lib.hid (below3 hb1)
  clear hb1
  go_wp2_with fail
  refine (HB.out _).mono ?_
  rintro e w2 ⟨rfl, hb2⟩
  have R2 := Lib.hid (R1.out.then_ hb2)
  have D2 := Lib.hid (below_step D1.out hb2)
  have c := R2.out.c3
  have f := R2.out.fz
  clear hb2 R1 D1
  go_wp2_with fail
  try simp only [Exit.inBlock, Exit.then]
  refine bodyPost_ret (box_ret2 rfl rfl rfl (R2.out.put _ _ _)) rfl ?_
  exact ⟨ret_v HL.out, below_put D2.out lt2 _ _ _⟩
 ·rw [if_neg h] at hl
  have HL := Lib.hid hl
  have he : (e != 0) = true := by rw [bne_iff_ne]; exact h
  clear hl h
  go_enter Tryz.func185, Tryz.ntmps185
  go_wp2_with fail
  refine (HC.out _).mono ?_
  rintro e' w1 ⟨rfl, hb1⟩
  have R1 := Lib.hid ((box3 w _ _ 0 0 ⟨#[]⟩).then_ hb1)
  have D1 := Lib.hid (below3 hb1)
  have c := R1.out.c3
  have f := R1.out.fz
  clear hb1
  go_wp2_with fail
  try simp only [Exit.inBlock, Exit.then]
  refine bodyPost_ret (box_ret2 rfl rfl rfl (R1.out.put _ _ _)) rfl ?_
  exact ⟨ret_v HL.out, below_put D1.out lt2 _ _ _⟩

set_option maxHeartbeats 1600000 in
theorem allright_any {w : World} {B n c : Nat} {A : Option Addr} {l : List Vl} (h : Vs w B A n c l) (hB : B ≤ w.heap.size) :
  Calls Tryz.prog 181 #[.slice A n c] w fun e w' => e = .returned (.bool (allR l)) ∧ Below w.heap.size w w' := by
 have hlen := h.1
 have hcap := h.2.2.1
 have hle := h.2.1
 unfold maxLen at hcap
 have HV := Lib.hid h
 have HL := Lib.hid hlen
 clear h hlen
 go_enter Tryz.func181, Tryz.ntmps181
 go_wp2_with fail
 go_loopw [7] (fun i wr => ∃ k : Nat, k ≤ n ∧ i = .int .i64 k ∧ RightTo l k ∧ Below w.heap.size w wr) (fun i _ => n - (intOf i).toNat)
 case atStart => exact ⟨0, Nat.zero_le _, rfl, fun j x _ hj => by omega, Below.refl _ _⟩
 case round =>
  obtain ⟨k, hk, rfl, ht, hb⟩ := hrel
  have HT := Lib.hid ht
  have HB := Lib.hid hb
  by_cases hlt : k < n
  ·obtain ⟨b, o, x, rfl, hbB, hx, hok, x0, x1, x2⟩ := (HV.out.below (hb.mono hB)).at_ hlt
   obtain ⟨kx, nx, sx⟩ := x
   have HX := Lib.hid hx
   have qr := right_any kx nx sx hok.2.2
   have D1 := Lib.hid (hb.alloc hb.size (.cells #[.int .i64 kx, .int .i64 nx, .string sx] 31))
   clear ht hb hx hok
   by_cases hr : RightV kx nx sx.data.toList
   ·have HR : Hid (Vl.right ⟨kx, nx, sx⟩) := hr
    rw [decide_eq_true hr] at qr
    have QR := Lib.hid qr
    clear qr hr
    go_wp2_with fail
    refine (QR.out _).mono ?_
    rintro e w2 ⟨rfl, hb2⟩
    have D2 := Lib.hid (below_step D1.out hb2)
    clear hb2
    go_wp2_with fail
    go_roundw
    case rel => exact ⟨k + 1, by omega, by go_num, HT.out.step HX.out HR.out, D2.out⟩
    case measure => simp [intOf]; omega
   ·have HR : Hid (¬ Vl.right ⟨kx, nx, sx⟩) := hr
    rw [decide_eq_false hr] at qr
    have QR := Lib.hid qr
    clear qr hr
    go_wp2_with fail
    refine (QR.out _).mono ?_
    rintro e w2 ⟨rfl, hb2⟩
    have D2 := Lib.hid (below_step D1.out hb2)
    clear hb2
    go_wp2_with fail
    go_ret
    exact ⟨ret_bool (allR_bad HX.out HR.out).symm, D2.out⟩
  ·obtain rfl : k = n := by omega
   clear ht hb
   go_wp2_with fail
   go_ret
   exact ⟨ret_bool (HT.out.all HL.out).symm, HB.out⟩
end Go.Proofs.YtmoglaknmlhpgaaGreatDoor
/- Package expr's small functions: takes, truth, single, literal. -/
namespace Go.Proofs.YtmoglaknmlhpgaaGreatDoor
set_option linter.unusedVariables false
open Go.RowKit

theorem etakes_any (op : Int) (w : World) : Calls Tryz.prog 151 #[.int .i64 op] w fun e w' => e = .returned (.int .i64 (takesN op : Int)) ∧ w = w' := by
 by_cases h1 : op = 1
 ·subst h1
  go_enter Tryz.func151, Tryz.ntmps151
  go_wp2
  go_ret
  exact ⟨rfl, rfl⟩
 by_cases h2 : op = 2
 ·subst h2
  go_enter Tryz.func151, Tryz.ntmps151
  go_wp2
  go_ret
  exact ⟨rfl, rfl⟩
 by_cases h3 : op = 3
 ·subst h3
  go_enter Tryz.func151, Tryz.ntmps151
  go_wp2
  go_ret
  exact ⟨rfl, rfl⟩
 by_cases h4 : op = 4
 ·subst h4
  go_enter Tryz.func151, Tryz.ntmps151
  go_wp2
  go_ret
  exact ⟨rfl, rfl⟩
 by_cases h11 : op = 11
 ·subst h11
  go_enter Tryz.func151, Tryz.ntmps151
  go_wp2
  go_ret
  exact ⟨rfl, rfl⟩
 have b1 : (op == 1) = false := by rw [beq_eq_false_iff_ne]; exact h1
 have b2 : (op == 2) = false := by rw [beq_eq_false_iff_ne]; exact h2
 have b3 : (op == 3) = false := by rw [beq_eq_false_iff_ne]; exact h3
 have b4 : (op == 4) = false := by rw [beq_eq_false_iff_ne]; exact h4
 have b11 : (op == 11) = false := by rw [beq_eq_false_iff_ne]; exact h11
 have H : Hid (takesN op = 2) := by show takesN op = 2; unfold takesN; rw [if_neg (by omega), if_neg (by omega)]
 clear h1 h2 h3 h4 h11
 go_enter Tryz.func151, Tryz.ntmps151
 go_wp2
 go_ret
 exact ⟨ret_int (by rw [H.out]; rfl), rfl⟩
theorem etruth_any (b : Bool) (w : World) : Calls Tryz.prog 127 #[.bool b] w fun e w' => e = .returned (.agg #[.int .i64 1, .int .i64 (truthN b), .string ⟨#[]⟩]) ∧ Below w.heap.size w w' := by
 cases b
 all_goals
  go_enter Tryz.func127, Tryz.ntmps127
  go_wp2_with fail
  try simp only [Exit.inBlock, Exit.then]
  refine bodyPost_ret (box_ret rfl rfl ((Bx.made _ _ _ _).alloc _)) rfl ?_
  exact ⟨rfl, below2 _ _ _⟩

theorem eret_pair {v : Vl} {e : Int} {p : Vl × Int} (h : p = (v, e)) : Ending.returned (.tuple #[.agg #[.int .i64 v.k, .int .i64 v.n, .string v.s], .int .i64 e]) = .returned (.tuple #[p.1.val, .int .i64 p.2]) := by rw [h]; rfl
set_option maxHeartbeats 1600000 in
theorem esingle_any {w : World} {R : Nat → Prop} {A : Option Addr} {n c : Nat} {l : List Vl} (h : Vls w R A n c l) :
  Calls Tryz.prog 175 #[.slice A n c] w fun e w' => e = .returned (.tuple #[(singleV l).1.val, .int .i64 (singleV l).2]) ∧ Below w.heap.size w w' := by
 have hle := Rw.le h
 have hcap := Rw.cap h
 have hlen := Rw.len h
 unfold maxLen at hcap
 by_cases h1 : n = 1
 ·subst h1
  obtain ⟨v, rfl⟩ := List.length_eq_one_iff.1 hlen
  have h' := h.keep (w' := w.alloc (.cells #[.int .i64 0, .int .i64 0, .string ⟨#[]⟩] 31)) (Kept.all (below1 w _) R) (fun _ h _ => h)
  obtain ⟨b, o, x, rfl, hRb, hbl, hx, hok, x0, x1, x2⟩ := h'.at_ (j := 0) (by omega)
  simp at hx
  subst hx
  simp only [Nat.zero_mul, Nat.add_zero] at x0 x1 x2
  have HQ := Lib.hid (show singleV [v] = (v, 0) from rfl)
  have hR := (Bx.made w 0 0 ⟨#[]⟩)
  have c0 := hR.c3
  have f0 := hR.fz
  clear h hlen h' hRb hok
  go_enter Tryz.func175, Tryz.ntmps175
  go_wp2_with fail
  try simp only [Exit.inBlock, Exit.then]
  refine bodyPost_ret (box_ret2 rfl rfl rfl (Bx.made _ _ _ _)) rfl ?_
  exact ⟨eret_pair HQ.out, below1 _ _⟩
 ·have HQ : Hid (singleV l = (noneV, 4)) := by
   show singleV l = _
   match l, hlen with
   | [], _ => rfl
   | [v], e => exact absurd e.symm h1
   | _ :: _ :: _, _ => rfl
  have hne : ((n : Int) != 1) = true := by rw [bne_iff_ne]; omega
  clear h hlen
  go_enter Tryz.func175, Tryz.ntmps175
  go_wp2_with fail
  try simp only [Exit.inBlock, Exit.then]
  refine bodyPost_ret (box_ret2 rfl rfl rfl (Bx.made _ _ _ _)) rfl ?_
  exact ⟨eret_pair (v := noneV) HQ.out, below1 _ _⟩

theorem part_ret {fn : Func} {p : Tmp} {tmps : Array Value} {w : World} {g : Nat} {A : Option Addr} {n c : Nat} {k m e : Int} {s : ByteArray} (h : fn.results = #[.cell p 222]) (hp : tmps.getD p undef = .pointer (some ⟨g, 0, none⟩)) (hg : Ob w g 222 #[.slice A n c, .int .i64 k, .int .i64 m, .string s, .int .i64 e]) :
  (results fn tmps).run Tryz.prog w = .ok (.agg #[.slice A n c, .int .i64 k, .int .i64 m, .string s, .int .i64 e]) w :=
 results_cell_row h tmps w g _ _ (0, 0) _ hp hg Tryz.underlying222 rfl (by kernel_rfl)
theorem ob_put5 {w : World} {g : Nat} {t : TypeId} {x0 x1 x2 x3 x4 : Value} (h : Ob w g t #[x0, x1, x2, x3, x4]) (a b c d e : Value) : Ob (((((w.setCell ⟨g, 0, none⟩ a).setCell ⟨g, 1, none⟩ b).setCell ⟨g, 2, none⟩ c).setCell ⟨g, 3, none⟩ d).setCell ⟨g, 4, none⟩ e) g t #[a, b, c, d, e] := by
 have := ((((h.put 0 a).put 1 b).put 2 c).put 3 d).put 4 e
 simpa using this
theorem below_put5 {w0 w : World} {g B : Nat} (h : Below B w0 w) (hg : B ≤ g) (a b c d e : Value) : Below B w0 (((((w.setCell ⟨g, 0, none⟩ a).setCell ⟨g, 1, none⟩ b).setCell ⟨g, 2, none⟩ c).setCell ⟨g, 3, none⟩ d).setCell ⟨g, 4, none⟩ e) :=
 ((((h.setCell (p := ⟨g, 0, none⟩) hg a).setCell (p := ⟨g, 1, none⟩) hg b).setCell (p := ⟨g, 2, none⟩) hg c).setCell (p := ⟨g, 3, none⟩) hg d).setCell (p := ⟨g, 4, none⟩) hg e
set_option maxRecDepth 100000 in
set_option maxHeartbeats 1600000 in
theorem eliteral_any (v : Vl) (hs : v.s.size ≤ 1000000) (w : World) :
    Calls Tryz.prog 163 #[.agg #[.int .i64 v.k, .int .i64 v.n, .string v.s]] w fun e w' => e = .returned (.agg #[.slice none 0 0, .int .i64 v.k, .int .i64 v.n, .string v.s, .int .i64 0]) ∧ Below w.heap.size w w' := by
  obtain ⟨k, n, s⟩ := v
  simp only at hs ⊢
  have HCL := Lib.hid (fun W => clone_any s W hs)
  have HSZ := Lib.hid (size_al w (.cells #[.int .i64 k, .int .i64 n, .string s] 31))
  go_enter Tryz.func163, Tryz.ntmps163
  go_wp2_with (go_at_call 45; refine (HCL.out _).mono ?_; rintro e w1 ⟨rfl, hb1⟩
               have R1 := Lib.hid (((Bx.made w k n s).alloc (.cells #[.slice none 0 0, .int .i64 0, .int .i64 0, .string ⟨#[]⟩, .int .i64 0] 222)).then_ hb1)
               have O1 := Lib.hid ((Ob.made (w.alloc (.cells #[.int .i64 k, .int .i64 n, .string s] 31)) 222 #[.slice none 0 0, .int .i64 0, .int .i64 0, .string ⟨#[]⟩, .int .i64 0]).below hb1 (by simp))
               have D1 := Lib.hid (Below.lit (Below.lit hb1))
               have c0 := R1.out.c3
               have f0 := R1.out.fz
               rw [HSZ.out] at O1
               have o0 := O1.out.cell
               have g0 := O1.out.frozen
               clear hb1)
  try simp only [Exit.inBlock, Exit.then]
  have O2 := O1.out.keep (w' := w1.setCell ⟨w.heap.size, 2, none⟩ (.string s)) (Below.heap_setCell w1 _ _ _ (by show w.heap.size + 1 ≠ w.heap.size; omega))
  refine bodyPost_ret (part_ret rfl rfl (ob_put5 O2 _ _ _ _ _)) rfl ?_
  exact ⟨rfl, below_put5 (D1.out.setCell (p := ⟨w.heap.size, 2, none⟩) (Nat.le_refl _) _) (by omega) _ _ _ _ _⟩
end Go.Proofs.YtmoglaknmlhpgaaGreatDoor
/- What conditions come to, plainly: expressions behind each other, truths, what isn't asked for. -/
namespace Go.Proofs.YtmoglaknmlhpgaaGreatDoor
set_option linter.unusedVariables false

def condV (v : Vl) : Int := if v = truthV true then 2 else if v = truthV false then 0 else 1
theorem truth_ne : truthV true ≠ truthV false := by decide
theorem condV_t : condV (truthV true) = 2 := if_pos rfl
theorem condV_f : condV (truthV false) = 0 := by unfold condV; rw [if_neg truth_ne.symm, if_pos rfl]
theorem condP_val {ask : List Giv} {l : List Nod} (hn : l ≠ []) : condP ask l = condV (valP ask l).1 := by unfold condP; rw [if_neg hn]; rfl
theorem condV_cases (v : Vl) : v = truthV true ∧ condV v = 2 ∨ v = truthV false ∧ condV v = 0 ∨ (v ≠ truthV true ∧ v ≠ truthV false) ∧ condV v = 1 := by
 by_cases h1 : v = truthV true
 ·subst h1; exact .inl ⟨rfl, condV_t⟩
 ·by_cases h2 : v = truthV false
  ·subst h2; exact .inr (.inl ⟨rfl, condV_f⟩)
  ·exact .inr (.inr ⟨⟨h1, h2⟩, by unfold condV; rw [if_neg h1, if_neg h2]⟩)
theorem run_same {ask ask' : List Giv} : ∀ {l : List Nod} {st : List Prt}, (∀ n ∈ l, n.op = 2 → getR ask n.a = getR ask' n.a ∧ getE ask n.a = getE ask' n.a) → runP ask l st = runP ask' l st
 | [], _, _ => rfl
 | n :: l, st, h => by
  have e : stepP ask st n = stepP ask' st n := by
   unfold stepP madeP
   by_cases h2 : n.op = 2
   ·obtain ⟨a, b⟩ := h n (by simp) h2
    rw [a, b]
   ·simp only [h2, if_false]
  rw [runP_cons, runP_cons, e]
  exact run_same fun m hm => h m (by simp [hm])
theorem val_same {ask ask' : List Giv} {l : List Nod} (h : ∀ n ∈ l, n.op = 2 → getR ask n.a = getR ask' n.a ∧ getE ask n.a = getE ask' n.a) : valP ask l = valP ask' l := by
 unfold valP
 rw [run_same h]
end Go.Proofs.YtmoglaknmlhpgaaGreatDoor
/- decided: does one of both decide? -/
namespace Go.Proofs.YtmoglaknmlhpgaaGreatDoor
set_option linter.unusedVariables false
open Go.RowKit

set_option maxHeartbeats 1600000 in
theorem edecided_no {op : Int} (h1 : op ≠ 12) (h2 : op ≠ 13) (A : Option Addr) (n c : Nat) (w : World) :
  Calls Tryz.prog 164 #[.int .i64 op, .slice A n c] w fun e w' => e = .returned (.tuple #[.agg #[.int .i64 0, .int .i64 0, .string ⟨#[]⟩], .bool false]) ∧ Below w.heap.size w w' := by
 have b1 : (op != 12) = true := by rw [bne_iff_ne]; exact h1
 have b2 : (op != 13) = true := by rw [bne_iff_ne]; exact h2
 clear h1 h2
 go_enter Tryz.func164, Tryz.ntmps164
 go_wp2_with fail
 try simp only [Exit.inBlock, Exit.then]
 refine bodyPost_ret (box_ret2 rfl rfl rfl (Bx.made _ _ _ _)) rfl ?_
 exact ⟨rfl, below1 _ _⟩
def decV (op : Int) : Vl := truthV (decide (op = 13))
set_option maxRecDepth 100000 in
set_option maxHeartbeats 3200000 in
theorem edecided_two {op : Int} (hop : op = 12 ∨ op = 13) {w : World} {R : Nat → Prop} {A : Option Addr} {c : Nat} {p q : Prt} (h : Prts w R A 2 c [p, q]) :
  Calls Tryz.prog 164 #[.int .i64 op, .slice A 2 c] w fun e w' => e = .returned (.tuple #[.agg #[.int .i64 (if decB op [p, q] = true then 1 else 0), .int .i64 (if decB op [p, q] = true then truthN (decide (op = 13)) else 0), .string ⟨#[]⟩], .bool (decB op [p, q])]) ∧ Below w.heap.size w w' := by
 have hle := Rw.le h
 have hcap := Rw.cap h
 unfold maxLen at hcap
 have HD : Hid (decB op [p, q] = (decide (p.v = decV op) || decide (q.v = decV op))) := by show _ = _; rcases hop with rfl | rfl <;> simp [decB, decV]
 have HT := Lib.hid (etruth_any (decide (op = 13)))
 obtain ⟨b, o, p0, A0, n0, c0, rfl, hRb, hbl, hx, hok, ⟨x0, x1, x2, x3, x4⟩, hin⟩ := h.at_ (j := 0) (by omega)
 obtain ⟨b', o', p1, A1, n1, c1, hA, _, _, hy, hok1, ⟨y0, y1, y2, y3, y4⟩, hin1⟩ := h.at_ (j := 1) (by omega)
 injection hA with hA
 injection hA with hA1 hA2
 subst hA1 hA2
 simp at hx hy
 subst hx hy
 simp only [Nat.zero_mul, Nat.add_zero] at x1 x2 x3
 simp only [Nat.one_mul] at y1 y2 y3
 have KX := Lib.hid (fun W (hW : Below w.heap.size w W) => (⟨(World.cell?_of_block (hW.block b hbl)).trans x1, (World.cell?_of_block (hW.block b hbl)).trans x2, (World.cell?_of_block (hW.block b hbl)).trans x3⟩ : _ ∧ _ ∧ _))
 have KY := Lib.hid (fun W (hW : Below w.heap.size w W) => (⟨(World.cell?_of_block (hW.block b hbl)).trans y1, (World.cell?_of_block (hW.block b hbl)).trans y2, (World.cell?_of_block (hW.block b hbl)).trans y3⟩ : _ ∧ _ ∧ _))
 have two : ∀ (tb : Bool) (tn : Int), (Hid (∀ W : World, Calls Tryz.prog 127 #[.bool tb] W fun e w' => e = .returned (.agg #[.int .i64 1, .int .i64 tn, .string ⟨#[]⟩]) ∧ Below W.heap.size W w')) → decV op = ⟨1, tn, ⟨#[]⟩⟩ → truthN (decide (op = 13)) = tn → ((op == 13) = tb) →
   Calls Tryz.prog 164 #[.int .i64 op, .slice (some ⟨b, o, none⟩) 2 c] w fun e w' => e = .returned (.tuple #[.agg #[.int .i64 (if decB op [p, q] = true then 1 else 0), .int .i64 (if decB op [p, q] = true then truthN (decide (op = 13)) else 0), .string ⟨#[]⟩], .bool (decB op [p, q])]) ∧ Below w.heap.size w w' := by
  intro tb tn HTB hdv htn htb
  rw [hdv] at HD
  rw [htn]
  have hopb : (op != 12 && op != 13) = false := by rcases hop with rfl | rfl <;> rfl
  obtain ⟨pb, ⟨pk, pn, ps⟩, pe⟩ := p
  obtain ⟨qb, ⟨qk, qn, qs⟩, qe⟩ := q
  simp only at KX KY HD
  have e1 := fun W => val_eq pk pn 1 tn ps ⟨#[]⟩ W
  have e2 := fun W => val_eq qk qn 1 tn qs ⟨#[]⟩ W
  generalize decB op _ = dd at *
  have HD' : Hid (dd = (veq ⟨pk, pn, ps⟩ ⟨1, tn, ⟨#[]⟩⟩ || veq ⟨qk, qn, qs⟩ ⟨1, tn, ⟨#[]⟩⟩)) := HD
  generalize veq ⟨pk, pn, ps⟩ ⟨1, tn, ⟨#[]⟩⟩ = v1 at *
  generalize veq ⟨qk, qn, qs⟩ ⟨1, tn, ⟨#[]⟩⟩ = v2 at *
  clear HD hin hin1 x0 x4 y0 y4 x1 x2 x3 y1 y2 y3 h hok hok1 hRb hdv htn HT hop
  obtain ⟨rk, rn, hrk, hrn⟩ : ∃ rk rn, (if dd = true then (1 : Int) else 0) = rk ∧ (if dd = true then tn else 0) = rn := ⟨_, _, rfl, rfl⟩
  rw [hrk, hrn]
  have HRK := Lib.hid hrk
  have HRN := Lib.hid hrn
  clear hrk hrn
  have fin : ∀ v1b v2b : Bool, v1 = v1b → v2 = v2b → Calls Tryz.prog 164 #[.int .i64 op, .slice (some ⟨b, o, none⟩) 2 c] w fun e w' => e = .returned (.tuple #[.agg #[.int .i64 rk, .int .i64 rn, .string ⟨#[]⟩], .bool dd]) ∧ Below w.heap.size w w' := by
   intro v1b v2b ev1 ev2
   subst ev1 ev2
   by_cases h12 : (op != 12) = true
   ·have h13 : (op != 13) = false := by rw [h12] at hopb; simpa using hopb
    go_enter Tryz.func164, Tryz.ntmps164
    go_wp2_with (go_at_call 127; refine (HTB.out _).mono ?_; rintro e w1 ⟨rfl, hb1⟩; have B1 := Lib.hid hb1; have R1 := Lib.hid ((Bx.made w 0 0 ⟨#[]⟩).then_ hb1); clear hb1)
    have D2 : Below w.heap.size w (w1.alloc (.cells #[.int .i64 1, .int .i64 tn, .string ⟨#[]⟩] 31)) := (Below.lit B1.out).alloc (Below.lit B1.out).size _
    have KXW := KX.out _ D2
    have KYW := KY.out _ D2
    have z := (Bx.made w1 1 tn ⟨#[]⟩).c3
    have R2 := Lib.hid (R1.out.alloc (.cells #[.int .i64 1, .int .i64 tn, .string ⟨#[]⟩] 31))
    have D2' := Lib.hid D2
    have Z := Lib.hid (Bx.made w1 1 tn ⟨#[]⟩)
    clear D2 R1 KX KY
    generalize hW2 : w1.alloc (.cells #[.int .i64 1, .int .i64 tn, .string ⟨#[]⟩] 31) = W2 at *
    cases v1
    ·simp only [Bool.false_or] at HD'
     have hdd := HD'.out
     subst hdd
     cases dd
     ·go_quiet (fail)
      have f2 := (R2.out.drewN nq).fz
      have k2 := (R2.out.drewN nq).c3
      go_wp2_with fail
      try simp only [Exit.inBlock, Exit.then]
      refine bodyPost_ret (box_ret2 rfl rfl rfl ((R2.out.drewN nq).put _ _ _)) rfl ?_
      refine ⟨?_, below_put (below_drewN D2'.out nq) (Nat.le_refl _) _ _ _⟩
      rw [← HRK.out, ← HRN.out]
      rfl
     ·go_quiet (fail)
      have f2 := (R2.out.drewN nq).fz
      have k2 := (R2.out.drewN nq).c3
      have z2 := (Z.out.drewN nq).c3
      go_wp2_with fail
      try simp only [Exit.inBlock, Exit.then]
      refine bodyPost_ret (box_ret2 rfl rfl rfl ((R2.out.drewN nq).put _ _ _)) rfl ?_
      refine ⟨?_, below_put (below_drewN D2'.out nq) (Nat.le_refl _) _ _ _⟩
      rw [← HRK.out, ← HRN.out]
      rfl
    ·simp only [Bool.true_or] at HD'
     have hdd := HD'.out
     subst hdd
     go_quiet (fail)
     have f2 := (R2.out.drewN nq).fz
     have k2 := (R2.out.drewN nq).c3
     have z2 := (Z.out.drewN nq).c3
     go_wp2_with fail
     try simp only [Exit.inBlock, Exit.then]
     refine bodyPost_ret (box_ret2 rfl rfl rfl ((R2.out.drewN nq).put _ _ _)) rfl ?_
     refine ⟨?_, below_put (below_drewN D2'.out nq) (Nat.le_refl _) _ _ _⟩
     rw [← HRK.out, ← HRN.out]
     rfl
   ·have h12 : (op != 12) = false := by simpa using h12
    go_enter Tryz.func164, Tryz.ntmps164
    go_wp2_with (go_at_call 127; refine (HTB.out _).mono ?_; rintro e w1 ⟨rfl, hb1⟩; have B1 := Lib.hid hb1; have R1 := Lib.hid ((Bx.made w 0 0 ⟨#[]⟩).then_ hb1); clear hb1)
    have D2 : Below w.heap.size w (w1.alloc (.cells #[.int .i64 1, .int .i64 tn, .string ⟨#[]⟩] 31)) := (Below.lit B1.out).alloc (Below.lit B1.out).size _
    have KXW := KX.out _ D2
    have KYW := KY.out _ D2
    have z := (Bx.made w1 1 tn ⟨#[]⟩).c3
    have R2 := Lib.hid (R1.out.alloc (.cells #[.int .i64 1, .int .i64 tn, .string ⟨#[]⟩] 31))
    have D2' := Lib.hid D2
    have Z := Lib.hid (Bx.made w1 1 tn ⟨#[]⟩)
    clear D2 R1 KX KY
    generalize hW2 : w1.alloc (.cells #[.int .i64 1, .int .i64 tn, .string ⟨#[]⟩] 31) = W2 at *
    cases v1
    ·simp only [Bool.false_or] at HD'
     have hdd := HD'.out
     subst hdd
     cases dd
     ·go_quiet (fail)
      have f2 := (R2.out.drewN nq).fz
      have k2 := (R2.out.drewN nq).c3
      go_wp2_with fail
      try simp only [Exit.inBlock, Exit.then]
      refine bodyPost_ret (box_ret2 rfl rfl rfl ((R2.out.drewN nq).put _ _ _)) rfl ?_
      refine ⟨?_, below_put (below_drewN D2'.out nq) (Nat.le_refl _) _ _ _⟩
      rw [← HRK.out, ← HRN.out]
      rfl
     ·go_quiet (fail)
      have f2 := (R2.out.drewN nq).fz
      have k2 := (R2.out.drewN nq).c3
      have z2 := (Z.out.drewN nq).c3
      go_wp2_with fail
      try simp only [Exit.inBlock, Exit.then]
      refine bodyPost_ret (box_ret2 rfl rfl rfl ((R2.out.drewN nq).put _ _ _)) rfl ?_
      refine ⟨?_, below_put (below_drewN D2'.out nq) (Nat.le_refl _) _ _ _⟩
      rw [← HRK.out, ← HRN.out]
      rfl
    ·simp only [Bool.true_or] at HD'
     have hdd := HD'.out
     subst hdd
     go_quiet (fail)
     have f2 := (R2.out.drewN nq).fz
     have k2 := (R2.out.drewN nq).c3
     have z2 := (Z.out.drewN nq).c3
     go_wp2_with fail
     try simp only [Exit.inBlock, Exit.then]
     refine bodyPost_ret (box_ret2 rfl rfl rfl ((R2.out.drewN nq).put _ _ _)) rfl ?_
     refine ⟨?_, below_put (below_drewN D2'.out nq) (Nat.le_refl _) _ _ _⟩
     rw [← HRK.out, ← HRN.out]
     rfl
  exact fin v1 v2 rfl rfl
 rcases hop with rfl | rfl
 ·exact two false 0 HT rfl rfl rfl
 ·exact two true 1 HT rfl rfl rfl
end Go.Proofs.YtmoglaknmlhpgaaGreatDoor
/- Package fun: judge. -/
namespace Go.Proofs.YtmoglaknmlhpgaaGreatDoor
set_option linter.unusedVariables false
open Go.RowKit

theorem eq_dec {a b : Int} : (a == b) = decide (a = b) := by rw [Bool.eq_iff_iff]; simp
set_option maxHeartbeats 3200000 in
theorem judge_any {w : World} {B n c : Nat} {A : Option Addr} {l : List Vl} (h : Vs w B A n c l) (hB : B ≤ w.heap.size) (hn : n ≤ 1000000) (hR : ∀ v ∈ l, v.right) (op : Int) :
  Calls Tryz.prog 187 #[.int .i64 op, .slice A n c] w fun e w' => e = .returned (.tuple #[(judgeL op l).1.val, .int .i64 (judgeL op l).2]) ∧ Below w.heap.size w w' := by
 have hlen := h.1
 have hcap := h.2.2.1
 have hle := h.2.1
 unfold maxLen at hcap
 have HV := Lib.hid h
 have HL := Lib.hid hlen
 have HR := Lib.hid hR
 clear h hlen hR
 go_enter Tryz.func187, Tryz.ntmps187
 go_wp2_with fail
 go_loopw [6, 11] (fun o i wr => ∃ (k : Nat) (m : Int), k ≤ n ∧ i = .int .i64 k ∧ o = .int .i64 m ∧ KindTo l k m ∧ Bx wr w.heap.size 0 0 ⟨#[]⟩ ∧ Below w.heap.size w wr) (fun _ i _ => n - (intOf i).toNat)
 case atStart => exact ⟨0, 0, Nat.zero_le _, rfl, rfl, ⟨rfl, rfl, Int.le_refl _, Int.le_refl _⟩, Bx.made _ _ _ _, below1 _ _⟩
 case round =>
  obtain ⟨k, m, hk, rfl, rfl, ht, hbx, hb⟩ := hrel
  have HT := Lib.hid ht
  have HB := Lib.hid hb
  have HX := Lib.hid hbx
  have m0 := ht.2.2.1
  have m1 := ht.2.2.2
  by_cases hlt : k < n
  ·obtain ⟨b, o, x, rfl, hbB, hx, hok, x0, x1, x2⟩ := (HV.out.below (hb.mono hB)).at_ hlt
   obtain ⟨kx, nx, sx⟩ := x
   have HI := Lib.hid hx
   have D1 := Lib.hid (hb.alloc hb.size (.cells #[.int .i64 kx, .int .i64 nx, .string sx] 31))
   have R1 := Lib.hid (hbx.alloc (.cells #[.int .i64 kx, .int .i64 nx, .string sx] 31))
   have hr := HR.out _ (List.mem_of_getElem? hx)
   have HRX := Lib.hid hr
   have c0 := R1.out.c3
   have f0 := R1.out.fz
   by_cases h1 : kx = 1
   ·subst h1
    have hn := truth_n hr rfl
    have hw : IntKind.i64.wrap (m + nx) = m + nx := IntWalk.i64_in _ (by have : nx = 0 ∨ nx = 1 := hn; omega)
    clear ht hb hx hok hbx hr hn
    go_wp2_with fail
    go_roundw
    case rel => exact ⟨k + 1, m + nx, by omega, by go_num, rfl, HT.out.step HI.out HRX.out rfl, R1.out, D1.out⟩
    case measure => simp [intOf]; omega
   ·have hne : (kx != 1) = true := by rw [bne_iff_ne]; exact h1
    have H1 := Lib.hid h1
    clear ht hb hx hok hbx hr h1
    go_wp2_with fail
    try simp only [Exit.inBlock, Exit.then]
    refine bodyPost_ret (box_ret2 rfl rfl rfl (R1.out.put _ _ _)) rfl ?_
    exact ⟨ret_v (judge_bad (kinds_bad HI.out H1.out)), below_put D1.out (Nat.le_refl _) _ _ _⟩
  ·obtain rfl : k = n := by omega
   have hj := judge_ok (op := op) HT.out HL.out
   clear ht hb hbx
   by_cases h11 : op = 11
   ·subst h11
    rw [if_pos rfl] at hj
    have HJ := Lib.hid hj
    clear hj
    have c0 := HX.out.c3
    go_wp2_with fail
    refine (ftruth_any _ _).mono ?_
    rintro e w1 ⟨rfl, hb1⟩
    have R1 := Lib.hid (HX.out.then_ hb1)
    have D1 := Lib.hid (below_step HB.out hb1)
    have c := R1.out.c3
    have f := R1.out.fz
    clear hb1 c0
    go_wp2_with fail
    try simp only [Exit.inBlock, Exit.then]
    refine bodyPost_ret (box_ret2 rfl rfl rfl (R1.out.put _ _ _)) rfl ?_
    exact ⟨ret_v (HJ.out.trans (by first | rfl | rw [eq_dec] | rfl)), below_put D1.out (Nat.le_refl _) _ _ _⟩
   ·have h11' : (op == 11) = false := by rw [beq_eq_false_iff_ne]; exact h11
    rw [if_neg h11] at hj
    by_cases h12 : op = 12
    ·subst h12
     rw [if_pos rfl] at hj
     have HJ := Lib.hid hj
     clear hj h11
     have c0 := HX.out.c3
     go_wp2_with fail
     refine (ftruth_any _ _).mono ?_
     rintro e w1 ⟨rfl, hb1⟩
     have R1 := Lib.hid (HX.out.then_ hb1)
     have D1 := Lib.hid (below_step HB.out hb1)
     have c := R1.out.c3
     have f := R1.out.fz
     clear hb1 c0
     go_wp2_with fail
     try simp only [Exit.inBlock, Exit.then]
     refine bodyPost_ret (box_ret2 rfl rfl rfl (R1.out.put _ _ _)) rfl ?_
     exact ⟨ret_v (HJ.out.trans (by first | rfl | rw [eq_dec] | rfl)), below_put D1.out (Nat.le_refl _) _ _ _⟩
    ·have h12' : (op == 12) = false := by rw [beq_eq_false_iff_ne]; exact h12
     rw [if_neg h12] at hj
     have HJ := Lib.hid hj
     clear hj h11 h12
     have c0 := HX.out.c3
     go_wp2_with fail
     refine (ftruth_any _ _).mono ?_
     rintro e w1 ⟨rfl, hb1⟩
     have R1 := Lib.hid (HX.out.then_ hb1)
     have D1 := Lib.hid (below_step HB.out hb1)
     have c := R1.out.c3
     have f := R1.out.fz
     clear hb1 c0
     go_wp2_with fail
     try simp only [Exit.inBlock, Exit.then]
     refine bodyPost_ret (box_ret2 rfl rfl rfl (R1.out.put _ _ _)) rfl ?_
     exact ⟨ret_v (HJ.out.trans (by first | rfl | rw [eq_dec] | rfl)), below_put D1.out (Nat.le_refl _) _ _ _⟩
end Go.Proofs.YtmoglaknmlhpgaaGreatDoor
