/- Package fun's and the reference's functions of values. -/
import Derived.Test.YtjcegpakacedoaaFunSpec
import Derived.Test.YtjcegpakacedoaaFunNum
import Derived.Test.YtjcegpakacedoaaVals
import Derived.Test.YtjcegpakacedoaaVBoxPut
import Derived.Laws.ResultCell
namespace Go.Proofs.Ytjcegpakacedoaa
set_option linter.unusedVariables false
open Go.RowKit

theorem box_ret {fn : Func} {p : Tmp} {tmps : Array Value} {w : World} {g : Nat} {k n : Int} {s : ByteArray} (h : fn.results = #[.cell p 26]) (hp : tmps.getD p undef = .pointer (some ⟨g, 0, none⟩)) (hg : Bx w g k n s) :
    (results fn tmps).run Try.prog w = .ok (.agg #[.int .i64 k, .int .i64 n, .string s]) w :=
  results_cell_row h tmps w g _ _ (0, 0) _ hp hg Try.underlying26 rfl (by kernel_rfl)
theorem box_ret2 {fn : Func} {p u : Tmp} {tmps : Array Value} {w : World} {g : Nat} {k n : Int} {s : ByteArray} {v : Value} (h : fn.results = #[.cell p 26, .tmp u]) (hp : tmps.getD p undef = .pointer (some ⟨g, 0, none⟩)) (hu : tmps.getD u undef = v) (hg : Bx w g k n s) :
    (results fn tmps).run Try.prog w = .ok (.tuple #[.agg #[.int .i64 k, .int .i64 n, .string s], v]) w := by
  rw [results_cell_tmp h, hp, hu]
  have hl := run_loadVar_row (P := Try.prog) w g 26 _ _ (0, 0) _ hg Try.underlying26 rfl (by kernel_rfl)
  simp [asAddr, hl, Result.andThen]

theorem below1 (w : World) (x : Obj) : Below w.heap.size w (w.alloc x) := (Below.refl _ _).alloc (Nat.le_refl _) _
theorem below2 (w : World) (x y : Obj) : Below w.heap.size w ((w.alloc x).alloc y) := (below1 w x).alloc (by rw [size_al]; omega) _
theorem ftruth_any (b : Bool) (w : World) : Calls Try.prog 31 #[.bool b] w fun e w' => e = .returned (.agg #[.int .i64 1, .int .i64 (truthN b), .string ⟨#[]⟩]) ∧ Below w.heap.size w w' := by
  cases b
  all_goals
    go_enter Try.func31, Try.ntmps31
    go_wp2_with fail
    try simp only [Exit.inBlock, Exit.then]
    refine bodyPost_ret (box_ret rfl rfl ((Bx.made _ _ _ _).alloc _)) rfl ?_
    exact ⟨rfl, below2 _ _ _⟩
theorem rbool_any (b : Bool) (w : World) : Calls Try.prog 28 #[.bool b] w fun e w' => e = .returned (.agg #[.int .i64 1, .int .i64 (truthN b), .string ⟨#[]⟩]) ∧ Below w.heap.size w w' := by
  cases b
  all_goals
    go_enter Try.func28, Try.ntmps28
    go_wp2_with fail
    try simp only [Exit.inBlock, Exit.then]
    refine bodyPost_ret (box_ret rfl rfl (Bx.made _ _ _ _)) rfl ?_
    exact ⟨rfl, below1 _ _⟩
theorem known_any (op : Int) (w : World) : Calls Try.prog 21 #[.int .i64 op] w fun e w' => e = .returned (.bool (decide (6 ≤ op ∧ op ≤ 13))) ∧ w = w' := by
  by_cases h1 : 6 ≤ op <;> by_cases h2 : op ≤ 13
  all_goals
    go_enter Try.func21, Try.ntmps21
    go_wp2
    go_ret
    exact ⟨ret_bool (by simp [h1, h2]), rfl⟩
theorem takes_any (op : Int) (w : World) : Calls Try.prog 22 #[.int .i64 op] w fun e w' => e = .returned (.int .i64 (needs op : Int)) ∧ w = w' := by
  by_cases h : op = 11
  · subst h
    go_enter Try.func22, Try.ntmps22
    go_wp2
    go_ret
    exact ⟨rfl, rfl⟩
  · have hb : (op == 11) = false := by rw [beq_eq_false_iff_ne]; exact h
    have H : Hid (needs op = 2) := if_neg h
    go_enter Try.func22, Try.ntmps22
    go_wp2
    go_ret
    exact ⟨ret_int (by rw [H.out]; rfl), rfl⟩
theorem below3 {w w' : World} {x y z : Obj} (h : Below (((w.alloc x).alloc y).alloc z).heap.size (((w.alloc x).alloc y).alloc z) w') : Below w.heap.size w w' := Below.lit (Below.lit (Below.lit h))
theorem box3 (w : World) (x y : Obj) (k n : Int) (s : ByteArray) : Bx (((w.alloc x).alloc y).alloc (.cells #[.int .i64 k, .int .i64 n, .string s] 26)) (w.heap.size + 1 + 1) k n s := by
  have := Bx.made ((w.alloc x).alloc y) k n s
  rwa [size_al, size_al] at this
theorem ret_v {k n e : Int} {s : ByteArray} {p : Vl × Int} (h : p = (⟨k, n, s⟩, e)) : Ending.returned (.tuple #[.agg #[.int .i64 k, .int .i64 n, .string s], .int .i64 e]) = .returned (.tuple #[p.1.val, .int .i64 p.2]) := by rw [h]; rfl
theorem lt2 {n : Nat} : n ≤ n + 1 + 1 := by omega

set_option maxHeartbeats 1600000 in
theorem same_any (a b : Vl) (w : World) : Calls Try.prog 23 #[a.val, b.val] w fun e w' => e = .returned (.tuple #[(sameV a b).1.val, .int .i64 (sameV a b).2]) ∧ Below w.heap.size w w' := by
  obtain ⟨k, n, s⟩ := a
  obtain ⟨k', n', s'⟩ := b
  show Calls _ _ #[.agg #[.int .i64 k, .int .i64 n, .string s], .agg #[.int .i64 k', .int .i64 n', .string s']] w _
  by_cases h : k = k'
  · subst h
    have hve := val_eq k n k n' s s'
    have hb := ftruth_any (veq ⟨k, n, s⟩ ⟨k, n', s'⟩)
    have hs : sameV ⟨k, n, s⟩ ⟨k, n', s'⟩ = (truthV (veq ⟨k, n, s⟩ ⟨k, n', s'⟩), 0) := if_pos rfl
    generalize veq ⟨k, n, s⟩ ⟨k, n', s'⟩ = bb at *
    have HB := Lib.hid hb
    have HS := Lib.hid hs
    clear hb hs
    go_enter Try.func23, Try.ntmps23
    go_wp2_with fail
    refine (HB.out _).mono ?_
    rintro e w1 ⟨rfl, hb1⟩
    have R1 := Lib.hid ((box3 w _ _ 0 0 ⟨#[]⟩).then_ hb1)
    have D1 := Lib.hid (below3 hb1)
    have c := R1.out.c3
    have f := R1.out.fz
    clear hb1
    go_wp2_with fail
    try simp only [Exit.inBlock, Exit.then]
    refine bodyPost_ret (box_ret2 rfl rfl rfl (R1.out.put _ _ _)) rfl ?_
    exact ⟨ret_v HS.out, below_put D1.out lt2 _ _ _⟩
  · have hk : (k != k') = true := by rw [bne_iff_ne]; exact h
    have HK := Lib.hid h
    clear h
    go_enter Try.func23, Try.ntmps23
    go_wp2_with fail
    try simp only [Exit.inBlock, Exit.then]
    refine bodyPost_ret (box_ret2 rfl rfl rfl (box3 _ _ _ _ _ _)) rfl ?_
    exact ⟨ret_v (if_neg HK.out), below3 (Below.refl _ _)⟩

theorem fless_is (a b : Vl) (ha : a.s.size ≤ maxLen) (hb : b.s.size ≤ maxLen) (x : Bool) (e : Int) (h : lessOf a b = (x, e)) (w : World) :
    Calls Try.prog 32 #[.agg #[.int .i64 a.k, .int .i64 a.n, .string a.s], .agg #[.int .i64 b.k, .int .i64 b.n, .string b.s]] w fun z w' => z = .returned (.tuple #[.bool x, .int .i64 e]) ∧ Below w.heap.size w w' := by
  have := less_any a b ha hb w
  rwa [h] at this

set_option maxHeartbeats 1600000 in
theorem fless_any (a b : Vl) (ha : a.s.size ≤ maxLen) (hb : b.s.size ≤ maxLen) (w : World) : Calls Try.prog 24 #[a.val, b.val] w fun e w' => e = .returned (.tuple #[(lessV a b).1.val, .int .i64 (lessV a b).2]) ∧ Below w.heap.size w w' := by
  obtain ⟨x, e, hx⟩ : ∃ x e, lessOf a b = (x, e) := ⟨_, _, rfl⟩
  have hc := fless_is a b ha hb x e hx
  have hl : lessV a b = if e = 0 then (truthV x, 0) else (noneV, e) := by unfold lessV; rw [hx]
  generalize lessV a b = R at *
  obtain ⟨k, n, s⟩ := a
  obtain ⟨k', n', s'⟩ := b
  show Calls _ _ #[.agg #[.int .i64 k, .int .i64 n, .string s], .agg #[.int .i64 k', .int .i64 n', .string s']] w _
  have HC := Lib.hid hc
  clear hc hx
  by_cases h : e = 0
  · subst h
    rw [if_pos rfl] at hl
    have HL := Lib.hid hl
    have HB := Lib.hid (ftruth_any x)
    clear hl
    go_enter Try.func24, Try.ntmps24
    go_wp2_with fail
    refine (HC.out _).mono ?_
    rintro e w1 ⟨rfl, hb1⟩
    have R1 := Lib.hid ((box3 w _ _ 0 0 ⟨#[]⟩).then_ hb1)
    have D1 := Lib.hid (below3 hb1)
    clear hb1
    go_wp2_with fail
    refine (HB.out _).mono ?_
    rintro e w2 ⟨rfl, hb2⟩
    have R2 := Lib.hid (R1.out.then_ hb2)
    have D2 := Lib.hid (below_step D1.out hb2)
    have c := R2.out.c3
    have f := R2.out.fz
    clear hb2 R1 D1
    go_wp2_with fail
    try simp only [Exit.inBlock, Exit.then]
    refine bodyPost_ret (box_ret2 rfl rfl rfl (R2.out.put _ _ _)) rfl ?_
    exact ⟨ret_v HL.out, below_put D2.out lt2 _ _ _⟩
  · rw [if_neg h] at hl
    have HL := Lib.hid hl
    have he : (e != 0) = true := by rw [bne_iff_ne]; exact h
    clear hl h
    go_enter Try.func24, Try.ntmps24
    go_wp2_with fail
    refine (HC.out _).mono ?_
    rintro e' w1 ⟨rfl, hb1⟩
    have R1 := Lib.hid ((box3 w _ _ 0 0 ⟨#[]⟩).then_ hb1)
    have D1 := Lib.hid (below3 hb1)
    have c := R1.out.c3
    have f := R1.out.fz
    clear hb1
    go_wp2_with fail
    try simp only [Exit.inBlock, Exit.then]
    refine bodyPost_ret (box_ret2 rfl rfl rfl (R1.out.put _ _ _)) rfl ?_
    exact ⟨ret_v HL.out, below_put D1.out lt2 _ _ _⟩

set_option maxHeartbeats 1600000 in
theorem allright_any {w : World} {B n c : Nat} {A : Option Addr} {l : List Vl} (h : Vs w B A n c l) (hB : B ≤ w.heap.size) :
    Calls Try.prog 20 #[.slice A n c] w fun e w' => e = .returned (.bool (allR l)) ∧ Below w.heap.size w w' := by
  have hlen := h.1
  have hcap := h.2.2.1
  have hle := h.2.1
  unfold maxLen at hcap
  have HV := Lib.hid h
  have HL := Lib.hid hlen
  clear h hlen
  go_enter Try.func20, Try.ntmps20
  go_wp2_with fail
  go_loopw [7] (fun i wr => ∃ k : Nat, k ≤ n ∧ i = .int .i64 k ∧ RightTo l k ∧ Below w.heap.size w wr) (fun i _ => n - (intOf i).toNat)
  case atStart => exact ⟨0, Nat.zero_le _, rfl, fun j x _ hj => by omega, Below.refl _ _⟩
  case round =>
    obtain ⟨k, hk, rfl, ht, hb⟩ := hrel
    have HT := Lib.hid ht
    have HB := Lib.hid hb
    by_cases hlt : k < n
    · obtain ⟨b, o, x, rfl, hbB, hx, hok, x0, x1, x2⟩ := (HV.out.below (hb.mono hB)).at_ hlt
      obtain ⟨kx, nx, sx⟩ := x
      have HX := Lib.hid hx
      have qr := right_any kx nx sx hok.2.2
      have D1 := Lib.hid (hb.alloc hb.size (.cells #[.int .i64 kx, .int .i64 nx, .string sx] 26))
      clear ht hb hx hok
      by_cases hr : RightV kx nx sx.data.toList
      · have HR : Hid (Vl.right ⟨kx, nx, sx⟩) := hr
        rw [decide_eq_true hr] at qr
        have QR := Lib.hid qr
        clear qr hr
        go_wp2_with fail
        refine (QR.out _).mono ?_
        rintro e w2 ⟨rfl, hb2⟩
        have D2 := Lib.hid (below_step D1.out hb2)
        clear hb2
        go_wp2_with fail
        go_roundw
        case rel => exact ⟨k + 1, by omega, by go_num, HT.out.step HX.out HR.out, D2.out⟩
        case measure => simp [intOf]; omega
      · have HR : Hid (¬ Vl.right ⟨kx, nx, sx⟩) := hr
        rw [decide_eq_false hr] at qr
        have QR := Lib.hid qr
        clear qr hr
        go_wp2_with fail
        refine (QR.out _).mono ?_
        rintro e w2 ⟨rfl, hb2⟩
        have D2 := Lib.hid (below_step D1.out hb2)
        clear hb2
        go_wp2_with fail
        go_ret
        exact ⟨ret_bool (allR_bad HX.out HR.out).symm, D2.out⟩
    · obtain rfl : k = n := by omega
      clear ht hb
      go_wp2_with fail
      go_ret
      exact ⟨ret_bool (HT.out.all HL.out).symm, HB.out⟩
end Go.Proofs.Ytjcegpakacedoaa
