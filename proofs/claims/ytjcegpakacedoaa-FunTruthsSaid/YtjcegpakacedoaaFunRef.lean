/- The reference's Call. -/
import Derived.Test.YtjcegpakacedoaaFunCalls
import Derived.Lib.QuietBelow
namespace Go.Proofs.Ytjcegpakacedoaa
set_option linter.unusedVariables false
open Go.RowKit Go.Sort

theorem refless_is (a b : Vl) (ha : a.s.size ≤ maxLen) (hb : b.s.size ≤ maxLen) (x : Bool) (e : Int) (h : lessOf a b = (x, e)) (w : World) :
    Calls Try.prog 29 #[a.val, b.val] w fun z w' => z = .returned (.tuple #[.bool x, .int .i64 e]) ∧ Below w.heap.size w w' := by
  have := refless_any a b ha hb w
  rwa [h] at this
theorem refright_is {k n : Int} {s : ByteArray} {b : Bool} (hb : decide (Vl.right ⟨k, n, s⟩) = b) (hs : s.size ≤ maxLen) (w : World) :
    Calls Try.prog 27 #[.agg #[.int .i64 k, .int .i64 n, .string s]] w fun e w' => e = .returned (.bool b) ∧ Below w.heap.size w w' := by
  have := refright_any k n s hs w
  rwa [show decide (RightV k n s.data.toList) = b from hb] at this

set_option maxHeartbeats 6400000 in
set_option maxRecDepth 100000 in
theorem refcall_bad1 {w : World} {B n c : Nat} {A : Option Addr} {l : List Vl} (h : Vs w B A n c l) (hB : B ≤ w.heap.size) (hn : n ≤ 1000000) (op : Int) (ha : allR l = false) :
    Calls Try.prog 18 #[.int .i64 op, .slice A n c] w fun e w' => e = .returned (.tuple #[(callV op l).1.val, .int .i64 (callV op l).2]) ∧ Below w.heap.size w w' := by
  have hlen := h.1
  have hcap := h.2.2.1
  have hle := h.2.1
  unfold maxLen at hcap
  have HV := Lib.hid h
  have HBB := Lib.hid hB
  have HL := Lib.hid hlen
  have HA := Lib.hid ha
  have HQ := Lib.hid (call_bad (op := op) ha)
  clear ha h hlen hB
  go_enter Try.func18, Try.ntmps18
  go_wp2_with fail
  go_loopw [17] (fun i wr => ∃ k : Nat, k ≤ n ∧ i = .int .i64 k ∧ RightTo l k ∧ Bx wr w.heap.size 0 0 ⟨#[]⟩ ∧ Below w.heap.size w wr) (fun i _ => n - (intOf i).toNat)
  case atStart => exact ⟨0, Nat.zero_le _, rfl, fun j x _ hj => by omega, Bx.made _ _ _ _, below1 _ _⟩
  case round =>
    obtain ⟨k, hk, rfl, ht, hbx, hb⟩ := hrel
    by_cases hlt : k < n
    · obtain ⟨b, o, x, rfl, hbB, hx, hok, x0, x1, x2⟩ := (HV.out.below (hb.mono HBB.out)).at_ hlt
      have HT := Lib.hid ht
      have HX := Lib.hid hx
      have D1 := Lib.hid (hb.alloc hb.size (.cells #[.int .i64 x.k, .int .i64 x.n, .string x.s] 26))
      have R1 := Lib.hid (hbx.alloc (.cells #[.int .i64 x.k, .int .i64 x.n, .string x.s] 26))
      obtain ⟨kx, nx, sx⟩ := x
      by_cases hr : Vl.right ⟨kx, nx, sx⟩
      · have HR := Lib.hid hr
        have QR := Lib.hid (refright_is (decide_eq_true hr) hok.2.2)
        clear ht hb hx hok hbx hr
        go_wp2_with fail
        refine (QR.out _).mono ?_
        rintro e w2 ⟨rfl, hb2⟩
        have D2 := Lib.hid (below_step D1.out hb2)
        have R2 := Lib.hid (R1.out.then_ hb2)
        have c0 := R2.out.c3
        have f0 := R2.out.fz
        clear hb2
        go_wp2_with fail
        go_roundw
        case rel => exact ⟨k + 1, by omega, by go_num, HT.out.step HX.out HR.out, R2.out, D2.out⟩
        case measure => simp [intOf]; omega
      · have HR := Lib.hid hr
        have QR := Lib.hid (refright_is (decide_eq_false hr) hok.2.2)
        clear ht hb hx hok hbx hr
        go_wp2_with fail
        refine (QR.out _).mono ?_
        rintro e w2 ⟨rfl, hb2⟩
        have D2 := Lib.hid (below_step D1.out hb2)
        have R2 := Lib.hid (R1.out.then_ hb2)
        have c0 := R2.out.c3
        have f0 := R2.out.fz
        clear hb2
        go_wp2_with fail
        try simp only [Exit.inBlock, Exit.then]
        refine bodyPost_ret (box_ret2 rfl rfl rfl (R2.out.put _ _ _)) rfl ?_
        exact ⟨ret_v HQ.out, below_put D2.out (Nat.le_refl _) _ _ _⟩
    · obtain rfl : k = n := by omega
      exact absurd ((ht.all HL.out).symm.trans HA.out) (by decide)

set_option maxHeartbeats 6400000 in
set_option maxRecDepth 100000 in
theorem refcall_bad2 {w : World} {B n c : Nat} {A : Option Addr} {l : List Vl} (h : Vs w B A n c l) (hB : B ≤ w.heap.size) (hn : n ≤ 1000000) (op : Int) (ha : allR l = true) (hk : ¬ (6 ≤ op ∧ op ≤ 13)) :
    Calls Try.prog 18 #[.int .i64 op, .slice A n c] w fun e w' => e = .returned (.tuple #[(callV op l).1.val, .int .i64 (callV op l).2]) ∧ Below w.heap.size w w' := by
  have hlen := h.1
  have hcap := h.2.2.1
  have hle := h.2.1
  unfold maxLen at hcap
  have HV := Lib.hid h
  have HBB := Lib.hid hB
  have HL := Lib.hid hlen
  have HA := Lib.hid (allR_iff.1 ha)
  have HQ := Lib.hid (call_op (l := l) hk)
  clear ha h hlen hB
  by_cases h6 : op < 6
  · have h11 : (op == 11) = false := by rw [beq_eq_false_iff_ne]; omega
    clear hk
    go_enter Try.func18, Try.ntmps18
    go_wp2_with fail
    go_loopw [17] (fun i wr => ∃ k : Nat, k ≤ n ∧ i = .int .i64 k ∧ RightTo l k ∧ Bx wr w.heap.size 0 0 ⟨#[]⟩ ∧ Below w.heap.size w wr) (fun i _ => n - (intOf i).toNat)
    case atStart => exact ⟨0, Nat.zero_le _, rfl, fun j x _ hj => by omega, Bx.made _ _ _ _, below1 _ _⟩
    case round =>
      obtain ⟨k, hk, rfl, ht, hbx, hb⟩ := hrel
      by_cases hlt : k < n
      · obtain ⟨b, o, x, rfl, hbB, hx, hok, x0, x1, x2⟩ := (HV.out.below (hb.mono HBB.out)).at_ hlt
        have HT := Lib.hid ht
        have HX := Lib.hid hx
        have D1 := Lib.hid (hb.alloc hb.size (.cells #[.int .i64 x.k, .int .i64 x.n, .string x.s] 26))
        have R1 := Lib.hid (hbx.alloc (.cells #[.int .i64 x.k, .int .i64 x.n, .string x.s] 26))
        have hr := HA.out x (List.mem_of_getElem? hx)
        obtain ⟨kx, nx, sx⟩ := x
        have HR := Lib.hid hr
        have QR := Lib.hid (refright_is (decide_eq_true hr) hok.2.2)
        clear ht hb hx hok hbx hr
        go_wp2_with fail
        refine (QR.out _).mono ?_
        rintro e w2 ⟨rfl, hb2⟩
        have D2 := Lib.hid (below_step D1.out hb2)
        have R2 := Lib.hid (R1.out.then_ hb2)
        have c0 := R2.out.c3
        have f0 := R2.out.fz
        clear hb2
        go_wp2_with fail
        go_roundw
        case rel => exact ⟨k + 1, by omega, by go_num, HT.out.step HX.out HR.out, R2.out, D2.out⟩
        case measure => simp [intOf]; omega
      · obtain rfl : k = n := by omega
        have c0 := hbx.c3
        have f0 := hbx.fz
        have R1 := Lib.hid hbx
        have D1 := Lib.hid hb
        clear ht hb hbx
        go_wp2_with fail
        try simp only [Exit.inBlock, Exit.then]
        refine bodyPost_ret (box_ret2 rfl rfl rfl (R1.out.put _ _ _)) rfl ?_
        exact ⟨ret_v HQ.out, below_put D1.out (Nat.le_refl _) _ _ _⟩
  · have h13 : 13 < op := by omega
    have h11 : (op == 11) = false := by rw [beq_eq_false_iff_ne]; omega
    clear hk
    go_enter Try.func18, Try.ntmps18
    go_wp2_with fail
    go_loopw [17] (fun i wr => ∃ k : Nat, k ≤ n ∧ i = .int .i64 k ∧ RightTo l k ∧ Bx wr w.heap.size 0 0 ⟨#[]⟩ ∧ Below w.heap.size w wr) (fun i _ => n - (intOf i).toNat)
    case atStart => exact ⟨0, Nat.zero_le _, rfl, fun j x _ hj => by omega, Bx.made _ _ _ _, below1 _ _⟩
    case round =>
      obtain ⟨k, hk, rfl, ht, hbx, hb⟩ := hrel
      by_cases hlt : k < n
      · obtain ⟨b, o, x, rfl, hbB, hx, hok, x0, x1, x2⟩ := (HV.out.below (hb.mono HBB.out)).at_ hlt
        have HT := Lib.hid ht
        have HX := Lib.hid hx
        have D1 := Lib.hid (hb.alloc hb.size (.cells #[.int .i64 x.k, .int .i64 x.n, .string x.s] 26))
        have R1 := Lib.hid (hbx.alloc (.cells #[.int .i64 x.k, .int .i64 x.n, .string x.s] 26))
        have hr := HA.out x (List.mem_of_getElem? hx)
        obtain ⟨kx, nx, sx⟩ := x
        have HR := Lib.hid hr
        have QR := Lib.hid (refright_is (decide_eq_true hr) hok.2.2)
        clear ht hb hx hok hbx hr
        go_wp2_with fail
        refine (QR.out _).mono ?_
        rintro e w2 ⟨rfl, hb2⟩
        have D2 := Lib.hid (below_step D1.out hb2)
        have R2 := Lib.hid (R1.out.then_ hb2)
        have c0 := R2.out.c3
        have f0 := R2.out.fz
        clear hb2
        go_wp2_with fail
        go_roundw
        case rel => exact ⟨k + 1, by omega, by go_num, HT.out.step HX.out HR.out, R2.out, D2.out⟩
        case measure => simp [intOf]; omega
      · obtain rfl : k = n := by omega
        have c0 := hbx.c3
        have f0 := hbx.fz
        have R1 := Lib.hid hbx
        have D1 := Lib.hid hb
        clear ht hb hbx
        go_wp2_with fail
        try simp only [Exit.inBlock, Exit.then]
        refine bodyPost_ret (box_ret2 rfl rfl rfl (R1.out.put _ _ _)) rfl ?_
        exact ⟨ret_v HQ.out, below_put D1.out (Nat.le_refl _) _ _ _⟩

set_option maxHeartbeats 6400000 in
set_option maxRecDepth 100000 in
theorem refcall_bad3 {w : World} {B n c : Nat} {A : Option Addr} {l : List Vl} (h : Vs w B A n c l) (hB : B ≤ w.heap.size) (hn : n ≤ 1000000) (op : Int) (ha : allR l = true) (hk : 6 ≤ op ∧ op ≤ 13) (hl : l.length ≠ needs op) :
    Calls Try.prog 18 #[.int .i64 op, .slice A n c] w fun e w' => e = .returned (.tuple #[(callV op l).1.val, .int .i64 (callV op l).2]) ∧ Below w.heap.size w w' := by
  have hlen := h.1
  have hcap := h.2.2.1
  have hle := h.2.1
  unfold maxLen at hcap
  have HV := Lib.hid h
  have HBB := Lib.hid hB
  have HL := Lib.hid hlen
  have HA := Lib.hid (allR_iff.1 ha)
  have HQ := Lib.hid (call_len hl)
  have h6 : ¬ op < 6 := by omega
  have h13 : ¬ 13 < op := by omega
  clear ha h hB hk
  by_cases ho : op = 11
  · subst ho
    have hne : ((n : Int) != 1) = true := by rw [bne_iff_ne]; intro hh; exact hl (by have : needs 11 = 1 := rfl; omega)
    clear hl hlen
    go_enter Try.func18, Try.ntmps18
    go_wp2_with fail
    go_loopw [17] (fun i wr => ∃ k : Nat, k ≤ n ∧ i = .int .i64 k ∧ RightTo l k ∧ Bx wr w.heap.size 0 0 ⟨#[]⟩ ∧ Below w.heap.size w wr) (fun i _ => n - (intOf i).toNat)
    case atStart => exact ⟨0, Nat.zero_le _, rfl, fun j x _ hj => by omega, Bx.made _ _ _ _, below1 _ _⟩
    case round =>
      obtain ⟨k, hk, rfl, ht, hbx, hb⟩ := hrel
      by_cases hlt : k < n
      · obtain ⟨b, o, x, rfl, hbB, hx, hok, x0, x1, x2⟩ := (HV.out.below (hb.mono HBB.out)).at_ hlt
        have HT := Lib.hid ht
        have HX := Lib.hid hx
        have D1 := Lib.hid (hb.alloc hb.size (.cells #[.int .i64 x.k, .int .i64 x.n, .string x.s] 26))
        have R1 := Lib.hid (hbx.alloc (.cells #[.int .i64 x.k, .int .i64 x.n, .string x.s] 26))
        have hr := HA.out x (List.mem_of_getElem? hx)
        obtain ⟨kx, nx, sx⟩ := x
        have HR := Lib.hid hr
        have QR := Lib.hid (refright_is (decide_eq_true hr) hok.2.2)
        clear ht hb hx hok hbx hr
        go_wp2_with fail
        refine (QR.out _).mono ?_
        rintro e w2 ⟨rfl, hb2⟩
        have D2 := Lib.hid (below_step D1.out hb2)
        have R2 := Lib.hid (R1.out.then_ hb2)
        have c0 := R2.out.c3
        have f0 := R2.out.fz
        clear hb2
        go_wp2_with fail
        go_roundw
        case rel => exact ⟨k + 1, by omega, by go_num, HT.out.step HX.out HR.out, R2.out, D2.out⟩
        case measure => simp [intOf]; omega
      · obtain rfl : k = n := by omega
        have c0 := hbx.c3
        have f0 := hbx.fz
        have R1 := Lib.hid hbx
        have D1 := Lib.hid hb
        clear ht hb hbx
        go_wp2_with fail
        try simp only [Exit.inBlock, Exit.then]
        refine bodyPost_ret (box_ret2 rfl rfl rfl (R1.out.put _ _ _)) rfl ?_
        exact ⟨ret_v HQ.out, below_put D1.out (Nat.le_refl _) _ _ _⟩
  · have h11 : (op == 11) = false := by rw [beq_eq_false_iff_ne]; exact ho
    have hne : ((n : Int) != 2) = true := by rw [bne_iff_ne]; intro hh; exact hl (by have : needs op = 2 := if_neg ho; omega)
    clear hl hlen ho
    go_enter Try.func18, Try.ntmps18
    go_wp2_with fail
    go_loopw [17] (fun i wr => ∃ k : Nat, k ≤ n ∧ i = .int .i64 k ∧ RightTo l k ∧ Bx wr w.heap.size 0 0 ⟨#[]⟩ ∧ Below w.heap.size w wr) (fun i _ => n - (intOf i).toNat)
    case atStart => exact ⟨0, Nat.zero_le _, rfl, fun j x _ hj => by omega, Bx.made _ _ _ _, below1 _ _⟩
    case round =>
      obtain ⟨k, hk, rfl, ht, hbx, hb⟩ := hrel
      by_cases hlt : k < n
      · obtain ⟨b, o, x, rfl, hbB, hx, hok, x0, x1, x2⟩ := (HV.out.below (hb.mono HBB.out)).at_ hlt
        have HT := Lib.hid ht
        have HX := Lib.hid hx
        have D1 := Lib.hid (hb.alloc hb.size (.cells #[.int .i64 x.k, .int .i64 x.n, .string x.s] 26))
        have R1 := Lib.hid (hbx.alloc (.cells #[.int .i64 x.k, .int .i64 x.n, .string x.s] 26))
        have hr := HA.out x (List.mem_of_getElem? hx)
        obtain ⟨kx, nx, sx⟩ := x
        have HR := Lib.hid hr
        have QR := Lib.hid (refright_is (decide_eq_true hr) hok.2.2)
        clear ht hb hx hok hbx hr
        go_wp2_with fail
        refine (QR.out _).mono ?_
        rintro e w2 ⟨rfl, hb2⟩
        have D2 := Lib.hid (below_step D1.out hb2)
        have R2 := Lib.hid (R1.out.then_ hb2)
        have c0 := R2.out.c3
        have f0 := R2.out.fz
        clear hb2
        go_wp2_with fail
        go_roundw
        case rel => exact ⟨k + 1, by omega, by go_num, HT.out.step HX.out HR.out, R2.out, D2.out⟩
        case measure => simp [intOf]; omega
      · obtain rfl : k = n := by omega
        have c0 := hbx.c3
        have f0 := hbx.fz
        have R1 := Lib.hid hbx
        have D1 := Lib.hid hb
        clear ht hb hbx
        go_wp2_with fail
        try simp only [Exit.inBlock, Exit.then]
        refine bodyPost_ret (box_ret2 rfl rfl rfl (R1.out.put _ _ _)) rfl ?_
        exact ⟨ret_v HQ.out, below_put D1.out (Nat.le_refl _) _ _ _⟩
end Go.Proofs.Ytjcegpakacedoaa
