/- PackRuns from the functions' contracts, in any world. -/
import Derived.Test.YtkmpckfpoaakfaaRText
import Derived.Test.YtkmpckfpoaakfaaSame
namespace Go.Proofs.Ytkmpckfpoaakfaa
open Go.RowKit

theorem Sl.lit (w : World) (t : TypeId) (cs : List Value) (n : Nat) (hn : cs.length = n) (h63 : n ≤ maxLen) : Sl (w.alloc (.cells cs.toArray t)) (w.heap.size + 1) (some ⟨w.heap.size, 0, none⟩) n n cs := by
  refine ⟨hn, Nat.le_refl _, h63, .inr ⟨w.heap.size, 0, rfl, by omega, fun j u hu => ?_⟩⟩
  have := (Ob.made w t cs.toArray).cell j
  rw [Nat.zero_add, this]
  simpa using hu

theorem same_true {w : World} {B B' n c n' c' : Nat} {A A' : Option Addr} {l m : List UInt8} (h : Sl w B A n c (bv l)) (h' : Sl w B' A' n' c' (bv m)) (e : l = m) :
    Calls Try.prog 14 #[.slice A n c, .slice A' n' c'] w fun e w' => e = .returned (.bool true) ∧ Below w.heap.size w w' :=
  (same_any h h').mono fun _ _ hh => ⟨by rw [hh.1, decide_eq_true e], by obtain ⟨k, hk⟩ := hh.2; rw [hk]; exact below_drewN (Below.refl _ _) k⟩

theorem Below.lit {w w' : World} {o : Obj} (h : Below (w.alloc o).heap.size (w.alloc o) w') : Below w.heap.size w w' := ((Below.refl _ w).alloc (Nat.le_refl _) o).trans (h.mono (by simp))
theorem Sl.lit_keep {w : World} {B n c : Nat} {A : Option Addr} {xs : List Value} (h : Sl w B A n c xs) (hB : B ≤ w.heap.size) (o : Obj) : Sl (w.alloc o) B A n c xs := h.keep fun k hk => Below.heap_alloc w o k (by omega)
theorem num_nil (w : World) (k : Int) (hk1 : -9223372036854775808 ≤ k) (hk2 : k ≤ 9223372036854775807) :
    Calls Try.prog 15 #[.slice none 0 0, .int .i64 k] w fun e w' => ∃ A n c, e = .returned (.slice A n c) ∧ w'.ownsRow w.heap.size 5 1 (.slice A n c) n (bv (numB k)) ∧ Below w.heap.size w w' :=
  num_any (l := []) (Sl.nil_ w 0) (by omega) (by omega) hk1 hk2
theorem text_nil (w : World) (s : ByteArray) (hs : s.size ≤ 35184372088832) :
    Calls Try.prog 16 #[.slice none 0 0, .string s] w fun e w' => ∃ A n c, e = .returned (.slice A n c) ∧ w'.ownsRow w.heap.size 5 1 (.slice A n c) n (bv (textB s.data.toList)) ∧ Below w.heap.size w w' :=
  text_any (l := []) (Sl.nil_ w 0) (by omega) (by omega) hs

theorem numB_0 : numB 0 = [0] := by unfold numB zig; simp; rw [enc_small (by omega)]; rfl
theorem numB_m1 : numB (-1) = [1] := by unfold numB zig; simp; rw [enc_small (by omega)]; rfl
theorem numB_64 : numB 64 = [128, 1] := by unfold numB zig; simp; rw [enc_big (by omega), enc_small (by omega)]; rfl
theorem textB_ab : textB [97, 98] = [4, 97, 98] := by unfold textB numB zig; simp; rw [enc_small (by omega)]; rfl

set_option maxHeartbeats 3200000 in
theorem runs_any (w : World) : Calls Try.prog 3 #[] w fun e w' => e = .returned (.bool true) ∧ Below w.heap.size w w' := by
  have e1 : rText [4, 97] 0 0 9 = ([], 0, 7) := by decide
  have e2 : rNum [128, 0] 0 0 = (0, 0, 7) := by decide
  have E1 := Lib.hid e1
  have E2 := Lib.hid e2
  clear e1 e2
  go_enter Try.func3, Try.ntmps3
  go_wp2_with fail
  refine (read_any (l := [4, 97]) (Sl.lit w 5 (bv [4, 97]) 2 rfl (by decide)) (by omega)).mono ?_
  rintro e w1 ⟨r, rfl, hr1, hb1⟩
  have B1 := Lib.hid (Below.lit hb1)
  have R1 := Lib.hid hr1
  clear hr1 hb1
  go_wp2_with fail
  refine (read_any (l := [128, 0]) (Sl.lit w1 5 (bv [128, 0]) 2 rfl (by decide)) (by omega)).mono ?_
  rintro e w2 ⟨q, rfl, hq1, hb2⟩
  have R2 := Lib.hid (R1.out.then_ (Below.lit hb2))
  have B2 := Lib.hid (B1.out.trans ((Below.lit hb2).mono B1.out.size))
  have Q2 := Lib.hid hq1
  have hrq : r < (w1.alloc (.cells (bv [128, 0]).toArray 5)).heap.size := by have := R1.out.lt; simp; omega
  have hwr : (w.alloc (.cells (bv [4, 97]).toArray 5)).heap.size ≤ r := by obtain ⟨_, _, _, _, _, _, _, h, _⟩ := R1.out; exact h
  have hwq : (w1.alloc (.cells (bv [128, 0]).toArray 5)).heap.size ≤ q := by obtain ⟨_, _, _, _, _, _, _, h, _⟩ := Q2.out; exact h
  have HRQ := Lib.hid hrq
  have HWR : Hid (w.heap.size ≤ r) := by show _ ≤ _; simp at hwr; omega
  have HWQ : Hid (w.heap.size ≤ q) := by show _ ≤ _; simp at hwq; have := B1.out.size; omega
  clear hq1 hb2 hrq hwr hwq
  go_wp2_with fail
  have c3 := rtext_any (most := 9) R2.out
  rw [E1.out] at c3
  refine c3.mono ?_
  clear c3
  rintro e w3 ⟨rfl, hr3, ho3⟩
  have R3 := Lib.hid hr3
  have Q3 := Lib.hid (Q2.out.only ho3 (.inr HRQ.out))
  have B3 := Lib.hid (B2.out.trans (ho3.below B2.out.size HWR.out))
  clear hr3 ho3
  go_wp2_with fail
  have c4 := rnum_any Q3.out
  rw [E2.out] at c4
  refine c4.mono ?_
  clear c4
  rintro e w4 ⟨rfl, hq4, ho4⟩
  have R4 := Lib.hid (R3.out.only ho4 (.inl (by have h1 := HRQ.out; obtain ⟨_, _, _, _, _, _, _, h, _⟩ := Q2.out; exact Nat.lt_of_lt_of_le h1 h)))
  have Q4 := Lib.hid hq4
  have B4 := Lib.hid (B3.out.trans (ho4.below B3.out.size HWQ.out))
  clear hq4 ho4
  go_wp2_with fail
  refine (num_nil w4 0 (by omega) (by omega)).mono ?_
  rintro e w5 ⟨A5, n5, c5, rfl, hown5, hb5⟩
  have R5 := Lib.hid (R4.out.then_ hb5)
  have Q5 := Lib.hid (Q4.out.then_ hb5)
  have B5 := Lib.hid (B4.out.trans (hb5.mono B4.out.size))
  have S5 := Lib.hid ((Sl.of_own hown5).lit_keep (Nat.le_refl _) (.cells (bv [0]).toArray 5))
  clear hown5 hb5
  go_wp2_with fail
  refine (same_true S5.out (Sl.lit w5 5 (bv [0]) 1 rfl (by decide)) numB_0).mono ?_
  rintro e w6 ⟨rfl, hb6⟩
  have R6 := Lib.hid (R5.out.then_ (Below.lit hb6))
  have Q6 := Lib.hid (Q5.out.then_ (Below.lit hb6))
  have B6 := Lib.hid (B5.out.trans ((Below.lit hb6).mono B5.out.size))
  clear hb6
  go_wp2_with fail
  refine (num_nil w6 (-1) (by omega) (by omega)).mono ?_
  rintro e w7 ⟨A7, n7, c7, rfl, hown7, hb7⟩
  have R7 := Lib.hid (R6.out.then_ hb7)
  have Q7 := Lib.hid (Q6.out.then_ hb7)
  have B7 := Lib.hid (B6.out.trans (hb7.mono B6.out.size))
  have S7 := Lib.hid ((Sl.of_own hown7).lit_keep (Nat.le_refl _) (.cells (bv [1]).toArray 5))
  clear hown7 hb7
  go_wp2_with fail
  refine (same_true S7.out (Sl.lit w7 5 (bv [1]) 1 rfl (by decide)) numB_m1).mono ?_
  rintro e w8 ⟨rfl, hb8⟩
  have R8 := Lib.hid (R7.out.then_ (Below.lit hb8))
  have Q8 := Lib.hid (Q7.out.then_ (Below.lit hb8))
  have B8 := Lib.hid (B7.out.trans ((Below.lit hb8).mono B7.out.size))
  clear hb8
  go_wp2_with fail
  refine (num_nil w8 64 (by omega) (by omega)).mono ?_
  rintro e w9 ⟨A9, n9, c9, rfl, hown9, hb9⟩
  have R9 := Lib.hid (R8.out.then_ hb9)
  have Q9 := Lib.hid (Q8.out.then_ hb9)
  have B9 := Lib.hid (B8.out.trans (hb9.mono B8.out.size))
  have S9 := Lib.hid ((Sl.of_own hown9).lit_keep (Nat.le_refl _) (.cells (bv [128, 1]).toArray 5))
  clear hown9 hb9
  go_wp2_with fail
  refine (same_true S9.out (Sl.lit w9 5 (bv [128, 1]) 2 rfl (by decide)) numB_64).mono ?_
  rintro e w10 ⟨rfl, hb10⟩
  have R10 := Lib.hid (R9.out.then_ (Below.lit hb10))
  have Q10 := Lib.hid (Q9.out.then_ (Below.lit hb10))
  have B10 := Lib.hid (B9.out.trans ((Below.lit hb10).mono B9.out.size))
  clear hb10
  go_wp2_with fail
  refine (text_nil w10 ⟨#[97, 98]⟩ (by decide)).mono ?_
  rintro e w11 ⟨A11, n11, c11, rfl, hown11, hb11⟩
  have R11 := Lib.hid (R10.out.then_ hb11)
  have Q11 := Lib.hid (Q10.out.then_ hb11)
  have B11 := Lib.hid (B10.out.trans (hb11.mono B10.out.size))
  have S11 := Lib.hid ((Sl.of_own hown11).lit_keep (Nat.le_refl _) (.cells (bv [4, 97, 98]).toArray 5))
  clear hown11 hb11
  go_wp2_with fail
  refine (same_true S11.out (Sl.lit w11 5 (bv [4, 97, 98]) 3 rfl (by decide)) textB_ab).mono ?_
  rintro e w12 ⟨rfl, hb12⟩
  have R12 := Lib.hid (R11.out.then_ (Below.lit hb12))
  have Q12 := Lib.hid (Q11.out.then_ (Below.lit hb12))
  have B12 := Lib.hid (B11.out.trans ((Below.lit hb12).mono B11.out.size))
  clear hb12
  go_wp2_with fail
  refine (wrong_any R12.out).mono ?_
  rintro e w13 ⟨rfl, rfl⟩
  go_wp2_with fail
  refine (wrong_any Q12.out).mono ?_
  rintro e w13 ⟨rfl, rfl⟩
  go_wp2_with fail
  refine (at_any R12.out).mono ?_
  rintro e w13 ⟨rfl, rfl⟩
  go_wp2_with fail
  refine (at_any Q12.out).mono ?_
  rintro e w13 ⟨rfl, rfl⟩
  go_wp2_with fail
  go_ret
  exact ⟨rfl, B12.out⟩
end Go.Proofs.Ytkmpckfpoaakfaa
