/- SumSteps: the walk. -/
import Derived.Test.YtfehafeopoejgaaSumTells
namespace Go.Proofs.Ytfehafeopoejgaa
set_option linter.unusedVariables false
open Go.RowKit

/-- The chain over nothing, behind 0 and behind 1: two numbers. -/
theorem chain_two : ∃ a b : Nat, (∀ w : World, Calls Try.prog 11 #[.int .u64 0, .slice none 0 0] w fun e w' => e = .returned (.int .u64 (a : Int)) ∧ w = w') ∧
    (∀ w : World, Calls Try.prog 11 #[.int .u64 1, .slice none 0 0] w fun e w' => e = .returned (.int .u64 (b : Int)) ∧ w = w') ∧ a ≠ b :=
  ⟨chOf 0 [], chOf 1 [], fun w => chain_any (p := 0) (l := []) (by omega) (Sl.nil_ w 0), fun w => chain_any (p := 1) (l := []) (by omega) (Sl.nil_ w 0), chOf_0_1⟩

theorem chain_snoc {w : World} {B n c q : Nat} {A : Option Addr} {l : List UInt8} {z : UInt8} (hp : q < 18446744073709551616) (h : Sl w B A n c (bv (l ++ [z]))) :
    Calls Try.prog 11 #[.int .u64 (q : Int), .slice A n c] w fun e w' => e = .returned (.int .u64 (chStep (chOf q l) z.toNat : Int)) ∧ w = w' :=
  (chain_any hp h).mono fun _ _ ⟨he, hw⟩ => ⟨by rw [he, chOf_snoc]; exact Eq.refl _, hw⟩

theorem own_snoc {w : World} {base n c : Nat} {A : Option Addr} {l : List UInt8} {z : UInt8} (h : w.ownsRow base 5 1 (.slice A n c) n (bv l ++ [Value.int .u8 (z.toNat : Int)])) : Sl w w.heap.size A n c (bv (l ++ [z])) := by
  have e : bv (l ++ [z]) = bv l ++ [Value.int .u8 (z.toNat : Int)] := by rw [bv_app]; rfl
  rw [e]
  exact Sl.of_own h

set_option maxHeartbeats 6400000 in
theorem sumSteps_walk (w : World) (p : Int) (hp : (Lit.int .u64 p).wf = true) (A : Option Addr) (n c : Nat) (hl : ∃ l, Sl w w.heap.size A n c (bv l)) (y : Int) (hy : (Lit.int .u8 y).wf = true) :
    Calls Try.prog 6 #[.int .u64 p, .slice A n c, .int .u8 y] w fun e w' => e = .returned (.bool true) ∧ Below w.heap.size w w' := by
  obtain ⟨q, rfl, hq⟩ := wf_u64 hp
  obtain ⟨z, rfl⟩ := wf_u8 hy
  clear hp hy
  have HQ := Lib.hid hq
  clear hq
  have hz := z.toNat_lt
  obtain ⟨a, b, ha, hb, hab⟩ := chain_two
  have HA := Lib.hid ha
  have HB := Lib.hid hb
  have hne : ((a : Int) != (b : Int)) = true := by rw [bne_iff_ne]; omega
  clear ha hb hab
  obtain ⟨i, hi, hz0, hz1, hz2⟩ := info_parts u8info
  obtain ⟨l0, hl0⟩ := hl
  have hnc := hl0.le
  have hcap := hl0.cap
  unfold maxLen at hcap
  by_cases h100 : n ≤ 100
  case' pos =>
    obtain ⟨m, l, hl, hm, hmn⟩ : ∃ (m : Nat) (l : List UInt8), Sl w w.heap.size A m c (bv l) ∧ m ≤ 100 ∧ m = n := ⟨n, l0, hl0, h100, rfl⟩
    subst hmn
  case' neg =>
    obtain ⟨m, l, hl, hm, hmn⟩ : ∃ (m : Nat) (l : List UInt8), Sl w w.heap.size A m c (bv l) ∧ m ≤ 100 ∧ m = 100 := ⟨100, l0.take 100, by rw [bv_take]; exact hl0.take (by omega), by omega, rfl⟩
    subst hmn
  all_goals
    clear hl0
    have HL := Lib.hid hl
    have HLEN := sl_len hl
    clear hl
    have h1 := ch_xor (chOf_lt q l) (c := z.toNat) (by omega)
    have h2 := ch_mul (chOf q l) z.toNat
    go_enter Try.func6, Try.ntmps6
    go_wp2_with fail
    refine (chain_any HQ.out HL.out).mono ?_
    rintro e w1 ⟨rfl, rfl⟩
    unfold hv
    obtain ⟨A3, c3, w3, hap, hown3, hb3⟩ := append_row (P := Try.prog) (ty := 24) Try.underlying24 hi hz0 hz1 hz2 (own_empty w w.heap.size 5 (Nat.le_refl _)) (HL.out.lit_keep (Nat.le_refl _) (.cells #[] 5)) one_bv (by omega) (by simp)
    simp only [Nat.zero_add, List.nil_append] at hap hown3
    have HAP := Lib.hid hap
    have B3 := Lib.hid (((Below.refl _ w).alloc (Nat.le_refl _) (.cells #[] 5)).trans hb3)
    obtain ⟨A4, c4, w4, hap4, hown4, hb4⟩ := append_one (P := Try.prog) (ty := 24) Try.underlying24 hi hz0 hz1 hz2 hown3 (by omega) B3.out.size (z.toNat : Int)
    have HAP4 := Lib.hid hap4
    have S4 := Lib.hid (own_snoc hown4)
    have B4 := Lib.hid (B3.out.trans hb4)
    clear hap hown3 hb3 hap4 hown4 hb4
    go_wp2_with (at_builtin; first | (refine wpList_append_run (o := ⟨some 19, _, _, _, _, _⟩) rfl _ _ _ _ rfl rfl rfl HAP.out ?_) | (refine wpList_append_run (o := ⟨some 22, _, _, _, _, _⟩) rfl _ _ _ _ rfl rfl rfl HAP4.out ?_))
    refine (chain_snoc HQ.out S4.out).mono ?_
    rintro e w5 ⟨rfl, rfl⟩
    go_wp2_with fail
    refine (HA.out _).mono ?_
    rintro e w5 ⟨rfl, rfl⟩
    go_wp2_with fail
    refine (HB.out _).mono ?_
    rintro e w5 ⟨rfl, rfl⟩
    go_wp2_with fail
    refine (runs_any _).mono ?_
    rintro e w5 ⟨rfl, hb5⟩
    have B5 := Lib.hid (below_step B4.out hb5)
    clear hb5
    go_wp2_with fail
    go_ret
    exact ⟨rfl, B5.out⟩
end Go.Proofs.Ytfehafeopoejgaa
