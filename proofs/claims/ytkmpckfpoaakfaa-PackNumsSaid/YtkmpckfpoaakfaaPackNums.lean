/- PackNums: the walk. -/
import Derived.Test.YtkmpckfpoaakfaaWithin
import Derived.Deep.RegionHeld3
namespace Go.Proofs.Ytkmpckfpoaakfaa
set_option linter.unusedVariables false
open Go.RowKit

theorem enc_len {u k : Nat} (h1 : 128 ^ k ≤ u) (h2 : u < 128 ^ (k + 1)) : (enc u).length = k + 1 := by
  have a := enc_len_ge u k h1
  have b := enc_len_le u k h2
  omega
theorem enc_len1 {u : Nat} (h : u < 128) : (enc u).length = 1 := by rw [enc_small h]; rfl

/-- What PackNums asks of the numbers at a size's edge. -/
def Edge (i X : Int) : Prop := 64 ≤ X ∧ X ≤ 36028797018963968 ∧ ((numB X).length : Int) = i + 1 ∧ ((numB (X - 1)).length : Int) = i ∧ ((numB (-X)).length : Int) = i

theorem edge_of {i : Nat} {X : Int} (h0 : 1 ≤ i) (h1 : 64 ≤ X) (h2 : X ≤ 36028797018963968) (h3 : 2 * X = ((128 ^ i : Nat) : Int)) : Edge i X := by
  obtain ⟨j, rfl⟩ : ∃ j, i = j + 1 := ⟨i - 1, by omega⟩
  have hp : (128 : Nat) ^ (j + 1) = 128 ^ j * 128 := Nat.pow_succ ..
  have hpp : (128 : Nat) ^ (j + 1 + 1) = 128 ^ (j + 1) * 128 := Nat.pow_succ ..
  have hpos : 0 < (128 : Nat) ^ j := Nat.pow_pos (by omega)
  refine ⟨h1, h2, ?_, ?_, ?_⟩
  · have : (numB X).length = j + 1 + 1 := enc_len (by unfold zig; rw [if_neg (by omega)]; omega) (by unfold zig; rw [if_neg (by omega)]; omega)
    omega
  · have : (numB (X - 1)).length = j + 1 := enc_len (by unfold zig; rw [if_neg (by omega)]; omega) (by unfold zig; rw [if_neg (by omega)]; omega)
    omega
  · have : (numB (-X)).length = j + 1 := enc_len (by unfold zig; rw [if_pos (by omega)]; omega) (by unfold zig; rw [if_pos (by omega)]; omega)
    omega

theorem shifts {i : Int} (h1 : 1 ≤ i) (h2 : i ≤ 8) : ∃ X : Int, Edge i X ∧ IntKind.i64.wrap (2 ^ ((7 * i).toNat - 1)) = X ∧ IntKind.i64.wrap (-2 ^ ((7 * i).toNat - 1)) = -X := by
  have hcases : i = 1 ∨ i = 2 ∨ i = 3 ∨ i = 4 ∨ i = 5 ∨ i = 6 ∨ i = 7 ∨ i = 8 := by omega
  rcases hcases with rfl | rfl | rfl | rfl | rfl | rfl | rfl | rfl
  · exact ⟨64, edge_of (i := 1) (by omega) (by omega) (by omega) (by decide), by decide +kernel, by decide +kernel⟩
  · exact ⟨8192, edge_of (i := 2) (by omega) (by omega) (by omega) (by decide), by decide +kernel, by decide +kernel⟩
  · exact ⟨1048576, edge_of (i := 3) (by omega) (by omega) (by omega) (by decide), by decide +kernel, by decide +kernel⟩
  · exact ⟨134217728, edge_of (i := 4) (by omega) (by omega) (by omega) (by decide), by decide +kernel, by decide +kernel⟩
  · exact ⟨17179869184, edge_of (i := 5) (by omega) (by omega) (by omega) (by decide), by decide +kernel, by decide +kernel⟩
  · exact ⟨2199023255552, edge_of (i := 6) (by omega) (by omega) (by omega) (by decide), by decide +kernel, by decide +kernel⟩
  · exact ⟨281474976710656, edge_of (i := 7) (by omega) (by omega) (by omega) (by decide), by decide +kernel, by decide +kernel⟩
  · exact ⟨36028797018963968, edge_of (i := 8) (by omega) (by omega) (by omega) (by decide), by decide +kernel, by decide +kernel⟩

/-- One byte just for what fits seven bits. -/
theorem numB_one {n : Int} : (numB n).length = 1 ↔ -64 ≤ n ∧ n ≤ 63 := by
  constructor
  · intro h
    by_cases hb : zig n < 128
    · unfold zig at hb; split at hb <;> omega
    · have := enc_len_ge (zig n) 1 (by omega)
      unfold numB at h; omega
  · intro h
    exact enc_len1 (by unfold zig; split <;> omega)

/-- Of two bytes or more the last is not nought. -/
theorem numB_last {n : Int} (h : (numB n).length ≠ 1) : ∃ c : UInt8, (numB n)[(numB n).length - 1]? = some c ∧ c ≠ 0 := by
  rcases enc_last (zig n) with h1 | ⟨l, c, h1, h2⟩
  · exact absurd h1 h
  · refine ⟨c, ?_, h2⟩
    unfold numB
    rw [h1]
    simp

/-- A number's bytes, anew: their length, and nothing that was there has changed. -/
theorem num_len (w : World) (k : Int) (hk1 : -9223372036854775808 ≤ k) (hk2 : k ≤ 9223372036854775807) :
    Calls Try.prog 15 #[.slice none 0 0, .int .i64 k] w fun e w' => ∃ A c, e = .returned (.slice A (numB k).length c) ∧ Below w.heap.size w w' :=
  (num_nil w k hk1 hk2).mono fun _ _ ⟨A, n, c, he, ho, hb⟩ => ⟨A, c, by rw [he, ← (by have := (Sl.of_own ho).len; rw [bv_len] at this; exact this : (numB k).length = n)], hb⟩

set_option maxHeartbeats 3200000 in
theorem packNums_walk (n : Int) (hn : (Lit.int .i64 n).wf = true) (k : Int) (hk : (Lit.int .i64 k).wf = true) (w : World) :
    Calls Try.prog 9 #[.int .i64 n, .int .i64 k] w fun e w' => e = .returned (.bool true) ∧ Below w.heap.size w w' := by
  obtain ⟨n1, n2⟩ := wf_bounds hn
  have hi := within_le (n := k) (lo := 1) (hi := 8) (by omega)
  have hlen := numB_len n1 n2
  have hpos := numB_pos n
  by_cases h1 : (numB n).length = 1
  · obtain ⟨r1, r2⟩ := numB_one.1 h1
    have H1 := Lib.hid h1
    have HI := Lib.hid hi
    clear h1 hlen hpos hi hn hk
    go_enter Try.func9, Try.ntmps9
    go_wp2_with fail
    refine (num_nil w n n1 n2).mono ?_
    rintro e w1 ⟨A1, m1, c1, rfl, hown, hb1⟩
    have S1 := Lib.hid (Sl.of_own hown)
    obtain rfl : m1 = 1 := by have := S1.out.len; rw [bv_len, H1.out] at this; omega
    have B1 := Lib.hid hb1
    clear hown hb1
    go_wp2_with fail
    refine (within_any (n := k) (lo := 1) (hi := 8) (by omega) (by omega) (by omega)).mono ?_
    rintro e w2 ⟨rfl, rfl⟩
    obtain ⟨i1, i2⟩ := HI.out
    generalize withinOf k 1 8 = i at *
    clear HI
    obtain ⟨X, hX, hs1, hs2⟩ := shifts i1 i2
    have hw1 : IntKind.i64.wrap (7 * i) = 7 * i := IntWalk.i64_in _ (by omega)
    have hw2 : IntKind.i64.wrap (7 * i - 1) = 7 * i - 1 := IntWalk.i64_in _ (by omega)
    have hw3 : IntKind.i64.wrap (X - 1) = X - 1 := IntWalk.i64_in _ (by have := hX.1; have := hX.2.1; omega)
    have ha := fun W => num_len W X (by have := hX.1; omega) (by have := hX.2.1; omega)
    have hb := fun W => num_len W (X - 1) (by have := hX.1; omega) (by have := hX.2.1; omega)
    have hc := fun W => num_len W (-X) (by have := hX.2.1; omega) (by have := hX.1; omega)
    obtain ⟨x1, x2, x3, x4, x5⟩ := hX
    generalize (numB X).length = lx at *
    generalize (numB (X - 1)).length = ly at *
    generalize (numB (-X)).length = lz at *
    have e3 : ((lx : Int) == i + 1) = true := by rw [beq_iff_eq]; exact x3
    have e4 : ((ly : Int) == i) = true := by rw [beq_iff_eq]; exact x4
    have e5 : ((lz : Int) == i) = true := by rw [beq_iff_eq]; exact x5
    have HA := Lib.hid ha
    have HB := Lib.hid hb
    have HC := Lib.hid hc
    clear ha hb hc x3 x4 x5 x1 x2
    go_wp2_with fail
    go_region_held3 (fun _ => True) (trivial) ((first
      | (go_at_call 15; (with_reducible refine (HA.out _).mono ?_); rintro e wa ⟨Aa, ca, rfl, hba⟩)
      | (go_at_call 15; (with_reducible refine (HB.out _).mono ?_); rintro e wb ⟨Ab, cb, rfl, hbb⟩)))
    have B2 := Lib.hid (below_step (below_step B1.out.drew hba) hbb)
    clear hba hbb
    go_wp2_with fail
    refine (HC.out _).mono ?_
    rintro e w3 ⟨A3, c3, rfl, hb3⟩
    have B3 := Lib.hid (below_step B2.out hb3)
    clear hb3
    go_wp2_with fail
    refine (runs_any _).mono ?_
    rintro e w5 ⟨rfl, hb5⟩
    have B5 := Lib.hid (below_step B3.out hb5)
    clear hb5
    go_wp2_with fail
    go_ret
    exact ⟨rfl, B5.out⟩
  · obtain ⟨cc, hcc, hc0⟩ := numB_last h1
    have hout : ¬(-64 ≤ n ∧ n ≤ 63) := fun h => h1 (numB_one.2 h)
    have HO := Lib.hid hout
    have H1 := Lib.hid h1
    have HI := Lib.hid hi
    have HCC := Lib.hid hcc
    have hx : ((cc.toNat : Int) == 0) = false := by
      rw [beq_eq_false_iff_ne]
      intro h
      exact hc0 (UInt8.toNat_inj.1 (by simpa using h))
    have HC0 := Lib.hid hc0
    generalize hL : (numB n).length = L at *
    have HLL := Lib.hid hL
    have hL2 : 2 ≤ L := by omega
    have hL1 : ((L : Int) == 1) = false := by rw [beq_eq_false_iff_ne]; omega
    clear h1 hpos hi hn hk hcc hc0 hout hL
    by_cases hlow : -64 ≤ n
    all_goals
      have hup : ¬ -64 ≤ n ∨ 63 < n := by have := HO.out; omega
      try (have hup2 : 63 < n := by omega)
      clear hup
      go_enter Try.func9, Try.ntmps9
      go_wp2_with fail
      refine (num_nil w n n1 n2).mono ?_
      rintro e w1 ⟨A1, m1, c1, rfl, hown, hb1⟩
      have hs1 := Sl.of_own hown
      obtain rfl : m1 = L := by have := hs1.len; rw [bv_len, HLL.out] at this; omega
      obtain ⟨b, o, u, rfl, _, hu, hcell⟩ := hs1.at_ (k := m1 - 1) (by omega)
      have hcv : w1.cell? ⟨b, o + (m1 - 1), none⟩ = some (.int .u8 (cc.toNat : Int)) := by
        rw [hcell, ← hu]
        simp only [bv, List.getElem?_map, HCC.out, Option.map_some]
      have B1 := Lib.hid hb1
      clear hown hb1 hs1 hu hcell
      go_wp2_with fail
      refine (within_any (n := k) (lo := 1) (hi := 8) (by omega) (by omega) (by omega)).mono ?_
      rintro e w2 ⟨rfl, rfl⟩
      obtain ⟨i1, i2⟩ := HI.out
      generalize withinOf k 1 8 = i at *
      clear HI
      obtain ⟨X, hX, hs1, hs2⟩ := shifts i1 i2
      have hw1 : IntKind.i64.wrap (7 * i) = 7 * i := IntWalk.i64_in _ (by omega)
      have hw2 : IntKind.i64.wrap (7 * i - 1) = 7 * i - 1 := IntWalk.i64_in _ (by omega)
      have hw3 : IntKind.i64.wrap (X - 1) = X - 1 := IntWalk.i64_in _ (by have := hX.1; have := hX.2.1; omega)
      have ha := fun W => num_len W X (by have := hX.1; omega) (by have := hX.2.1; omega)
      have hb := fun W => num_len W (X - 1) (by have := hX.1; omega) (by have := hX.2.1; omega)
      have hc := fun W => num_len W (-X) (by have := hX.2.1; omega) (by have := hX.1; omega)
      obtain ⟨x1, x2, x3, x4, x5⟩ := hX
      generalize (numB X).length = lx at *
      generalize (numB (X - 1)).length = ly at *
      generalize (numB (-X)).length = lz at *
      have e3 : ((lx : Int) == i + 1) = true := by rw [beq_iff_eq]; exact x3
      have e4 : ((ly : Int) == i) = true := by rw [beq_iff_eq]; exact x4
      have e5 : ((lz : Int) == i) = true := by rw [beq_iff_eq]; exact x5
      have HA := Lib.hid ha
      have HB := Lib.hid hb
      have HC := Lib.hid hc
      clear ha hb hc x3 x4 x5 x1 x2
      go_wp2_with fail
      go_region_held3 (fun _ => True) (trivial) ((first
        | (go_at_call 15; (with_reducible refine (HA.out _).mono ?_); rintro e wa ⟨Aa, ca, rfl, hba⟩)
        | (go_at_call 15; (with_reducible refine (HB.out _).mono ?_); rintro e wb ⟨Ab, cb, rfl, hbb⟩)))
      have B2 := Lib.hid (below_step (below_step B1.out.drew hba) hbb)
      clear hba hbb
      go_wp2_with fail
      refine (HC.out _).mono ?_
      rintro e w3 ⟨A3, c3, rfl, hb3⟩
      have B3 := Lib.hid (below_step B2.out hb3)
      clear hb3
      go_wp2_with fail
      refine (runs_any _).mono ?_
      rintro e w5 ⟨rfl, hb5⟩
      have B5 := Lib.hid (below_step B3.out hb5)
      clear hb5
      go_wp2_with fail
      go_ret
      exact ⟨rfl, B5.out⟩
end Go.Proofs.Ytkmpckfpoaakfaa
