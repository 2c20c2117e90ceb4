/- bailifflaw1.put: the items' bytes behind each other. -/
import Derived.Test.YtkmpckfpoaakfaaOpenItems
import Derived.Deep.RegionHeld3
namespace Go.Proofs.Ytkmpckfpoaakfaa
set_option linter.unusedVariables false
open Go.RowKit

theorem extract_all (s : ByteArray) : s.extract 0 s.size = s := by
  apply ByteArray.ext
  rw [ByteArray.data_extract]
  show s.data.extract 0 s.data.size = s.data
  simp
theorem slice_all (x2 : ByteArray) (W : World) : (Instr.slice 9 (.string x2) none (some (.int .i64 (x2.size : Int))) none).run Try.prog W = .ok (.string x2) W := by
  have h := run_slice_string_h (P := Try.prog) W 9 x2 Try.underlying9 .i64 (x2.size : Int) (by omega) (by omega)
  rw [h, Int.toNat_natCast, extract_all]

attribute [local go_sem] Int.le_refl

def PutRel (w : World) (n : Nat) (its : List (Bool × Int × ByteArray)) (u i : Value) (wr : World) : Prop :=
  ∃ (k n' c' : Nat) (A' : Option Addr), u = .slice A' n' c' ∧ i = .int .i64 (k : Int) ∧ k ≤ n ∧ Sl wr wr.heap.size A' n' c' (bv (itemsB (its.take k))) ∧ n' ≤ 50 * k ∧ Below w.heap.size w wr

theorem put_step {its : List (Bool × Int × ByteArray)} {k : Nat} (hk : k < its.length) {W : World} {A : Option Addr} {n c base : Nat} {m : List UInt8} (hm : m = itemB its[k])
    (ho : W.ownsRow base 5 1 (.slice A n c) n (bv (itemsB (its.take k) ++ m))) (hb : -9223372036854775808 ≤ its[k].2.1 ∧ its[k].2.1 ≤ 9223372036854775807) (hl : (itemsB (its.take k)).length ≤ 50 * k) :
    Sl W W.heap.size A n c (bv (itemsB (its.take (k + 1)))) ∧ n ≤ 50 * (k + 1) := by
  have hs := Sl.of_own ho
  have hlen := hs.len
  rw [bv_len, List.length_append, hm] at hlen
  have := itemB_le hb.1 hb.2
  rw [itemsB_step hk, ← hm]
  exact ⟨hs, by omega⟩

set_option maxHeartbeats 6400000 in
set_option maxRecDepth 100000 in
theorem put_any {w : World} {A : Option Addr} {n c : Nat} {its : List (Bool × Int × ByteArray)} (h : Its w A n c its) (hn : n ≤ 20) :
    Calls Try.prog 31 #[.slice A n c] w fun e w' => ∃ A' n' c', e = .returned (.slice A' n' c') ∧ Sl w' w'.heap.size A' n' c' (bv (itemsB its)) ∧ Below w.heap.size w w' ∧ n' ≤ 1000 := by
  obtain ⟨i1, i2, i3, i4, i5⟩ := h
  have I4 := Lib.hid i4
  have I5 := Lib.hid i5
  have I1 := Lib.hid i1
  unfold maxLen at i3
  clear i4 i5 i1
  go_enter Try.func31, Try.ntmps31
  go_wp2_with fail
  go_loopw [3, 4] (fun u i wr => PutRel w n its u i wr) (fun _ i _ => n - (intOf i).toNat)
  case atStart => exact ⟨0, 0, 0, none, rfl, rfl, by omega, Sl.nil_ _ _, by omega, Below.refl _ _⟩
  case round =>
    obtain ⟨k, n1, c1, A1, rfl, rfl, hk, hs, hn1, hb⟩ := hrel
    have hsl : (itemsB (its.take k)).length = n1 := by have := hs.len; rwa [bv_len] at this
    have S := Lib.hid hs
    have B := Lib.hid hb
    have HSL := Lib.hid hsl
    clear hs hb hsl
    by_cases hlt : k < n
    · obtain ⟨b, o, rfl, hbl, hcells⟩ := I4.out.resolve_left (by omega)
      have hkl : k < its.length := by have := I1.out; omega
      obtain ⟨g0, g1, g2⟩ := hcells k hkl
      have hbd := (I5.out _ (List.getElem_mem hkl)).1
      have hsz := (I5.out _ (List.getElem_mem hkl)).2
      have g0 := (B.out.cell (p := ⟨b, o + k * 3, none⟩) hbl).trans g0
      have g1 := (B.out.cell (p := ⟨b, o + k * 3 + 1, none⟩) hbl).trans g1
      have g2 := (B.out.cell (p := ⟨b, o + k * 3 + 2, none⟩) hbl).trans g2
      have LTW : Hid (b < wr.heap.size) := Nat.lt_of_lt_of_le hbl B.out.size
      have ST : Hid (∀ (W : World) (A' : Option Addr) (n' c' base : Nat) (m : List UInt8), m = itemB its[k] → W.ownsRow base 5 1 (.slice A' n' c') n' (bv (itemsB (its.take k) ++ m)) → Sl W W.heap.size A' n' c' (bv (itemsB (its.take (k + 1)))) ∧ n' ≤ 50 * (k + 1)) :=
        fun W A' n' c' base m hm ho => put_step hkl hm ho hbd (by rw [HSL.out]; exact hn1)
      have IB1 : Hid (its[k].1 = true → textB (its[k].2.2.data.toList.take 40) = itemB its[k]) := fun h => by unfold itemB; rw [if_pos h]
      have IB2 : Hid (its[k].1 = false → numB its[k].2.1 = itemB its[k]) := fun h => by unfold itemB; rw [if_neg (by simp [h])]
      generalize itemB its[k] = ib at *
      generalize its[k].1 = x0 at *
      generalize its[k].2.1 = x1 at *
      generalize its[k].2.2 = x2 at *
      obtain ⟨d1, d2⟩ := hbd
      unfold maxLen at hsz
      clear hcells
      cases x0 with
      | true =>
        by_cases h40 : x2.size ≤ 40
        · have CT : Hid (∀ W : World, W.heap = wr.heap → Calls Try.prog 16 #[.slice A1 n1 c1, .string x2] W fun e w' => ∃ A' n' c', e = .returned (.slice A' n' c') ∧ w'.ownsRow W.heap.size 5 1 (.slice A' n' c') n' (bv (itemsB (its.take k) ++ textB x2.data.toList)) ∧ Below W.heap.size W w') :=
            fun W hW => text_any (S.out.keep (fun j _ => by rw [hW])) (by rw [hW]; exact Nat.le_refl _) (by omega) (by omega)
          have ET : Hid (textB x2.data.toList = ib) := by
            show _ = _
            rw [← IB1.out (by simp), List.take_of_length_le (by rw [Array.length_toList]; exact h40)]
          have hz0 : (0 : Int) ≤ (x2.size : Int) := by omega
          have hz1 : (x2.size : Int) ≤ 40 := by omega
          have hz2 : (if (40 : Int) < (x2.size : Int) then (40 : Int) else (x2.size : Int)) = (x2.size : Int) := by rw [if_neg (by omega)]
          have hz3 := slice_all x2
          go_wp2_with fail
          go_region_held3 (fun w' => w'.cell? ⟨b, o + k * 3 + 2, none⟩ = some (.string x2)) (first | exact g2 | exact (hb1.cell LTW.out).trans g2)
            ((first | (go_at_call 16; refine (CT.out _ ?_).mono ?_; (exact rfl); rintro e wa ⟨A', n', c', rfl, hown, hb1⟩)))
          have P := Lib.hid (ST.out _ _ _ _ _ _ ET.out hown)
          have B1 := Lib.hid (below_step B.out.drew hb1)
          clear hown hb1
          go_wp2_with fail
          go_roundw
          case rel => exact ⟨k + 1, _, _, _, rfl, by go_num, by omega, P.out.1, P.out.2, B1.out⟩
          case measure => simp [intOf]; omega
        · have CT : Hid (∀ W : World, W.heap = wr.heap → Calls Try.prog 16 #[.slice A1 n1 c1, .string (x2.extract 0 40)] W fun e w' => ∃ A' n' c', e = .returned (.slice A' n' c') ∧ w'.ownsRow W.heap.size 5 1 (.slice A' n' c') n' (bv (itemsB (its.take k) ++ textB (x2.extract 0 40).data.toList)) ∧ Below W.heap.size W w') :=
            fun W hW => text_any (S.out.keep (fun j _ => by rw [hW])) (by rw [hW]; exact Nat.le_refl _) (by omega) (by rw [ByteArray.size_extract]; omega)
          have ET : Hid (textB (x2.extract 0 40).data.toList = ib) := by
            show _ = _
            have := cut40_data x2
            unfold cut40 at this
            rw [if_neg h40] at this
            rw [← IB1.out (by simp), this]
          have hz0 : (0 : Int) ≤ (x2.size : Int) := by omega
          have hz1 : (40 : Int) ≤ (x2.size : Int) := by omega
          have hz2 : (40 : Int) < (x2.size : Int) := by omega
          have hz3 : min (x2.size : Int) 40 = 40 := by omega
          go_wp2_with fail
          go_region_held3 (fun w' => w'.cell? ⟨b, o + k * 3 + 2, none⟩ = some (.string x2)) (first | exact g2 | exact (hb1.cell LTW.out).trans g2)
            ((first | (go_at_call 16; refine (CT.out _ ?_).mono ?_; (exact rfl); rintro e wa ⟨A', n', c', rfl, hown, hb1⟩)))
          have P := Lib.hid (ST.out _ _ _ _ _ _ ET.out hown)
          have B1 := Lib.hid (below_step B.out.drew hb1)
          clear hown hb1
          go_wp2_with fail
          go_roundw
          case rel => exact ⟨k + 1, _, _, _, rfl, by go_num, by omega, P.out.1, P.out.2, B1.out⟩
          case measure => simp [intOf]; omega
      | false =>
        go_wp2_with fail
        refine (num_any S.out (Nat.le_refl _) (by omega) d1 d2).mono ?_
        rintro e wa ⟨A', n', c', rfl, hown, hb1⟩
        have P := Lib.hid (ST.out _ _ _ _ _ _ (IB2.out (by simp)) hown)
        have B1 := Lib.hid (below_step B.out hb1)
        clear hown hb1
        go_wp2_with fail
        go_roundw
        case rel => exact ⟨k + 1, _, _, _, rfl, by go_num, by omega, P.out.1, P.out.2, B1.out⟩
        case measure => simp [intOf]; omega
    · obtain rfl : k = n := by omega
      go_wp2_with fail
      go_ret
      refine ⟨_, _, _, rfl, ?_, B.out, by omega⟩
      have := S.out
      rwa [List.take_of_length_le (by rw [I1.out]; exact Nat.le_refl _)] at this
end Go.Proofs.Ytkmpckfpoaakfaa
