/- bailiffkeep: a target in new memory. -/
import Derived.Test.YtjpkemamfccfdaaGreatDoorGr
import Derived.Test.YtjpkemamfccfdaaGreatDoorKeepTgt
namespace Go.Proofs.YtjpkemamfccfdaaGreatDoor
set_option linter.unusedVariables false
open Go.RowKit

set_option maxRecDepth 100000 in
set_option maxHeartbeats 1600000 in
theorem ctarget_any {w : World} {R : Nat → Prop} {n c : Nat} {A : Option Addr} {l : Tgt} (hs : tgC l ≤ 3000) (h : Tg w R A n c l) :
    Calls Tryz.prog 22 #[.slice A n c] w fun e w' => ∃ A' c', e = .returned (.slice A' n c') ∧ Below w.heap.size w w' ∧ Tg w' (fun b => w.heap.size ≤ b) A' n c' l := by
  have hle := Rw.le h
  have hcap := Rw.cap h
  have HL := Lib.hid (Rw.len h)
  have hbig := Rw.big h
  have hcc : tgC l = 1 + n + sumC anyC l := by unfold tgC; rw [Rw.len h]
  have HC := Lib.hid (show 1 + n + sumC anyC l ≤ 3000 by omega)
  unfold maxLen at hcap
  have H := Lib.hid h
  clear h hs hcc
  go_enter Tryz.func22, Tryz.ntmps22
  go_wp2
  go_loopw [3, 11] (fun v i wr => ∃ (k : Nat) (A1 : Option Addr) (c1 : Nat), k ≤ n ∧ i = .int .i64 k ∧ v = .slice A1 k c1 ∧ Below w.heap.size w wr ∧ Gr 1 AnP wr w.heap.size 50 A1 k c1 (l.take k)) (fun v i _ => n - (intOf i).toNat)
  case atStart => exact ⟨0, none, 0, Nat.zero_le _, rfl, rfl, Below.refl _ _, Gr.nil _ _ (Nat.le_refl _)⟩
  case round =>
    obtain ⟨wo, hwo⟩ : ∃ wo, wo = wr := ⟨wr, rfl⟩
    subst hwo
    obtain ⟨k, A1, c1, hk, rfl, rfl, hb, hg⟩ := hrel
    have HB := Lib.hid hb
    have HG := Lib.hid hg
    clear hb hg
    by_cases hlt : k < n
    · obtain ⟨b, o, x, A', n', c', rfl, hRb, hbl, hx, c0, hin⟩ := (H.out.keep (Kept.all HB.out _) (fun _ h _ => h)).at_ hlt
      have HX := Lib.hid hx
      have hle' := Rw.le hin
      have hcap' := Rw.cap hin
      have hbig' := Rw.big hin
      have HL' := Lib.hid (Rw.len hin)
      have HIN := Lib.hid hin
      have hsx := sumC_le (f := anyC) hx
      have hex : anyC x = 1 + n' + sumC allC x := by unfold anyC; rw [Rw.len hin]
      have HEX := Lib.hid (show 1 + n' + sumC allC x ≤ 3000 by have := HC.out; omega)
      clear hx hin hsx hex
      unfold maxLen at hcap'
      go_wp2
      go_loopw [6, 17] (fun v i wq => ∃ (k2 : Nat) (A2 : Option Addr) (c2 : Nat), k2 ≤ n' ∧ i = .int .i64 k2 ∧ v = .slice A2 k2 c2 ∧ Below wo.heap.size wo wq ∧ Gr 1 AlP wq wo.heap.size 49 A2 k2 c2 (x.take k2)) (fun v i _ => n' - (intOf i).toNat)
      case atStart => exact ⟨0, none, 0, Nat.zero_le _, rfl, rfl, Below.refl _ _, Gr.nil _ _ (Nat.le_refl _)⟩
      case round =>
        obtain ⟨wq, hwq⟩ : ∃ wq, wq = wr := ⟨wr, rfl⟩
        subst hwq
        obtain ⟨k2, A2, c2, hk2, rfl, rfl, hb, hg⟩ := hrel
        have HB2 := Lib.hid hb
        have HG2 := Lib.hid hg
        clear hb hg
        by_cases hlt2 : k2 < n'
        · obtain ⟨b2, o2, y, A3, n3, c3, rfl, hRb2, hbl2, hy, d0, hin2⟩ := (HIN.out.keep (Kept.all HB2.out _) (fun _ h _ => h)).at_ hlt2
          have hsy := sumC_le (f := allC) hy
          have hey : allC y = 1 + n3 + sumC matC y := by unfold allC; rw [Rw.len hin2]
          have hle2 := Rw.le hin2
          have hcap2 := Rw.cap hin2
          obtain ⟨A5, c5, w5, r5, b5, o5⟩ := copy_mats hin2 (by have := HEX.out; omega)
          have h5 := Gr.below keeps_alp HG2.out b5
          obtain ⟨A6, c6, w6, r6, g6, b6⟩ := push_all h5 (o5.keep (Kept.refl _ _) (fun b hb _ => HG2.out.apart b hb)) (by have := HEX.out; omega)
          have HY := Lib.hid hy
          have R5 := Lib.hid r5
          have R6 := Lib.hid r6
          have G6 := Lib.hid g6
          have B6 := Lib.hid ((HB2.out.trans (b5.mono HB2.out.size)).trans b6)
          clear hin2 hy hsy hey r5 r6 g6 b6 h5 o5 b5
          go_wp2_with (first
            | (at_builtin; refine wpList_append_run (o := ⟨some 24, _, _, _, _, _⟩) rfl _ _ _ _ rfl rfl rfl R5.out ?_)
            | (at_builtin; refine wpList_append_run (o := ⟨some 26, _, _, _, _, _⟩) rfl _ _ _ _ rfl rfl rfl R6.out ?_))
          go_roundw
          case rel => exact ⟨k2 + 1, A6, c6, by omega, by go_num, rfl, B6.out, by rw [List.take_add_one, HY.out]; exact G6.out⟩
          case measure => simp [intOf]; omega
        · obtain rfl : k2 = n' := by omega
          obtain ⟨A6, c6, w6, r6, g6, b6⟩ := push_any (x := x) (Gr.below keeps_anp HG.out HB2.out) (A1 := A2) (n1 := k2) (c1 := c2) (by
            have hrw := Gr.rw keeps_alp HG2.out hbig'
            rw [List.take_of_length_le (Nat.le_of_eq HL'.out)] at hrw
            exact Als.keep (show Als wq (fun b => wo.heap.size ≤ b) A2 k2 c2 x from hrw) (Kept.refl _ _) (fun b hb _ => HG.out.apart b hb)) (by have := HC.out; omega)
          have R6 := Lib.hid r6
          have G6 := Lib.hid g6
          have B6 := Lib.hid ((HB.out.trans (HB2.out.mono HB.out.size)).trans b6)
          clear r6 g6 b6
          go_wp2_with (at_builtin; refine wpList_append_run (o := ⟨some 31, _, _, _, _, _⟩) rfl _ _ _ _ rfl rfl rfl R6.out ?_)
          go_roundw
          case rel => exact ⟨k + 1, A6, c6, by omega, by go_num, rfl, B6.out, by rw [List.take_add_one, HX.out]; exact G6.out⟩
          case measure => simp [intOf]; omega
    · obtain rfl : k = n := by omega
      go_wp2
      go_ret
      have hrw := Gr.rw keeps_anp HG.out hbig
      rw [List.take_of_length_le (Nat.le_of_eq HL.out)] at hrw
      exact ⟨A1, c1, rfl, HB.out, hrw⟩
end Go.Proofs.YtjpkemamfccfdaaGreatDoor
