/- bailiffbook.Same, Roomy and Intact over marks. -/
import Derived.Test.YtjkigjgpdbedmaaMarkRow
import Derived.Test.YtjkigjgpdbedmaaCopyInto
namespace Go.Proofs.Ytjkigjgpdbedmaa
set_option linter.unusedVariables false
open Go.RowKit
attribute [local go_sem] eq0 eq2 eq4 gt0 gt2 ord_eq ord_gt ord_lt run_max_fl

theorem run_store_complex {P : Program} {w : World} {a : Addr} {m : Mode} (k : FloatKind) (x y : Nat) : (store a (.complex k x y) m).run P w = stored P w a (.complex k x y) m := run_store P w a _ m rfl
attribute [local go_sem] run_store_complex
/-- The mark behind the row: two. -/
def two : Value := .complex .f64 4611686018427387904 0
def nought : Value := .complex .f64 0 0
theorem t22 : (FloatKind.f64.format.order 4611686018427387904 4611686018427387904 == some .eq) = true := by decide +kernel
theorem t00 : (FloatKind.f64.format.order 0 0 == some .eq) = true := by decide +kernel

set_option maxHeartbeats 800000 in
theorem msame_any {w : World} {B B' n c c' : Nat} {A A' : Option Addr} {l : List Mk} (h : Sl w B A n c (mv l)) (h' : Sl w B' A' n c' (mv l)) :
    Calls Try.prog 28 #[.slice A n c, .slice A' n c'] w fun e w' => e = .returned (.bool true) ∧ ∃ k, w' = w.drewN k := by
  have hcap := h.cap
  have hle := h.le
  have hle' := h'.le
  unfold maxLen at hcap
  have H := Lib.hid h
  have H' := Lib.hid h'
  clear h h'
  go_enter Try.func28, Try.ntmps28
  go_wp2
  go_loopw [5] (fun i wr => ∃ k : Nat, k ≤ n ∧ i = .int .i64 k ∧ ∃ q, wr = w.drewN q) (fun i _ => n - (intOf i).toNat)
  case atStart => exact ⟨0, Nat.zero_le _, rfl, 0, rfl⟩
  case round =>
    obtain ⟨k, hk, rfl, q, rfl⟩ := hrel
    by_cases hlt : k < n
    · obtain ⟨b, o, p, d, rfl, _, hx, hc⟩ := H.out.mark hlt
      obtain ⟨b', o', p', d', rfl, _, hy, hc'⟩ := H'.out.mark hlt
      obtain ⟨rfl, rfl⟩ := Prod.mk.inj (Option.some.inj (hx.symm.trans hy))
      clear hx hy
      go_wp2_with fail
      go_quiet (fail)
      go_wp2
      go_roundw
      case rel => exact ⟨k + 1, by omega, by go_num, _, rfl⟩
      case measure => simp [intOf]; omega
    · obtain rfl : k = n := by omega
      go_wp2
      go_ret
      exact ⟨rfl, _, rfl⟩

theorem madeMarks (n : Nat) : madeCells nought.cells (n * 1) = (List.replicate n nought).toArray := by
  apply Array.ext
  · simp [madeCells]
  · intro i h1 h2; simp [madeCells, nought, Value.cells, Nat.mod_one]
theorem make_marks (n : Nat) (h : n ≤ 1000000) (W : World) :
    (Instr.makeSlice 27 (.int .i64 (n : Int)) (.int .i64 (n : Int))).run Try.prog W = .ok (.slice (some ⟨W.heap.size, 0, none⟩) n n) (W.alloc (.cells (List.replicate n nought).toArray 23)) := by
  obtain ⟨i, hi, hz0, hz1, hz2⟩ := info_parts markinfo
  have hr := run_make (P := Try.prog) W 27 23 i _ Try.underlying27 hi hz0 .i64 .i64 n n (by omega) (by omega) (by rw [hz2]; omega) (by omega)
  rw [hz1] at hr
  have e := madeMarks n
  unfold nought at e
  simp only [Int.toNat_natCast, e] at hr
  exact hr

def roomK (l : List Mk) (n k : Nat) : Array Value := (mv l ++ List.replicate (k - n) two ++ List.replicate (n + 80 - k) nought).toArray
theorem roomK_step {l : List Mk} {n k : Nat} (hl : l.length = n) (h1 : n ≤ k) (h2 : k < n + 80) : (roomK l n k).setIfInBounds k two = roomK l n (k + 1) := by
  unfold roomK
  rw [List.setIfInBounds_toArray]
  congr 1
  have e1 : n + 80 - k = (n + 80 - (k + 1)) + 1 := by omega
  have e2 : k + 1 - n = (k - n) + 1 := by omega
  rw [e1, e2, List.replicate_succ, List.replicate_succ', List.set_append_right _ _ (by simp [mv_len, hl]; omega)]
  have e3 : k - (mv l ++ List.replicate (k - n) two).length = 0 := by simp [mv_len, hl]; omega
  rw [e3]
  simp
theorem roomK_get {l : List Mk} {n k : Nat} (hl : l.length = n) (h1 : n ≤ k) (h2 : k < n + 80) : (roomK l n k)[k]? = some nought := by
  unfold roomK
  have e1 : n + 80 - k = (n + 80 - (k + 1)) + 1 := by omega
  rw [List.getElem?_toArray, List.getElem?_append_right (by simp [mv_len, hl]; omega)]
  have e3 : k - (mv l ++ List.replicate (k - n) two).length = 0 := by simp [mv_len, hl]; omega
  rw [e3, e1, List.replicate_succ]
  rfl
theorem roomK_end {l : List Mk} {n : Nat} : roomK l n (n + 80) = (mv l ++ List.replicate 80 two).toArray := by
  unfold roomK
  simp

def RoomKRel (w : World) (l : List Mk) (n : Nat) (i : Value) (wr : World) : Prop :=
  ∃ k : Nat, i = .int .i64 (k : Int) ∧ n ≤ k ∧ k ≤ n + 80 ∧ Ob wr w.heap.size 23 (roomK l n k) ∧ Below w.heap.size w wr

set_option maxHeartbeats 1600000 in
theorem mroomy_any {w : World} {B n c : Nat} {A : Option Addr} {l : List Mk} (h : Sl w B A n c (mv l)) (hB : B ≤ w.heap.size) (hn : n ≤ 900000) :
    Calls Try.prog 14 #[.slice A n c, .complex .f64 4611686018427387904 0] w fun e w' => e = .returned (.slice (some ⟨w.heap.size, 0, none⟩) (n + 80) (n + 80)) ∧ Ob w' w.heap.size 23 (mv l ++ List.replicate 80 two).toArray ∧ Below w.heap.size w w' := by
  obtain ⟨i, hi, hz0, hz1, hz2⟩ := info_parts markinfo
  have hmk := make_marks (n + 80) (by omega)
  simp only [Int.natCast_add, Int.cast_ofNat_Int] at hmk
  have hob := Ob.made w 23 (List.replicate (n + 80) nought).toArray
  have hsl : Sl (w.alloc (.cells (List.replicate (n + 80) nought).toArray 23)) B A n c (mv l) := h.keep fun k hk => Below.heap_alloc w _ k (by omega)
  obtain ⟨w1, hcp, hob1, hz, honly⟩ := copy_into (P := Try.prog) (ty := 3) (m := n + 80) (d := n + 80) Try.underlying27 hi hz1 hob hsl (by omega) (by simp) one_mv
  have hlen : l.length = n := h.mlen
  have hbel : Below w.heap.size w w1 := ((Below.refl _ w).alloc (Nat.le_refl _) _).trans (honly.below (by simp) (Nat.le_refl _))
  have hstart : RoomKRel w l n (.int .i64 (n : Int)) w1 := by
    refine ⟨n, rfl, Nat.le_refl _, by omega, ?_, hbel⟩
    have e : roomK l n n = (mv l ++ (List.replicate (n + 80) nought).toArray.toList.drop n).toArray := by
      unfold roomK
      simp
    rw [e]; exact hob1
  have HS := Lib.hid hstart
  have HL := Lib.hid hlen
  simp only [List.toArray_replicate] at hcp
  clear h hob hsl hob1 hz honly hlen hbel hstart
  go_enter Try.func14, Try.ntmps14
  go_wp2_with fail
  go_loopw [6] (fun i wr => RoomKRel w l n i wr) (fun i _ => n + 80 - (intOf i).toNat)
  case atStart => exact HS.out
  case round =>
    obtain ⟨k, rfl, k1, k2, ho, hb⟩ := hrel
    have HO := Lib.hid ho
    have HB := Lib.hid hb
    by_cases hlt : k < n + 80
    · have hcell := (ho.cell k).trans (roomK_get HL.out k1 hlt)
      have hfr := ho.frozen k
      unfold nought at hcell
      clear ho hb
      go_wp2_with fail
      go_roundw
      case rel =>
        refine ⟨k + 1, by go_num, by omega, by omega, ?_, HB.out.setCell (p := ⟨w.heap.size, k, none⟩) (Nat.le_refl _) _⟩
        rw [← roomK_step HL.out k1 hlt]
        exact HO.out.put k _
      case measure => simp [intOf]; omega
    · obtain rfl : k = n + 80 := by omega
      clear ho hb
      go_wp2_with fail
      go_ret
      refine ⟨rfl, ?_, HB.out⟩
      rw [← roomK_end (n := n)]
      exact HO.out

set_option maxHeartbeats 1600000 in
theorem mintact_any {w : World} {B B' n c c' : Nat} {A A' : Option Addr} {l : List Mk} (h : Sl w B A (n + 80) c (mv l ++ List.replicate 80 two)) (h' : Sl w B' A' n c' (mv l)) (hn : n ≤ 900000) :
    Calls Try.prog 17 #[.slice A (n + 80) c, .slice A' n c', .complex .f64 4611686018427387904 0] w fun e w' => e = .returned (.bool true) ∧ Below w.heap.size w w' := by
  have hlen : l.length = n := h'.mlen
  have hcn := h.le
  have hcap := h.cap
  unfold maxLen at hcap
  have ht : Sl w B A n c (mv l) := by
    have := h.take (k := n) (by omega)
    rwa [List.take_left' (by rw [mv_len]; exact hlen)] at this
  have H := Lib.hid h
  have HL := Lib.hid hlen
  have HSAME := Lib.hid (msame_any ht h')
  clear h h' ht hlen
  have k1 := t22
  have k2 := t00
  go_enter Try.func17, Try.ntmps17
  go_wp2_with fail
  refine HSAME.out.mono ?_
  rintro e w1 ⟨rfl, q, rfl⟩
  go_wp2_with fail
  go_loop [7] (fun i => ∃ k : Nat, i = .int .i64 (k : Int) ∧ n ≤ k ∧ k ≤ n + 80) (fun i => n + 80 - (intOf i).toNat)
  case atStart => exact ⟨n, rfl, Nat.le_refl _, by omega⟩
  case round =>
    obtain ⟨k, rfl, h1, h2⟩ := hrel
    by_cases hlt : k < n + 80
    · obtain ⟨b, o, u, rfl, _, hx, hc⟩ := H.out.at_ hlt
      have hu : u = .complex .f64 4611686018427387904 0 := by
        rw [List.getElem?_append_right (by have := HL.out; rw [mv_len]; omega), List.getElem?_replicate, if_pos (by have := HL.out; rw [mv_len]; omega)] at hx
        exact (Option.some.inj hx).symm
      subst hu
      clear hx
      go_wp2_with fail
      go_round
      case rel => exact ⟨k + 1, by go_num, by omega, by omega⟩
      case measure => simp [intOf]; omega
    · obtain rfl : k = n + 80 := by omega
      go_wp2_with fail
      go_ret
      exact ⟨rfl, below_drewN (Below.refl _ _) q⟩
end Go.Proofs.Ytjkigjgpdbedmaa
