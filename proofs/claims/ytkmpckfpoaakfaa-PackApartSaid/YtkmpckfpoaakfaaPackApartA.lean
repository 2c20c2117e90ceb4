/- PackApart: what its walks share. -/
import Derived.Test.YtkmpckfpoaakfaaApartMath
import Derived.Test.YtkmpckfpoaakfaaOpen
import Derived.Lib.QuietBelow
import Derived.Deep.DeepCutAuto
namespace Go.Proofs.Ytkmpckfpoaakfaa
set_option linter.unusedVariables false
open Go.RowKit Go.Sort

theorem size_cut100 (s : ByteArray) : (s.extract 0 100).size ≤ 100 := by
  rw [ByteArray.size_extract]; omega

theorem text_nil' (w : World) (s : ByteArray) (hs : s.size ≤ 100) :
    Calls Try.prog 16 #[.slice none 0 0, .string s] w fun e w' => ∃ A c, e = .returned (.slice A (textB s.data.toList).length c) ∧ w'.ownsRow w.heap.size 5 1 (.slice A (textB s.data.toList).length c) (textB s.data.toList).length (bv (textB s.data.toList)) ∧ Below w.heap.size w w' :=
  (text_nil w s (by omega)).mono fun _ _ ⟨A, n, c, he, ho, hb⟩ => by
    have hn : (textB s.data.toList).length = n := by have := (Sl.of_own ho).len; rwa [bv_len] at this
    rw [hn]; exact ⟨A, c, he, ho, hb⟩
theorem num_nil' (w : World) (k : Int) (hk1 : -9223372036854775808 ≤ k) (hk2 : k ≤ 9223372036854775807) :
    Calls Try.prog 15 #[.slice none 0 0, .int .i64 k] w fun e w' => ∃ A c, e = .returned (.slice A (numB k).length c) ∧ w'.ownsRow w.heap.size 5 1 (.slice A (numB k).length c) (numB k).length (bv (numB k)) ∧ Below w.heap.size w w' :=
  (num_nil w k hk1 hk2).mono fun _ _ ⟨A, n, c, he, ho, hb⟩ => by
    have hn : (numB k).length = n := by have := (Sl.of_own ho).len; rwa [bv_len] at this
    rw [hn]; exact ⟨A, c, he, ho, hb⟩
theorem same_is {w : World} {B B' n c n' c' : Nat} {A A' : Option Addr} {l m : List UInt8} (b : Bool) (h : Sl w B A n c (bv l)) (h' : Sl w B' A' n' c' (bv m)) (e : decide (l = m) = b) :
    Calls Try.prog 14 #[.slice A n c, .slice A' n' c'] w fun e w' => e = .returned (.bool b) ∧ Below w.heap.size w w' :=
  (same_any h h').mono fun _ _ hh => ⟨by rw [hh.1, e], by obtain ⟨k, hk⟩ := hh.2; rw [hk]; exact below_drewN (Below.refl _ _) k⟩

theorem bytes_ext {s t : ByteArray} (h : s.data.toList = t.data.toList) : s = t := by
  cases s; cases t
  simp only at h
  rw [Array.toList_inj] at h
  rw [h]

theorem str_eq (s : ByteArray) : (s.toList == s.toList) = true := by simp
theorem str_ne {s t : ByteArray} (h : s ≠ t) : (s.toList == t.toList) = false := by
  rw [beq_eq_false_iff_ne]
  intro e
  exact h (bytes_ext (by rw [← ByteArray.toList_eq, ← ByteArray.toList_eq, e]))

def cut100 (s : ByteArray) : ByteArray := if s.size ≤ 100 then s else s.extract 0 100
theorem c100_s {s : ByteArray} (h : s.size ≤ 100) : cut100 s = s := by unfold cut100; rw [if_pos h]
theorem c100_b {s : ByteArray} (h : ¬ s.size ≤ 100) : cut100 s = s.extract 0 100 := by unfold cut100; rw [if_neg h]
theorem c100_size (s : ByteArray) : (cut100 s).size ≤ 100 := by
  unfold cut100
  split
  · assumption
  · exact size_cut100 s
end Go.Proofs.Ytkmpckfpoaakfaa
