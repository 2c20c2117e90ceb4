/- Numbers' and texts' bytes: the same just if the numbers, the texts are; neither begins another one's. -/
import Derived.Test.YtkmpckfpoaakfaaLaws
namespace Go.Proofs.Ytkmpckfpoaakfaa

theorem numB_inj {m n : Int} (h1 : -9223372036854775808 ≤ m) (h2 : m ≤ 9223372036854775807) (h3 : -9223372036854775808 ≤ n) (h4 : n ≤ 9223372036854775807) (h : numB m = numB n) : m = n := by
  have a := dec_numB h1 h2 []
  have b := dec_numB h3 h4 []
  rw [h, b] at a
  simp only [Option.some.injEq, Prod.mk.injEq] at a
  exact zig_inj a.1.symm

/-- A number's bytes begin no row that begins with another number's bytes. -/
theorem numB_pre {m n : Int} (h1 : -9223372036854775808 ≤ m) (h2 : m ≤ 9223372036854775807) (h3 : -9223372036854775808 ≤ n) (h4 : n ≤ 9223372036854775807) {r s : List UInt8} {k : Nat}
    (h : numB m ++ r = (numB n ++ s).take k) : m = n := by
  have a := dec_numB h1 h2 r
  rw [h] at a
  rcases Nat.lt_or_ge k (numB n).length with hk | hk
  · rw [List.take_append_of_le_length (by omega)] at a
    unfold numB at a hk
    rw [dec_cut _ _ _ _ hk] at a
    cases a
  · rw [List.take_append, List.take_of_length_le hk, dec_numB h3 h4] at a
    simp only [Option.some.injEq, Prod.mk.injEq] at a
    exact zig_inj a.1.symm

theorem numB_free {m n : Int} (h1 : -9223372036854775808 ≤ m) (h2 : m ≤ 9223372036854775807) (h3 : -9223372036854775808 ≤ n) (h4 : n ≤ 9223372036854775807) (hne : m ≠ n) {k : Nat} (hk : k = (numB m).length ∨ k = (numB n).length) :
    (numB m).take k ≠ (numB n).take k := by
  intro h
  rcases hk with rfl | rfl
  · rw [List.take_length] at h
    exact hne (numB_pre h1 h2 h3 h4 (r := []) (s := []) (k := (numB m).length) (by simpa using h))
  · rw [List.take_length] at h
    exact hne (numB_pre h3 h4 h1 h2 (r := []) (s := []) (k := (numB n).length) (by simpa using h.symm)).symm

theorem textB_pre {s t : List UInt8} (hs : s.length ≤ 100) (ht : t.length ≤ 100) {k : Nat} (h : textB s = (textB t).take k) : s = t := by
  have e : (s.length : Int) = (t.length : Int) := numB_pre (by omega) (by omega) (by omega) (by omega) (h : numB (s.length : Int) ++ s = (numB (t.length : Int) ++ t).take k)
  have hl : (textB s).length = (textB t).length := by unfold textB; rw [e]; simp; omega
  have hk : (textB t).take k = textB t := by
    apply List.take_of_length_le
    have := congrArg List.length h
    rw [List.length_take] at this
    omega
  rw [hk] at h
  unfold textB at h
  rw [e] at h
  exact List.append_cancel_left h

theorem textB_free {s t : List UInt8} (hs : s.length ≤ 100) (ht : t.length ≤ 100) (hne : s ≠ t) {k : Nat} (hk : k = (textB s).length ∨ k = (textB t).length) : (textB s).take k ≠ (textB t).take k := by
  intro h
  rcases hk with rfl | rfl
  · rw [List.take_length] at h
    exact hne (textB_pre hs ht h)
  · rw [List.take_length] at h
    exact hne (textB_pre ht hs h.symm).symm
theorem textB_inj {s t : List UInt8} (hs : s.length ≤ 100) (ht : t.length ≤ 100) (h : textB s = textB t) : s = t := by
  refine textB_pre hs ht (k := (textB t).length) ?_
  rw [List.take_length]; exact h
end Go.Proofs.Ytkmpckfpoaakfaa
