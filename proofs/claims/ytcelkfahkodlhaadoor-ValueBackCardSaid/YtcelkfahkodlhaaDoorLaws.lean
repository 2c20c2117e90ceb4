/- Small facts that the laws' walks share. -/
import Derived.Test.YtcelkfahkodlhaaDoorRText
import Derived.Test.YtcelkfahkodlhaaDoorSame
namespace Go.Proofs.YtcelkfahkodlhaaDoor
open Go.RowKit

/-- A number's bytes are read as that number. -/
theorem rNum_numB {n : Int} (h1 : -9223372036854775808 ≤ n) (h2 : n ≤ 9223372036854775807) (l r : List UInt8) : rNum (l ++ numB n ++ r) l.length 0 = (n, l.length + (numB n).length, 0) := by
  have h := dec_numB h1 h2 r
  rw [rNum_some (v := zig n) (k := (numB n).length) (by rw [List.append_assoc, List.drop_left]; exact h), zag_zig]
theorem rNum_own {n : Int} (h1 : -9223372036854775808 ≤ n) (h2 : n ≤ 9223372036854775807) : rNum (numB n) 0 0 = (n, (numB n).length, 0) := by
  have := rNum_numB h1 h2 [] []
  simpa using this
theorem rIn_own {n lo hi : Int} (h1 : -9223372036854775808 ≤ n) (h2 : n ≤ 9223372036854775807) : rIn (numB n) 0 0 lo hi = if n < lo ∨ hi < n then (0, 0, 7) else (n, (numB n).length, 0) := by
  unfold rIn
  rw [rNum_own h1 h2, if_neg (by simp)]
theorem endOf_all (l : List UInt8) : endOf l l.length 0 = 0 := by unfold endOf; simp

theorem Rdr.base {w : World} {t : TypeId} {bs r p : Nat} {l : List UInt8} {q : Int} (h : Rdr w t bs r l p q) : bs ≤ r := by obtain ⟨_, _, _, _, _, _, _, h, _⟩ := h; exact h
end Go.Proofs.YtcelkfahkodlhaaDoor
