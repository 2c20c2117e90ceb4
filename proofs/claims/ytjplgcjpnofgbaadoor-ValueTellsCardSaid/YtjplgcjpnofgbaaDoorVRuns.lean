/- ValueRuns from the functions' contracts, in any world that holds the library's table. -/
import Derived.Test.YtjplgcjpnofgbaaDoorVLess
import Derived.Test.YtjplgcjpnofgbaaDoorVFew
import Derived.Test.YtjplgcjpnofgbaaDoorVShow
namespace Go.Proofs.YtjplgcjpnofgbaaDoor
set_option linter.unusedVariables false
open Go.RowKit

theorem less_at {k n k' n' : Int} {s s' : ByteArray} {b : Bool} {x : Int} (h : lessOf ⟨k, n, s⟩ ⟨k', n', s'⟩ = (b, x)) (hs : s.size ≤ maxLen) (hs' : s'.size ≤ maxLen) (w : World) :
    Calls Tryd.prog 11 #[.agg #[.int .i64 k, .int .i64 n, .string s], .agg #[.int .i64 k', .int .i64 n', .string s']] w fun e w' => e = .returned (.tuple #[.bool b, .int .i64 x]) ∧ Below w.heap.size w w' := by
  have := less_any ⟨k, n, s⟩ ⟨k', n', s'⟩ hs hs' w
  rw [h] at this
  exact this
theorem text_at {k n : Int} {s : ByteArray} {l : List UInt8} (h : showB ⟨k, n, s⟩ = l) (hn : -9223372036854775808 ≤ n ∧ n ≤ 9223372036854775807) (hs : s.size ≤ 1000000) {w : World} (ht : Tab w) :
    Calls Tryd.prog 13 #[.agg #[.int .i64 k, .int .i64 n, .string s]] w fun e w' => e = .returned (.string ⟨l.toArray⟩) ∧ Below w.heap.size w w' := by
  have := vtext_any k n s hn hs w ht
  rw [h] at this
  exact this

theorem l1 : lessOf ⟨2, 2, ⟨#[]⟩⟩ ⟨2, 10, ⟨#[]⟩⟩ = (true, 0) := by decide
theorem l2 : lessOf ⟨3, 0, ⟨#[50]⟩⟩ ⟨3, 0, ⟨#[49, 48]⟩⟩ = (false, 0) := by decide
theorem l3 : lessOf ⟨2, 2, ⟨#[]⟩⟩ ⟨4, 10, ⟨#[]⟩⟩ = (false, 2) := by decide
theorem t1 : showB ⟨2, -7, ⟨#[]⟩⟩ = [45, 55] := by
  rw [show2 (by decide)]
  unfold Lib.itoa
  rw [if_pos (by decide), Lib.decDigits_one (by decide)]; rfl
theorem t2 : showB ⟨4, 5, ⟨#[]⟩⟩ = [64, 53] := by
  rw [show4 (by decide)]
  unfold Lib.itoa
  rw [if_neg (by decide), Lib.decDigits_one (by decide)]; rfl
theorem t3 : showB ⟨5, 0, ⟨#[97, 110, 110]⟩⟩ = [35, 97, 110, 110] := by decide
theorem t4 : showB ⟨3, 0, ⟨#[97, 34, 98]⟩⟩ = [34, 97, 92, 50, 50, 98, 34] := by decide

set_option maxHeartbeats 3200000 in
theorem vruns_any (w : World) (htab : Tab w) : Calls Tryd.prog 3 #[] w fun e w' => e = .returned (.bool true) ∧ Below w.heap.size w w' := by
  have ht : ∀ w', Below w.heap.size w w' → Tab w' := fun w' hb => htab.then_ hb
  have HT := Lib.hid ht
  have D0 := Lib.hid (Below.refl w.heap.size w)
  clear ht htab
  go_enter Tryd.func3, Tryd.ntmps3
  go_wp2_with fail
  refine (of_any _ _ _).mono ?_
  rintro e w1 ⟨rfl, hb⟩
  have D1 := Lib.hid (below_step D0.out hb)
  clear hb D0
  go_wp2_with fail
  refine (of_any _ _ _).mono ?_
  rintro e w2 ⟨rfl, hb⟩
  have D2 := Lib.hid (below_step D1.out hb)
  clear hb D1
  go_wp2_with fail
  refine (less_at l1 (by decide) (by decide) _).mono ?_
  rintro e w3 ⟨rfl, hb⟩
  have D3 := Lib.hid (below_step D2.out hb)
  clear hb D2
  go_wp2_with fail
  refine (less_at l2 (by decide) (by decide) _).mono ?_
  rintro e w4 ⟨rfl, hb⟩
  have D4 := Lib.hid (below_step D3.out hb)
  clear hb D3
  go_wp2_with fail
  refine (of_any _ _ _).mono ?_
  rintro e w5 ⟨rfl, hb⟩
  have D5 := Lib.hid (below_step D4.out hb)
  clear hb D4
  go_wp2_with fail
  refine (of_any _ _ _).mono ?_
  rintro e w6 ⟨rfl, hb⟩
  have D6 := Lib.hid (below_step D5.out hb)
  clear hb D5
  go_wp2_with fail
  refine (less_at l3 (by decide) (by decide) _).mono ?_
  rintro e w7 ⟨rfl, hb⟩
  have D7 := Lib.hid (below_step D6.out hb)
  clear hb D6
  go_wp2_with fail
  refine (of_any _ _ _).mono ?_
  rintro e w8 ⟨rfl, hb⟩
  have D8 := Lib.hid (below_step D7.out hb)
  clear hb D7
  go_wp2_with fail
  refine (text_at t1 (by omega) (by decide) (HT.out _ D8.out)).mono ?_
  rintro e w9 ⟨rfl, hb⟩
  have D9 := Lib.hid (below_step D8.out hb)
  clear hb D8
  go_wp2_with fail
  refine (of_any _ _ _).mono ?_
  rintro e w10 ⟨rfl, hb⟩
  have D10 := Lib.hid (below_step D9.out hb)
  clear hb D9
  go_wp2_with fail
  refine (text_at t2 (by omega) (by decide) (HT.out _ D10.out)).mono ?_
  rintro e w11 ⟨rfl, hb⟩
  have D11 := Lib.hid (below_step D10.out hb)
  clear hb D10
  go_wp2_with fail
  refine (text_at t3 (by omega) (by decide) (HT.out _ D11.out)).mono ?_
  rintro e w12 ⟨rfl, hb⟩
  have D12 := Lib.hid (below_step D11.out hb)
  clear hb D11
  go_wp2_with fail
  refine (text_at t4 (by omega) (by decide) (HT.out _ D12.out)).mono ?_
  rintro e w13 ⟨rfl, hb⟩
  have D13 := Lib.hid (below_step D12.out hb)
  clear hb D12
  go_wp2_with fail
  go_ret
  exact ⟨rfl, D13.out⟩

theorem valueRuns_walk (w : World) (htab : Tab w) : Calls Tryd.prog 3 #[] w fun e w' => e = .returned (.bool true) ∧ Below w.heap.size w w' := vruns_any w htab
end Go.Proofs.YtjplgcjpnofgbaaDoor
