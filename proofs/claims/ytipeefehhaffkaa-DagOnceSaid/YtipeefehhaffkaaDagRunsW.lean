/- DagRuns in any world (gen16runs.py). -/
import Derived.Test.YtipeefehhaffkaaDagCalls
namespace Go.Proofs.Ytipeefehhaffkaa
set_option linter.unusedVariables false
open Go.RowKit Go.Sort

set_option maxRecDepth 100000 in
set_option maxHeartbeats 6400000 in
theorem dagruns_any (w : World) : Calls Try.prog 3 #[] w fun e w' => e = .returned (.bool true) ∧ Below w.heap.size w w' := by
  go_enter Try.func3, Try.ntmps3
  go_wp2_with fail
  refine (new_at 2 (by omega) (by omega) (Nat.le_refl _)).mono ?_
  rintro e w1 ⟨g, rfl, hd, hb⟩
  have D := Lib.hid hd
  have B := Lib.hid hb
  clear hd hb
  go_wp2_with fail
  refine (bl_any 1 (-1) (-1) (-2)).mono ?_
  rintro e w2 ⟨rfl, hb⟩
  have D := Lib.hid (D.out.below hb)
  have B := Lib.hid (Below.up B.out (by have := B.out.size; omega) hb)
  clear hb
  go_wp2_with fail
  refine (make_is D.out (b := ⟨1, (-1), (-1), (-2)⟩) (by unfold Br.ok InI; decide) (show makeD 2 [] ⟨1, (-1), (-1), (-2)⟩ = (0, 0, [⟨1, (-1), (-1), (-2)⟩]) by decide)).mono ?_
  rintro e w3 ⟨rfl, hb, A1, n1, c1, hd⟩
  have B := Lib.hid (B.out.trans hb)
  have D := Lib.hid hd
  clear hb hd
  go_wp2_with fail
  refine (bl_any 0 0 0 0).mono ?_
  rintro e w4 ⟨rfl, hb⟩
  have D := Lib.hid (D.out.below hb)
  have B := Lib.hid (Below.up B.out (by have := B.out.size; omega) hb)
  clear hb
  go_wp2_with fail
  refine (make_is D.out (b := ⟨0, 0, 0, 0⟩) (by unfold Br.ok InI; decide) (show makeD 2 [⟨1, (-1), (-1), (-2)⟩] ⟨0, 0, 0, 0⟩ = (0, 0, [⟨1, (-1), (-1), (-2)⟩]) by decide)).mono ?_
  rintro e w5 ⟨rfl, hb, A3, n3, c3, hd⟩
  have B := Lib.hid (B.out.trans hb)
  have D := Lib.hid hd
  clear hb hd
  go_wp2_with fail
  refine (bl_any 0 (-1) 0 (-2)).mono ?_
  rintro e w6 ⟨rfl, hb⟩
  have D := Lib.hid (D.out.below hb)
  have B := Lib.hid (Below.up B.out (by have := B.out.size; omega) hb)
  clear hb
  go_wp2_with fail
  refine (make_is D.out (b := ⟨0, (-1), 0, (-2)⟩) (by unfold Br.ok InI; decide) (show makeD 2 [⟨1, (-1), (-1), (-2)⟩] ⟨0, (-1), 0, (-2)⟩ = (1, 0, [⟨1, (-1), (-1), (-2)⟩, ⟨0, (-1), 0, (-2)⟩]) by decide)).mono ?_
  rintro e w7 ⟨rfl, hb, A5, n5, c5, hd⟩
  have B := Lib.hid (B.out.trans hb)
  have D := Lib.hid hd
  clear hb hd
  have hs : Sl (w7.alloc (.cells #[.int .i64 1, .int .i64 2] 3)) (w7.heap.size + 1) (some ⟨w7.heap.size, 0, none⟩) 2 2 (nv [1, 2]) := Sl.lit w7 3 [.int .i64 1, .int .i64 2] 2 rfl (by simp [maxLen])
  have HS := Lib.hid hs
  have D := Lib.hid (D.out.below (below1 w7 (.cells #[.int .i64 1, .int .i64 2] 3)))
  have B := Lib.hid (B.out.alloc (by have := B.out.size; omega) (.cells #[.int .i64 1, .int .i64 2] 3))
  clear hs
  go_wp2_with fail
  refine (walk_any D.out 1 (by unfold InI; omega) HS.out (by rw [size_al]; omega)).mono ?_
  rintro e wa ⟨rfl, hb⟩
  have hw : walkD [⟨1, (-1), (-1), (-2)⟩, ⟨0, (-1), 0, (-2)⟩] 1 [1, 2] = 1 := by decide
  rw [hw]
  have B := Lib.hid (Below.up B.out (by have := B.out.size; omega) hb)
  have D := Lib.hid (D.out.below hb)
  clear hb hw
  go_wp2_with fail
  refine (size_any D.out 1 (by unfold InI; omega)).mono ?_
  rintro e wb ⟨rfl, hb⟩
  have hw : ((sizeD [⟨1, (-1), (-1), (-2)⟩, ⟨0, (-1), 0, (-2)⟩] 1 : Nat) : Int) = 2 := by decide
  rw [hw]
  have B := Lib.hid (Below.up B.out (by have := B.out.size; omega) hb)
  have D := Lib.hid (D.out.below hb)
  clear hb hw
  go_wp2_with fail
  refine (bl_any 2 (-1) (-2) (-3)).mono ?_
  rintro e wc ⟨rfl, hb⟩
  have D := Lib.hid (D.out.below hb)
  have B := Lib.hid (Below.up B.out (by have := B.out.size; omega) hb)
  clear hb
  go_wp2_with fail
  refine (make_is D.out (b := ⟨2, (-1), (-2), (-3)⟩) (by unfold Br.ok InI; decide) (show makeD 2 [⟨1, (-1), (-1), (-2)⟩, ⟨0, (-1), 0, (-2)⟩] ⟨2, (-1), (-2), (-3)⟩ = (0, 6, [⟨1, (-1), (-1), (-2)⟩, ⟨0, (-1), 0, (-2)⟩]) by decide)).mono ?_
  rintro e wd ⟨rfl, hb, A9, n9, c9, hd⟩
  have B := Lib.hid (B.out.trans hb)
  have D := Lib.hid hd
  have HN : Hid (n9 = 2) := hd.len.symm
  clear hb hd
  go_wp2_with fail
  refine (len_any D.out).mono ?_
  rintro e we ⟨rfl, hb⟩
  rw [HN.out, ← hb]
  clear hb
  go_wp2_with fail
  go_ret
  exact ⟨rfl, B.out⟩
theorem dagRuns_walk (w : World) : Calls Try.prog 3 #[] w fun e w' => e = .returned (.bool true) ∧ Below w.heap.size w w' := dagruns_any w
end Go.Proofs.Ytipeefehhaffkaa
