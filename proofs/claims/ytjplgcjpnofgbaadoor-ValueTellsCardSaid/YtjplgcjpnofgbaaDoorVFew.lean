/- The laws' helpers: a value of a number; a value whose text is cut. -/
import Derived.Test.YtjplgcjpnofgbaaDoorVBox
namespace Go.Proofs.YtjplgcjpnofgbaaDoor
set_option linter.unusedVariables false
open Go.RowKit

theorem box_ret {fn : Func} {p : Tmp} {tmps : Array Value} {w : World} {g : Nat} {k n : Int} {s : ByteArray} (h : fn.results = #[.cell p 26]) (hp : tmps.getD p undef = .pointer (some ⟨g, 0, none⟩)) (hg : Bx w g k n s) :
    (results fn tmps).run Tryd.prog w = .ok (.agg #[.int .i64 k, .int .i64 n, .string s]) w :=
  results_cell_row h tmps w g _ _ (0, 0) _ hp hg Tryd.underlying26 rfl (by kernel_rfl)

theorem cut_eq {s : ByteArray} (m : Nat) : s.extract 0 m = ⟨(s.data.toList.take m).toArray⟩ := by
  obtain ⟨⟨l⟩⟩ := s
  have e : ∀ a b : ByteArray, a.data = b.data → a = b := fun a b h => by cases a; cases b; simp_all
  apply e
  rw [ByteArray.data_extract]
  simp [List.extract]

theorem of_any (k n : Int) (w : World) : Calls Tryd.prog 12 #[.int .i64 k, .int .i64 n] w fun e w' => e = .returned (.agg #[.int .i64 k, .int .i64 n, .string ⟨#[]⟩]) ∧ Below w.heap.size w w' := by
  go_enter Tryd.func12, Tryd.ntmps12
  go_wp2_with fail
  try simp only [Exit.inBlock, Exit.then]
  refine bodyPost_ret (box_ret (k := k) (n := n) (s := ⟨#[]⟩) rfl rfl ?_) rfl ?_
  · exact Bx.made _ _ _ _
  · exact ⟨rfl, (Below.refl _ _).alloc (Nat.le_refl _) _⟩

theorem few_any (k n : Int) (s : ByteArray) (hs : s.size ≤ maxLen) (w : World) :
    Calls Tryd.prog 14 #[.agg #[.int .i64 k, .int .i64 n, .string s]] w fun e w' => e = .returned (fewV ⟨k, n, s⟩).val ∧ Below w.heap.size w w' := by
  unfold maxLen at hs
  have two : ∀ x y : Obj, Below w.heap.size w ((w.alloc x).alloc y) := fun x y => ((Below.refl _ _).alloc (Nat.le_refl _) _).alloc (by rw [size_al]; omega) _
  have TWO := Lib.hid two
  clear two
  have b2 : ∀ (s : ByteArray) (o : Obj), Bx ((w.alloc o).alloc (.cells #[.int .i64 k, .int .i64 n, .string s] 26)) (w.heap.size + 1) k n s := fun s o => by
    have := Bx.made (w.alloc o) k n s
    rwa [size_al] at this
  have B2 := Lib.hid b2
  clear b2
  by_cases h : 80 < s.size
  · go_enter Tryd.func14, Tryd.ntmps14
    go_wp2_with fail
    try simp only [Exit.inBlock, Exit.then]
    refine bodyPost_ret (box_ret rfl rfl (B2.out _ _)) rfl ?_
    refine ⟨?_, TWO.out _ _⟩
    rw [cut_eq]; rfl
  · have hl : s.data.toList.length = s.size := by rw [Array.length_toList]; rfl
    have HF : Hid (s = ⟨(s.data.toList.take 80).toArray⟩) := by
      show _ = _
      rw [List.take_of_length_le (by omega)]
    clear hl
    go_enter Tryd.func14, Tryd.ntmps14
    go_wp2_with fail
    try simp only [Exit.inBlock, Exit.then]
    refine bodyPost_ret (box_ret rfl rfl (B2.out _ _)) rfl ?_
    refine ⟨?_, TWO.out _ _⟩
    have := HF.out
    unfold Vl.val fewV Vl.l
    dsimp only
    rw [← this]
end Go.Proofs.YtjplgcjpnofgbaaDoor
