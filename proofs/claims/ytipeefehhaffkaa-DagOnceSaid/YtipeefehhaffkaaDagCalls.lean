/- The diagram's calls as the laws make them. -/
import Derived.Test.YtipeefehhaffkaaDagMake
import Derived.Test.YtipeefehhaffkaaDagWalk
import Derived.Test.YtipeefehhaffkaaDagSizeW
namespace Go.Proofs.Ytipeefehhaffkaa
set_option linter.unusedVariables false
open Go.RowKit Go.Sort

section
variable {w : World} {base g : Nat} {most : Int} {A : Option Addr} {n c : Nat} {l : List Br}
theorem new_at (most : Int) (h0 : 1 ≤ most) (h1 : most ≤ 2000) (hb : base ≤ w.heap.size) : Calls Try.prog 8 #[.int .i64 most] w fun e w' => ∃ g, e = .returned (.tuple #[.pointer (some ⟨g, 0, none⟩), .int .i64 0]) ∧ DgAt 57 w' base g most none 0 0 [] ∧ Below w.heap.size w w' :=
  (new_ok most w h0 h1).mono fun e w' ⟨he, hw⟩ => ⟨_, he, by rw [hw]; exact DgAt.new_ hb h0 h1, by rw [hw]; exact below1 _ _⟩
theorem make_is {p q : Int} {l' : List Br} (h : DgAt 57 w base g most A n c l) {b : Br} (hb : b.ok) (hm : makeD most l b = (p, q, l')) :
    Calls Try.prog 9 #[.pointer (some ⟨g, 0, none⟩), .agg #[.int .i64 b.a, .int .i64 b.x, .int .i64 b.y, .int .i64 b.z]] w fun e w' => e = .returned (.tuple #[.int .i64 p, .int .i64 q]) ∧ Below base w w' ∧ ∃ A' n' c', DgAt 57 w' base g most A' n' c' l' :=
  (make_any h b hb).mono fun e w' ⟨A', n', c', he, hd, hk⟩ => ⟨by rw [he, hm], hk.below h.2.2.1.2 (fun k hk => (h.lt k hk).1), A', n', c', by rw [hm] at hd; exact hd⟩
set_option maxRecDepth 100000 in
theorem bl_any (a x y z : Int) : Calls Try.prog 10 #[.int .i64 a, .int .i64 x, .int .i64 y, .int .i64 z] w fun e w' => e = .returned (.agg #[.int .i64 a, .int .i64 x, .int .i64 y, .int .i64 z]) ∧ Below w.heap.size w w' := by
  go_enter Try.func10, Try.ntmps10
  go_wp2_with fail
  try simp only [Exit.inBlock, Exit.then]
  refine bodyPost_ret (br_ret rfl rfl (Ob.made _ _ _)) rfl ?_
  exact ⟨rfl, below1 _ _⟩
end
theorem Below.up {B : Nat} {a b c : World} (h : Below B a b) (hB : B ≤ b.heap.size) (k : Below b.heap.size b c) : Below B a c := h.trans (k.mono hB)
end Go.Proofs.Ytipeefehhaffkaa
