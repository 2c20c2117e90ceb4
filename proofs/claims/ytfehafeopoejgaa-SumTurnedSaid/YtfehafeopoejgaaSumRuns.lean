/- SumRuns: the walk. -/
import Derived.Test.YtfehafeopoejgaaSums
import Derived.Test.YtfehafeopoejgaaMake
import Derived.Lib.SlBytesConst
namespace Go.Proofs.Ytfehafeopoejgaa
open Go.RowKit

theorem sum_nil (w : World) : Calls Try.prog 8 #[.slice none 0 0] w fun e w' => e = .returned (.int .u32 0) ∧ w = w' :=
  (sum_any (l := []) (Sl.nil_ w 0)).mono fun _ _ ⟨h, hw⟩ => ⟨by rw [h, crcOf_nil]; rfl, hw⟩
theorem sum_digits (w : World) {B n c : Nat} {A : Option Addr} (h : Sl w B A n c (bv [49, 50, 51, 52, 53, 54, 55, 56, 57])) : Calls Try.prog 8 #[.slice A n c] w fun e w' => e = .returned (.int .u32 3421780262) ∧ w = w' :=
  (sum_any h).mono fun _ _ ⟨h, hw⟩ => ⟨by rw [h, crcOf_digits]; rfl, hw⟩

/-- The bytes of a text that stands in the code. -/
theorem Sl.lit_mark (w : World) (t : TypeId) (cs : List Value) (n : Nat) (f : Nat × Nat) (hn : cs.length = n) (h63 : n ≤ maxLen) : Sl (w.alloc (.cells cs.toArray t f)) (w.heap.size + 1) (some ⟨w.heap.size, 0, none⟩) n n cs := by
  refine ⟨hn, Nat.le_refl _, h63, .inr ⟨w.heap.size, 0, rfl, by omega, fun j u hu => ?_⟩⟩
  rw [Nat.zero_add, World.cell?_alloc_mark]
  simpa using hu

set_option maxHeartbeats 800000 in
theorem runs_any (w : World) : Calls Try.prog 3 #[] w fun e w' => e = .returned (.bool true) ∧ Below w.heap.size w w' := by
  have kc := fun (w : World) (C : Array Value) (n c : Nat) => Lib.run_convert_bytes_const (P := Try.prog) w 24 5 C n c Try.underlying24 Try.underlying5
  have C := sum_digits _ (Sl.lit_mark w 5 (bv [49, 50, 51, 52, 53, 54, 55, 56, 57]) 9 (9, 10) rfl (by decide))
  have HC := Lib.hid C
  clear C
  go_enter Try.func3, Try.ntmps3
  go_wp2_with fail
  refine (sum_nil _).mono ?_
  rintro e w' ⟨rfl, rfl⟩
  go_wp2_with fail
  refine HC.out.mono ?_
  rintro e w' ⟨rfl, rfl⟩
  go_wp2_with fail
  go_ret
  exact ⟨rfl, (Below.refl _ w).alloc (Nat.le_refl _) _⟩
theorem sumRuns_walk (w : World) : Calls Try.prog 3 #[] w fun e w' => e = .returned (.bool true) ∧ Below w.heap.size w w' := runs_any w
end Go.Proofs.Ytfehafeopoejgaa
