/- bailiffbook.Same over values: of a list and itself. -/
import Derived.Test.YtjplgcjpnofgbaaDoorVals
namespace Go.Proofs.YtjplgcjpnofgbaaDoor
set_option linter.unusedVariables false
open Go.RowKit

set_option maxHeartbeats 800000 in
theorem vsame_any {w : World} {B B' n c c' : Nat} {A A' : Option Addr} {l : List Vl} (h : Vs w B A n c l) (h' : Vs w B' A' n c' l) :
    Calls Tryd.prog 47 #[.slice A n c, .slice A' n c'] w fun e w' => e = .returned (.bool true) ∧ ∃ k, w' = w.drewN k := by
  have hcap := h.2.2.1
  have hle := h.2.1
  have hle' := h'.2.1
  unfold maxLen at hcap
  have H := Lib.hid h
  have H' := Lib.hid h'
  clear h h'
  go_enter Tryd.func47, Tryd.ntmps47
  go_wp2
  go_loopw [5] (fun i wr => ∃ k : Nat, k ≤ n ∧ i = .int .i64 k ∧ ∃ q, wr = w.drewN q) (fun i _ => n - (intOf i).toNat)
  case atStart => exact ⟨0, Nat.zero_le _, rfl, 0, rfl⟩
  case round =>
    obtain ⟨k, hk, rfl, q, rfl⟩ := hrel
    by_cases hlt : k < n
    · obtain ⟨b, o, x, rfl, _, hx, _, x0, x1, x2⟩ := H.out.at_ hlt
      obtain ⟨b', o', y, rfl, _, hy, _, y0, y1, y2⟩ := H'.out.at_ hlt
      obtain rfl := Option.some.inj (hx.symm.trans hy)
      obtain ⟨kx, nx, sx⟩ := x
      have hve := val_eq kx nx kx nx sx sx
      rw [veq_true rfl] at hve
      clear hx hy
      go_wp2_with fail
      go_quiet (fail)
      go_wp2
      go_roundw
      case rel => exact ⟨k + 1, by omega, by go_num, _, rfl⟩
      case measure => simp [intOf]; omega
    · obtain rfl : k = n := by omega
      go_wp2
      go_ret
      exact ⟨rfl, _, rfl⟩
end Go.Proofs.YtjplgcjpnofgbaaDoor
