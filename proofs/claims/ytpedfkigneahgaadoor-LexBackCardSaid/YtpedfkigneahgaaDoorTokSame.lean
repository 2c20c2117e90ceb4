/- Tokens held against each other by ==; bailiffbook.Same over rows of tokens. -/
import Derived.Test.YtpedfkigneahgaaDoorToks
import Derived.Laws.StructEq
import Derived.Laws.Tables
import Derived.Laws.Cover2
namespace Go.Proofs.YtpedfkigneahgaaDoor
set_option linter.unusedVariables false
open Go.RowKit

/-- Are two tokens the same? -/
def teq (a b : Tk) : Bool := decide (a = b)
theorem teq_true {a b : Tk} (h : a = b) : teq a b = true := decide_eq_true h
theorem teq_false {a b : Tk} (h : a ≠ b) : teq a b = false := decide_eq_false h

theorem tok_eq (k p n k' p' n' : Int) (s s' : ByteArray) (w : World) :
    (Op.equalIn 10000 30 (.agg #[.int .i64 k, .int .i64 p, .int .i64 n, .string s]) (.agg #[.int .i64 k', .int .i64 p', .int .i64 n', .string s'])).run Tryd.prog w = .ok (teq ⟨k, p, n, s⟩ ⟨k', p', n', s'⟩) w := by
  have u3 := Tryd.underlying3
  have a3 := Tryd.isAgg3
  have z3 := Tryd.sizeOf3
  have u9 := Tryd.underlying9
  have a9 := Tryd.isAgg9
  have z9 := Tryd.sizeOf9
  have hS : Tryd.prog.underlying 30 = some (.struct (Tryd.prog.fieldsOf 30)) := by kernel_rfl
  have hp : Tryd.prog.stoodInHeld 30 = false := by kernel_rfl
  rw [show (10000 : Nat) = 9999 + 1 from rfl, run_equalIn_agg w 9999 30 _ _ hS hp]
  simp only [Program.fieldsOf, Tryd.underlying30]
  go_simp
  have hts : (s.toList = s'.toList) = (s = s') := propext ⟨fun c => by
    have h : s.data.toList = s'.data.toList := by rw [← ByteArray.toList_eq, ← ByteArray.toList_eq]; exact c
    obtain ⟨⟨x⟩⟩ := s
    obtain ⟨⟨y⟩⟩ := s'
    simp_all, fun h => by rw [h]⟩
  simp only [hts]
  unfold teq
  by_cases h1 : k = k' <;> by_cases h2 : p = p' <;> by_cases h3 : n = n' <;> by_cases h4 : s = s' <;> simp [h1, h2, h3, h4]

set_option maxHeartbeats 800000 in
theorem tsame_any {w : World} {B B' n c c' : Nat} {A A' : Option Addr} {l : List Tk} (h : Ts w B A n c l) (h' : Ts w B' A' n c' l) :
    Calls Tryd.prog 21 #[.slice A n c, .slice A' n c'] w fun e w' => e = .returned (.bool true) ∧ ∃ k, w' = w.drewN k := by
  have hcap := h.2.2.1
  have hle := h.2.1
  have hle' := h'.2.1
  unfold maxLen at hcap
  have H := Lib.hid h
  have H' := Lib.hid h'
  clear h h'
  go_enter Tryd.func21, Tryd.ntmps21
  go_wp2
  go_loopw [5] (fun i wr => ∃ k : Nat, k ≤ n ∧ i = .int .i64 k ∧ ∃ q, wr = w.drewN q) (fun i _ => n - (intOf i).toNat)
  case atStart => exact ⟨0, Nat.zero_le _, rfl, 0, rfl⟩
  case round =>
    obtain ⟨k, hk, rfl, q, rfl⟩ := hrel
    by_cases hlt : k < n
    · obtain ⟨b, o, x, rfl, _, hx, x0, x1, x2, x3⟩ := H.out.at_ hlt
      obtain ⟨b', o', y, rfl, _, hy, y0, y1, y2, y3⟩ := H'.out.at_ hlt
      obtain rfl := Option.some.inj (hx.symm.trans hy)
      obtain ⟨kx, px, nx, sx⟩ := x
      have hve := tok_eq kx px nx kx px nx sx sx
      rw [teq_true rfl] at hve
      clear hx hy
      go_wp2_with fail
      go_quiet (fail)
      go_wp2
      go_roundw
      case rel => exact ⟨k + 1, by omega, by go_num, _, rfl⟩
      case measure => simp [intOf]; omega
    · obtain rfl : k = n := by omega
      go_wp2
      go_ret
      exact ⟨rfl, _, rfl⟩
end Go.Proofs.YtpedfkigneahgaaDoor
