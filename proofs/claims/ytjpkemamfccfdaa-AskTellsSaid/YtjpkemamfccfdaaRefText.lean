/- bailiffref1.Text: behind bytes of the call's own. -/
import Derived.Test.YtjpkemamfccfdaaRefNum
namespace Go.Proofs.Ytjpkemamfccfdaa
set_option linter.unusedVariables false
open Go.RowKit

set_option maxHeartbeats 800000 in
theorem reftext_any {w : World} {base n c : Nat} {A : Option Addr} {l : List UInt8} {s : ByteArray} (h : w.ownsRow base 5 1 (.slice A n c) n (bv l)) (hB : base ≤ w.heap.size) (hn : n ≤ 70368744177664) (hs : s.size ≤ 35184372088832) :
    Calls Try.prog 52 #[.slice A n c, .string s] w fun e w' => ∃ A' n' c', e = .returned (.slice A' n' c') ∧ w'.ownsRow base 5 1 (.slice A' n' c') n' (bv (l ++ textB s.data.toList)) ∧ Below base w w' := by
  obtain ⟨i, hi, hz0, hz1, hz2⟩ := info_parts u8info
  have hc := refnum_any (k := (s.size : Int)) h hB hn (by omega) (by omega)
  have hlen : l.length = n := by have := h.1; rw [bv_len] at this; omega
  have HC := Lib.hid hc
  have HL := Lib.hid hlen
  clear hc hlen h
  go_enter Try.func52, Try.ntmps52
  go_wp2_with fail
  refine HC.out.mono ?_
  rintro e w1 ⟨A1, n1, c1, rfl, hown, hbel⟩
  have hn1 : n1 = n + (numB (s.size : Int)).length := by have := hown.1; have e := HL.out; simp [bv_len] at this; omega
  have hnl := numB_len (n := (s.size : Int)) (by omega) (by omega)
  obtain ⟨A2, c2, w2, hap, hown2, hbel2⟩ := append_text (P := Try.prog) (ty := 61) Try.underlying61 hi hz0 hz1 hz2 Try.underlying9 hown s (by omega) (Nat.le_trans hB hbel.size)
  have HO := Lib.hid hown2
  have HAP := Lib.hid hap
  clear hown hown2 hap hn1 hnl
  go_wp2_with (at_builtin; refine wpList_append_run rfl _ _ _ _ rfl rfl rfl HAP.out ?_)
  go_ret
  refine ⟨A2, _, c2, rfl, ?_, hbel.trans hbel2⟩
  have e := HO.out
  rw [textB, ← List.append_assoc, bv_app]
  have e2 : (s.data.toList.length : Int) = (s.size : Int) := by rw [Array.length_toList]; rfl
  rw [e2]
  exact e
end Go.Proofs.Ytjpkemamfccfdaa
