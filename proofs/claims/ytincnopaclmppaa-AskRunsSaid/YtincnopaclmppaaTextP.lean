/- pack.Text. -/
import Derived.Test.YtincnopaclmppaaNum
namespace Go.Proofs.Ytincnopaclmppaa
open Go.RowKit

set_option maxHeartbeats 800000 in
theorem text_any {w : World} {B n c : Nat} {A : Option Addr} {l : List UInt8} {s : ByteArray} (h : Sl w B A n c (bv l)) (hB : B ≤ w.heap.size) (hn : n ≤ 70368744177664) (hs : s.size ≤ 35184372088832) :
    Calls Try.prog 32 #[.slice A n c, .string s] w fun e w' => ∃ A' n' c', e = .returned (.slice A' n' c') ∧ w'.ownsRow w.heap.size 5 1 (.slice A' n' c') n' (bv (l ++ textB s.data.toList)) ∧ Below w.heap.size w w' := by
  obtain ⟨i, hi, hz0, hz1, hz2⟩ := info_parts u8info
  have hc := num_any (k := (s.size : Int)) h hB hn (by omega) (by omega)
  have hlen := h.len
  rw [bv_len] at hlen
  have HC := Lib.hid hc
  have HL := Lib.hid hlen
  clear hc hlen h
  go_enter Try.func32, Try.ntmps32
  go_wp2_with fail
  refine HC.out.mono ?_
  rintro e w1 ⟨A1, n1, c1, rfl, hown, hbel⟩
  have hn1 : n1 = n + (numB (s.size : Int)).length := by have := hown.1; have e := HL.out; simp [bv_len] at this; omega
  have hnl := numB_len (n := (s.size : Int)) (by omega) (by omega)
  obtain ⟨A2, c2, w2, hap, hown2, hbel2⟩ := append_text (P := Try.prog) (ty := 22) Try.underlying22 hi hz0 hz1 hz2 Try.underlying9 hown s (by omega) hbel.size
  have HO := Lib.hid hown2
  have HAP := Lib.hid hap
  clear hown hown2 hap hn1 hnl
  go_wp2_with (at_builtin; refine wpList_append_run rfl _ _ _ _ rfl rfl rfl HAP.out ?_)
  go_ret
  refine ⟨A2, _, c2, rfl, ?_, hbel.trans hbel2⟩
  have e := HO.out
  rw [textB, ← List.append_assoc, bv_app]
  have e2 : (s.data.toList.length : Int) = (s.size : Int) := by rw [Array.length_toList]; rfl
  rw [e2]
  exact e

theorem num_nil (w : World) (k : Int) (hk1 : -9223372036854775808 ≤ k) (hk2 : k ≤ 9223372036854775807) :
    Calls Try.prog 30 #[.slice none 0 0, .int .i64 k] w fun e w' => ∃ A n c, e = .returned (.slice A n c) ∧ w'.ownsRow w.heap.size 5 1 (.slice A n c) n (bv (numB k)) ∧ Below w.heap.size w w' :=
  num_any (l := []) (Sl.nil_ w 0) (by omega) (by omega) hk1 hk2
theorem text_nil (w : World) (s : ByteArray) (hs : s.size ≤ 35184372088832) :
    Calls Try.prog 32 #[.slice none 0 0, .string s] w fun e w' => ∃ A n c, e = .returned (.slice A n c) ∧ w'.ownsRow w.heap.size 5 1 (.slice A n c) n (bv (textB s.data.toList)) ∧ Below w.heap.size w w' :=
  text_any (l := []) (Sl.nil_ w 0) (by omega) (by omega) hs
end Go.Proofs.Ytincnopaclmppaa
