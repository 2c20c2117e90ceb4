/- The reference's PutValue once more: behind it, blocks that hold no bytes stand as they were. -/
import Derived.Test.YtjpkemamfccfdaaAskA
import Derived.Test.YtjpkemamfccfdaaAskB
import Derived.Test.YtjpkemamfccfdaaRefKeep
namespace Go.Proofs.Ytjpkemamfccfdaa
set_option linter.unusedVariables false
open Go.RowKit

set_option maxHeartbeats 1600000 in
theorem vrefput_keep {w : World} {base n c : Nat} {A : Option Addr} {l : List UInt8} (h : w.ownsRow base 5 1 (.slice A n c) n (bv l)) (hB : base ≤ w.heap.size) (hn : n ≤ 10000000000000) {k m : Int} {s : ByteArray} (hk : -9223372036854775808 ≤ k ∧ k ≤ 9223372036854775807) (hm : -9223372036854775808 ≤ m ∧ m ≤ 9223372036854775807) (hs : s.size ≤ 1000000) :
    Calls Try.prog 53 #[.slice A n c, .agg #[.int .i64 k, .int .i64 m, .string s]] w fun e w' => ∃ A' n' c', e = .returned (.slice A' n' c') ∧ w'.ownsRow base 5 1 (.slice A' n' c') n' (bv (l ++ putB ⟨k, m, s⟩)) ∧ Below base w w' ∧ RKeeps w w' := by
  have hlen : l.length = n := by have := h.1; rw [bv_len] at this; omega
  have h0 := refnum_keep (k := k) (h.alloc (.cells #[.int .i64 k, .int .i64 m, .string s] 25)) (by rw [size_al]; omega) (by omega) hk.1 hk.2
  have HL := Lib.hid hlen
  have H0 := Lib.hid h0
  have HN := Lib.hid (numB_len hk.1 hk.2)
  have HB := Lib.hid hB
  clear h h0 hlen hB
  go_enter Try.func53, Try.ntmps53
  go_wp2_with fail
  refine H0.out.mono ?_
  rintro e w1 ⟨A1, n1, c1, rfl, hown, hb1, hk1⟩
  have HN1 : Hid (n1 ≤ 10000000000010) := by show _ ≤ _; have := hown.1; have e := HL.out; have e2 := HN.out; simp [bv_len] at this; omega
  have b1 := Bx.c3 (hk1 _ _ _ (by decide) (Bx.made w k m s))
  have D1 := Lib.hid (((Below.refl base w).alloc HB.out _).trans hb1)
  have HB1 : Hid (base ≤ w1.heap.size) := Nat.le_trans HB.out D1.out.size
  have O1 := Lib.hid hown
  have KP1 := Lib.hid ((KeepsT.alloc (E := 5) w (.cells #[.int .i64 k, .int .i64 m, .string s] 25)).trans hk1)
  clear hown hb1 hk1
  by_cases h3 : k = 3
  · subst h3
    have HT : Hid (inT 3 = true) := rfl
    have C2 := Lib.hid (fun hn1 : n1 ≤ 10000000000010 => reftext_keep (s := s) O1.out HB1.out (by omega) (by omega))
    go_wp2_with fail
    refine (C2.out HN1.out).mono ?_
    rintro e w3 ⟨A3, n3, c3, rfl, hown, hb3, hk3⟩
    have O3 := Lib.hid hown
    have D3 := Lib.hid (D1.out.trans hb3)
    have KP3 := Lib.hid (KP1.out.trans hk3)
    clear hown hb3 hk3
    go_wp2_with fail
    go_ret
    refine ⟨A3, n3, c3, rfl, ?_, D3.out, KP3.out⟩
    rw [put_text HT.out, ← List.append_assoc]
    exact O3.out
  by_cases h5 : k = 5
  · subst h5
    have HT : Hid (inT 5 = true) := rfl
    have C2 := Lib.hid (fun hn1 : n1 ≤ 10000000000010 => reftext_keep (s := s) O1.out HB1.out (by omega) (by omega))
    go_wp2_with fail
    refine (C2.out HN1.out).mono ?_
    rintro e w3 ⟨A3, n3, c3, rfl, hown, hb3, hk3⟩
    have O3 := Lib.hid hown
    have D3 := Lib.hid (D1.out.trans hb3)
    have KP3 := Lib.hid (KP1.out.trans hk3)
    clear hown hb3 hk3
    go_wp2_with fail
    go_ret
    refine ⟨A3, n3, c3, rfl, ?_, D3.out, KP3.out⟩
    rw [put_text HT.out, ← List.append_assoc]
    exact O3.out
  · have h3' : (k == 3) = false := by rw [beq_eq_false_iff_ne]; exact h3
    have h5' : (k == 5) = false := by rw [beq_eq_false_iff_ne]; exact h5
    have HT : Hid (inT k = false) := by show _ = _; unfold inT; rw [decide_eq_false h3, decide_eq_false h5]; rfl
    clear h3 h5
    have C2 := Lib.hid (fun hn1 : n1 ≤ 10000000000010 => refnum_keep (k := m) O1.out HB1.out (by omega) hm.1 hm.2)
    go_wp2_with fail
    refine (C2.out HN1.out).mono ?_
    rintro e w3 ⟨A3, n3, c3, rfl, hown, hb3, hk3⟩
    have O3 := Lib.hid hown
    have D3 := Lib.hid (D1.out.trans hb3)
    have KP3 := Lib.hid (KP1.out.trans hk3)
    clear hown hb3 hk3
    go_wp2_with fail
    go_ret
    refine ⟨A3, n3, c3, rfl, ?_, D3.out, KP3.out⟩
    rw [put_num HT.out, ← List.append_assoc]
    exact O3.out
end Go.Proofs.Ytjpkemamfccfdaa
