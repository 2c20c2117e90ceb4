/- Put: the project's and the reference's. -/
import Derived.Test.YtjplgcjpnofgbaaDoorVRight
import Derived.Test.YtjplgcjpnofgbaaDoorVBox
import Derived.Test.YtjplgcjpnofgbaaDoorRefKeep
namespace Go.Proofs.YtjplgcjpnofgbaaDoor
set_option linter.unusedVariables false
open Go.RowKit

theorem own_base {w : World} {base base' e n : Nat} {v : Value} {xs : List Value} (h : w.ownsRow base e 1 v n xs) (hb : base' ≤ base) : w.ownsRow base' e 1 v n xs := by
  obtain ⟨h1, h2⟩ := h
  refine ⟨h1, ?_⟩
  rcases h2 with h2 | ⟨g, cap, cur, a, b, r⟩
  · exact .inl h2
  · exact .inr ⟨g, cap, cur, a, Nat.le_trans hb b, r⟩
theorem put_text {k n : Int} {s : ByteArray} (h : inT k = true) : putB ⟨k, n, s⟩ = numB k ++ textB s.data.toList := by unfold putB; rw [if_pos h]; rfl
theorem put_num {k n : Int} {s : ByteArray} (h : inT k = false) : putB ⟨k, n, s⟩ = numB k ++ numB n := by unfold putB; rw [if_neg (by rw [h]; simp)]

set_option maxHeartbeats 1600000 in
theorem vput_any {w : World} {B n c : Nat} {A : Option Addr} {l : List UInt8} (h : Sl w B A n c (bv l)) (hB : B ≤ w.heap.size) (hn : n ≤ 1000000) {k m : Int} {s : ByteArray} (hk : -9223372036854775808 ≤ k ∧ k ≤ 9223372036854775807) (hm : -9223372036854775808 ≤ m ∧ m ≤ 9223372036854775807) (hs : s.size ≤ 1000000) :
    Calls Tryd.prog 19 #[.slice A n c, .agg #[.int .i64 k, .int .i64 m, .string s]] w fun e w' => ∃ A' n' c', e = .returned (.slice A' n' c') ∧ w'.ownsRow w.heap.size 5 1 (.slice A' n' c') n' (bv (l ++ putB ⟨k, m, s⟩)) ∧ Below w.heap.size w w' := by
  have hlen := h.len
  rw [bv_len] at hlen
  have h0 := num_any (k := k) (h.lit_keep hB (.cells #[.int .i64 k, .int .i64 m, .string s] 26)) (by rw [size_al]; omega) (by omega) hk.1 hk.2
  have HL := Lib.hid hlen
  have H0 := Lib.hid h0
  have HI := Lib.hid (inT_any k)
  have HN := Lib.hid (numB_len hk.1 hk.2)
  clear h h0 hlen
  go_enter Tryd.func19, Tryd.ntmps19
  go_wp2_with fail
  refine H0.out.mono ?_
  rintro e w1 ⟨A1, n1, c1, rfl, hown, hb1⟩
  have hn1 : n1 ≤ 1000010 := by have := hown.1; have e := HL.out; have e2 := HN.out; simp [bv_len] at this; omega
  have b1 := ((Bx.made w k m s).then_ hb1).c3
  have D1 := Lib.hid (Below.lit hb1)
  have S1 := Lib.hid (Sl.of_own hown)
  clear hown hb1
  cases ht : inT k
  · have c2 := num_any (k := m) S1.out (Nat.le_refl _) (by omega) hm.1 hm.2
    have C2 := Lib.hid c2
    have HT := Lib.hid ht
    clear c2
    have hi := HI.out w1
    rw [ht] at hi
    have HI1 := Lib.hid hi
    clear hi ht
    go_wp2_with fail
    refine HI1.out.mono ?_
    rintro e w2 ⟨rfl, hw2⟩
    subst hw2
    go_wp2_with fail
    refine C2.out.mono ?_
    rintro e w3 ⟨A3, n3, c3, rfl, hown, hb3⟩
    have O3 := Lib.hid hown
    have D3 := Lib.hid (below_step D1.out hb3)
    clear hown hb3
    go_wp2_with fail
    go_ret
    refine ⟨A3, n3, c3, rfl, ?_, D3.out⟩
    rw [put_num HT.out, ← List.append_assoc]
    exact own_base O3.out D1.out.size
  · have c2 := text_any (s := s) S1.out (Nat.le_refl _) (by omega) (by omega)
    have C2 := Lib.hid c2
    have HT := Lib.hid ht
    clear c2
    have hi := HI.out w1
    rw [ht] at hi
    have HI1 := Lib.hid hi
    clear hi ht
    go_wp2_with fail
    refine HI1.out.mono ?_
    rintro e w2 ⟨rfl, hw2⟩
    subst hw2
    go_wp2_with fail
    refine C2.out.mono ?_
    rintro e w3 ⟨A3, n3, c3, rfl, hown, hb3⟩
    have O3 := Lib.hid hown
    have D3 := Lib.hid (below_step D1.out hb3)
    clear hown hb3
    go_wp2_with fail
    go_ret
    refine ⟨A3, n3, c3, rfl, ?_, D3.out⟩
    rw [put_text HT.out, ← List.append_assoc]
    exact own_base O3.out D1.out.size

set_option maxHeartbeats 1600000 in
theorem vrefput_any {w : World} {base n c : Nat} {A : Option Addr} {l : List UInt8} (h : w.ownsRow base 5 1 (.slice A n c) n (bv l)) (hB : base ≤ w.heap.size) (hn : n ≤ 1000000) {k m : Int} {s : ByteArray} (hk : -9223372036854775808 ≤ k ∧ k ≤ 9223372036854775807) (hm : -9223372036854775808 ≤ m ∧ m ≤ 9223372036854775807) (hs : s.size ≤ 1000000) :
    Calls Tryd.prog 20 #[.slice A n c, .agg #[.int .i64 k, .int .i64 m, .string s]] w fun e w' => ∃ A' n' c', e = .returned (.slice A' n' c') ∧ w'.ownsRow base 5 1 (.slice A' n' c') n' (bv (l ++ putB ⟨k, m, s⟩)) ∧ Below base w w' := by
  have hlen : l.length = n := by have := h.1; rw [bv_len] at this; omega
  have h0 := refnum_keep (k := k) (h.alloc (.cells #[.int .i64 k, .int .i64 m, .string s] 26)) (by rw [size_al]; omega) (by omega) hk.1 hk.2
  have HL := Lib.hid hlen
  have H0 := Lib.hid h0
  have HN := Lib.hid (numB_len hk.1 hk.2)
  have HB := Lib.hid hB
  clear h h0 hlen hB
  go_enter Tryd.func20, Tryd.ntmps20
  go_wp2_with fail
  refine H0.out.mono ?_
  rintro e w1 ⟨A1, n1, c1, rfl, hown, hb1, hk1⟩
  have HN1 : Hid (n1 ≤ 1000010) := by show _ ≤ _; have := hown.1; have e := HL.out; have e2 := HN.out; simp [bv_len] at this; omega
  have b1 := Bx.c3 (hk1 _ _ _ (by decide) (Bx.made w k m s))
  have D1 := Lib.hid (((Below.refl base w).alloc HB.out _).trans hb1)
  have HB1 : Hid (base ≤ w1.heap.size) := Nat.le_trans HB.out D1.out.size
  have O1 := Lib.hid hown
  clear hown hb1 hk1
  by_cases h3 : k = 3
  · subst h3
    have HT : Hid (inT 3 = true) := rfl
    have C2 := Lib.hid (fun hn1 : n1 ≤ 1000010 => reftext_keep (s := s) O1.out HB1.out (by omega) (by omega))
    go_wp2_with fail
    refine (C2.out HN1.out).mono ?_
    rintro e w3 ⟨A3, n3, c3, rfl, hown, hb3, _⟩
    have O3 := Lib.hid hown
    have D3 := Lib.hid (D1.out.trans hb3)
    clear hown hb3
    go_wp2_with fail
    go_ret
    refine ⟨A3, n3, c3, rfl, ?_, D3.out⟩
    rw [put_text HT.out, ← List.append_assoc]
    exact O3.out
  by_cases h5 : k = 5
  · subst h5
    have HT : Hid (inT 5 = true) := rfl
    have C2 := Lib.hid (fun hn1 : n1 ≤ 1000010 => reftext_keep (s := s) O1.out HB1.out (by omega) (by omega))
    go_wp2_with fail
    refine (C2.out HN1.out).mono ?_
    rintro e w3 ⟨A3, n3, c3, rfl, hown, hb3, _⟩
    have O3 := Lib.hid hown
    have D3 := Lib.hid (D1.out.trans hb3)
    clear hown hb3
    go_wp2_with fail
    go_ret
    refine ⟨A3, n3, c3, rfl, ?_, D3.out⟩
    rw [put_text HT.out, ← List.append_assoc]
    exact O3.out
  · have h3' : (k == 3) = false := by rw [beq_eq_false_iff_ne]; exact h3
    have h5' : (k == 5) = false := by rw [beq_eq_false_iff_ne]; exact h5
    have HT : Hid (inT k = false) := by show _ = _; unfold inT; rw [decide_eq_false h3, decide_eq_false h5]; rfl
    clear h3 h5
    have C2 := Lib.hid (fun hn1 : n1 ≤ 1000010 => refnum_keep (k := m) O1.out HB1.out (by omega) hm.1 hm.2)
    go_wp2_with fail
    refine (C2.out HN1.out).mono ?_
    rintro e w3 ⟨A3, n3, c3, rfl, hown, hb3, _⟩
    have O3 := Lib.hid hown
    have D3 := Lib.hid (D1.out.trans hb3)
    clear hown hb3
    go_wp2_with fail
    go_ret
    refine ⟨A3, n3, c3, rfl, ?_, D3.out⟩
    rw [put_num HT.out, ← List.append_assoc]
    exact O3.out
end Go.Proofs.YtjplgcjpnofgbaaDoor
