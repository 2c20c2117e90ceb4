/- Quoted texts: the reference's. -/
import Derived.Test.YtjplgcjpnofgbaaDoorVQuote
namespace Go.Proofs.YtjplgcjpnofgbaaDoor
set_option linter.unusedVariables false
open Go.RowKit

theorem hexd_big {x : Nat} (h : 10 ≤ x) (h2 : x < 16) : ((hexd x).toNat : Int) = 97 + x - 10 := by
  unfold hexd
  rw [if_neg (by omega)]
  have := ofNat_toNat (show 87 + x < 256 by omega)
  rw [this]; omega
theorem hexd_small {x : Nat} (h : x < 10) : ((hexd x).toNat : Int) = 48 + x := by
  unfold hexd
  rw [if_pos h]
  have := ofNat_toNat (show 48 + x < 256 by omega)
  rw [this]; omega
theorem hex_any {i : Int} {x : Nat} (hi : i = (x : Int)) (hx : x < 16) (w : World) : Calls Tryd.prog 58 #[.int .u8 i] w fun e w' => e = .returned (.int .u8 ((hexd x).toNat : Int)) ∧ w' = w := by
  subst hi
  by_cases h : x < 10
  · have HH := Lib.hid (hexd_small h)
    go_enter Tryd.func58, Tryd.ntmps58
    go_wp2_with fail
    go_ret
    exact ⟨ret_int (by have := HH.out; omega), rfl⟩
  · have HH := Lib.hid (hexd_big (by omega) hx)
    go_enter Tryd.func58, Tryd.ntmps58
    go_wp2_with fail
    go_ret
    exact ⟨ret_int (by have := HH.out; omega), rfl⟩

theorem byte_ways2 (c : UInt8) : ((c.toNat : Int) < 32) ∨ (32 ≤ (c.toNat : Int) ∧ 126 < (c.toNat : Int)) ∨ ((32 ≤ (c.toNat : Int) ∧ (c.toNat : Int) ≤ 126) ∧ ((c.toNat : Int) == 34) = true) ∨ ((32 ≤ (c.toNat : Int) ∧ (c.toNat : Int) ≤ 126) ∧ ((c.toNat : Int) == 34) = false ∧ ((c.toNat : Int) == 92) = true) ∨
    ((32 ≤ (c.toNat : Int) ∧ (c.toNat : Int) ≤ 126) ∧ ((c.toNat : Int) == 34) = false ∧ ((c.toNat : Int) == 92) = false) := by
  simp only [beq_eq_false_iff_ne, beq_iff_eq]; omega

set_option maxHeartbeats 1600000 in
theorem refquote_any (s : ByteArray) (hs : s.size ≤ 1000000) (w : World) :
    Calls Tryd.prog 46 #[.string s] w fun e w' => e = .returned (.string ⟨(quoteB s.data.toList).toArray⟩) ∧ Below w.heap.size w w' := by
  have hl := data_len s
  generalize hL : s.data.toList = l at *
  have HD : Hid (∀ k (h : k < s.size), l[k]? = some s[k]) := by
    show ∀ k (h : k < s.size), l[k]? = some s[k]
    subst hL; exact fun k h => data_at h
  have HL := Lib.hid hl
  have hstart : QRel w l (.slice (some ⟨w.heap.size, 0, none⟩) 1 1) (.int .i64 0) (w.alloc (.cells #[.int .u8 34] 5)) :=
    ⟨0, 1, 1, _, by omega, rfl, rfl, by simpa [quoteL] using own_lit w 34, (Below.refl _ _).alloc (Nat.le_refl _) _⟩
  have HS := Lib.hid hstart
  clear hl hL hstart
  go_enter Tryd.func46, Tryd.ntmps46
  go_wp2_with fail
  go_loopw [3, 4] (fun o i wr => QRel w l o i wr) (fun _ i _ => s.size - (intOf i).toNat)
  case atStart => exact HS.out
  case round =>
    obtain ⟨k, n, c, A, hk, rfl, rfl, hown, hbel⟩ := hrel
    have hn : n ≤ 3000001 := by
      have := hown.1
      have h2 := quoteL_len (l.take k)
      have h3 := HL.out
      simp [bv_len] at this h2
      omega
    have hkl : k ≤ s.size := by have := HL.out; omega
    by_cases hlt : k < s.size
    · have hc := HD.out k hlt
      have hi2 : 0 ≤ (k : Int) ∧ (k : Int) < s.size := by omega
      generalize hcc : s[k] = b at *
      have HC := Lib.hid hc
      clear hc
      rcases byte_ways2 b with a | a | a | a | a
      case inr.inr.inr.inr =>
        obtain ⟨A2, c2, w2, hap, hown2, hbel2⟩ := append_bytes hown [b] (m := 1) rfl (by omega) hbel.size
        have HO2 := Lib.hid hown2
        have HB2 := Lib.hid (hbel.trans hbel2)
        have HODD : Hid (odd8 b = false) := odd_not (by obtain ⟨a1, a2, a3⟩ := a; simp only [beq_eq_false_iff_ne] at a2 a3; omega)
        have HAP := Lib.hid hap
        clear hown hbel hown2 hbel2 hk hap
        go_wp2_with (at_builtin; refine wpList_append_run rfl _ _ _ _ rfl rfl rfl HAP.out ?_)
        go_roundw
        case rel =>
          refine ⟨k + 1, n + 1, c2, A2, by have := HL.out; omega, by go_num, rfl, ?_, HB2.out⟩
          have e : quoteL (l.take (k + 1)) = quoteL (l.take k) ++ [b] := by rw [quoteL_step HC.out]; unfold quoteC; rw [HODD.out]; rfl
          rw [e, ← List.append_assoc]
          exact HO2.out
        case measure => simp [intOf]; omega
      all_goals
        have HODD : Hid (odd8 b = true) := odd_of (by first | omega | (simp only [beq_iff_eq] at a; omega))
        have hb8 : b.toNat < 256 := b.toNat_lt
        have hb1 : bits .and .u8 (b.toNat : Int) 15 = (b.toNat : Int) % 16 := u8_and15 (by omega) (by omega)
        have HX := Lib.hid (fun W => hex_any (i := (b.toNat : Int) / 16) (x := b.toNat / 16) (by omega) (by omega) W)
        have HY := Lib.hid (fun W => hex_any (i := (b.toNat : Int) % 16) (x := b.toNat % 16) (by omega) (by omega) W)
        obtain ⟨A2, c2, w2, hap, hown2, hbel2⟩ := append_bytes (w := wr) (base := w.heap.size) (A := A) (n := n) (c := c) (l := [34] ++ quoteL (l.take k)) hown [92, hexd (b.toNat / 16), hexd (b.toNat % 16)] (m := 3) rfl (by omega) hbel.size
        have HO2 := Lib.hid hown2
        have HB2 := Lib.hid (hbel.trans hbel2)
        have HAP := Lib.hid hap
        clear hown hbel hown2 hbel2 hk hap hb8
        go_wp2_with fail
        refine (HX.out _).mono ?_
        rintro e w3 ⟨rfl, rfl⟩
        go_wp2_with fail
        refine (HY.out _).mono ?_
        rintro e w3 ⟨rfl, rfl⟩
        go_wp2_with (at_builtin; refine wpList_append_run rfl _ _ _ _ rfl rfl rfl HAP.out ?_)
        go_roundw
        case rel =>
          refine ⟨k + 1, n + 3, c2, A2, by have := HL.out; omega, by go_num, rfl, ?_, HB2.out⟩
          have e : quoteL (l.take (k + 1)) = quoteL (l.take k) ++ [92, hexd (b.toNat / 16), hexd (b.toNat % 16)] := by rw [quoteL_step HC.out]; unfold quoteC; rw [HODD.out]; rfl
          rw [e, ← List.append_assoc]
          exact HO2.out
        case measure => simp [intOf]; omega
    · obtain rfl : k = s.size := by omega
      obtain ⟨A2, c2, w2, hap, hown2, hbel2⟩ := append_bytes hown [34] (m := 1) rfl (by omega) hbel.size
      have e : [34] ++ quoteL (l.take s.size) ++ [34] = quoteB l := by rw [← HL.out, List.take_length]; rfl
      rw [e] at hown2
      have hcv := conv_text Tryd.underlying37 Tryd.underlying5 Tryd.underlying9 (Sl.of_own hown2)
      have HB2 := Lib.hid (hbel.trans hbel2)
      have HAP := Lib.hid hap
      clear hown hbel hown2 hbel2 hk hap e
      go_wp2_with (at_builtin; refine wpList_append_run rfl _ _ _ _ rfl rfl rfl HAP.out ?_)
      go_ret
      exact ⟨rfl, HB2.out⟩
end Go.Proofs.YtjplgcjpnofgbaaDoor
