/- LexBlanks: the walk, of a text of 200 bytes at most. -/
import Derived.Test.YtpedfkigneahgaaLexBlanksM
namespace Go.Proofs.Ytpedfkigneahgaa
set_option linter.unusedVariables false
open Go.RowKit

set_option maxRecDepth 100000 in
set_option maxHeartbeats 3200000 in
theorem lexBlanks_neg_bad (s0 : ByteArray) (hs0 : s0.size ≤ maxLen) (h200 : ¬ 200 < s0.size) (i : Nat) (hx : lexB s0.data.toList 0 = .error i) (n : Int) (hn : (Lit.int .i64 n).wf = true) (b0 : Int) (hb0 : (Lit.int .u8 b0).wf = true) (w : World) : Calls Try.prog 5 #[.string s0, .int .i64 n, .int .u8 b0] w fun e w' => e = .returned (.bool true) ∧ Below w.heap.size w w' := by
  obtain ⟨b, rfl⟩ := wf_u8 hb0
  have hwi := fun w => within_any (n := n) (lo := 0) (hi := 5) (w := w) (by omega) (by omega) (by omega)
  have hwl := within_le (n := n) (lo := 0) (hi := 5) (by omega)
  generalize withinOf n 0 5 = k at *
  obtain ⟨kn, rfl⟩ : ∃ kn : Nat, k = (kn : Int) := ⟨k.toNat, by omega⟩
  have HWI := Lib.hid hwi
  have hk5 : kn ≤ 5 := by omega
  have HR := Lib.hid (fun w => lexruns_any w)
  clear hwi hn hwl hb0
  unfold maxLen at hs0
  have hs : s0.size ≤ 200 := by omega
  have MM := Lib.hid (blanks_main _ hs kn hk5)
  have hb1 : ¬ (200 : Int) < (s0.size : Int) := by omega
  have hb2 : decide ((200 : Int) < (s0.size : Int)) = false := decide_eq_false hb1
  go_enter Try.func5, Try.ntmps5
  go_upto_region 3 with fail
  generalize s0 = s at *
  clear h200 hb1 hb2
  have HSL := Lib.hid (data_len s)
  have hki : (0 : Int) ≤ (kn : Int) ∧ (kn : Int) ≤ 5 := by omega
  have hax : (⟨#[10, 32, 10, 32, 32]⟩ : ByteArray).extract 0 kn = aheadB.extract 0 kn := rfl
  have HAX := Lib.hid hax
  have hasz : (aheadB.extract 0 kn).size ≤ 5 := by rw [ByteArray.size_extract]; show min kn 5 - 0 ≤ 5; omega
  clear hax
  go_wp2_with fail
  refine (HWI.out _).mono ?_
  rintro e w1 ⟨rfl, rfl⟩
  go_upto_region 5 with fail
  rw [HAX.out]
  generalize hah : aheadB.extract 0 kn = ah at *
  have hbad := blanks_bad hk5 hx
  have H1 := Lib.hid MM.out.1
  have H2 := Lib.hid MM.out.2.1
  have H3 := Lib.hid MM.out.2.2
  rw [hx] at H1
  rw [hbad] at H2
  have hil : i ≤ 200 := by have := lexB_err_le _ _ _ _ (Nat.le_refl _) hx; have := HSL.out; omega
  clear hbad hx MM
  go_wp2_with fail
  refine (H1.out _).mono ?_
  rintro e w2 ⟨rfl, hb1⟩
  go_wp2_with fail
  refine (H2.out _).mono ?_
  rintro e w3 ⟨rfl, hb2⟩
  have D3 := Lib.hid (below_step hb1 hb2)
  clear hb1 hb2
  go_wp2_with fail
  go_loop [72] (fun v => v = .int .i64 0) (fun _ => 0)
  case atStart => rfl
  case round =>
    subst hrel
    go_upto_region 18 with fail
    go_cut [17] from 17 to 173 (fun u wx => u = .bool (oddB b) ∧ wx = w3)
    case first =>
      have hways : (b.toNat < 32 ∧ b.toNat ≠ 10) ∨ (b.toNat = 10) ∨ (65 ≤ b.toNat ∧ b.toNat ≤ 90) ∨ (126 < b.toNat) ∨ (b.toNat = 36) ∨ (b.toNat = 47) ∨ (b.toNat = 95) ∨ (b.toNat = 91) ∨ (32 ≤ b.toNat ∧ b.toNat < 65 ∧ b.toNat ≠ 36 ∧ b.toNat ≠ 47) ∨ (91 < b.toNat ∧ b.toNat ≤ 126 ∧ b.toNat ≠ 95) := by omega
      rcases hways with h | h | h | h | h | h | h | h | h | h
      · have ho : Hid (oddB b = true) := by show _ = _; unfold oddB; simp; omega
        have c1 : ((65 : Int) ≤ (b.toNat : Int)) = False := eq_false (by omega)
        have dc1 : decide ((65 : Int) ≤ (b.toNat : Int)) = false := decide_eq_false (by omega)
        have c3 : ((126 : Int) < (b.toNat : Int)) = False := eq_false (by omega)
        have dc3 : decide ((126 : Int) < (b.toNat : Int)) = false := decide_eq_false (by omega)
        have c4 : ((b.toNat : Int) < 32) = True := eq_true (by omega)
        have dc4 : decide ((b.toNat : Int) < 32) = true := decide_eq_true (by omega)
        have q10 : ((b.toNat : Int) != 10) = true := by rw [bne_iff_ne]; omega
        clear h
        go_wp2_with fail
        go_meet
        exact ⟨by rw [ho.out] <;> rfl, rfl⟩
      · have ho : Hid (oddB b = false) := by show _ = _; unfold oddB; simp; omega
        have c1 : ((65 : Int) ≤ (b.toNat : Int)) = False := eq_false (by omega)
        have dc1 : decide ((65 : Int) ≤ (b.toNat : Int)) = false := decide_eq_false (by omega)
        have c3 : ((126 : Int) < (b.toNat : Int)) = False := eq_false (by omega)
        have dc3 : decide ((126 : Int) < (b.toNat : Int)) = false := decide_eq_false (by omega)
        have c4 : ((b.toNat : Int) < 32) = True := eq_true (by omega)
        have dc4 : decide ((b.toNat : Int) < 32) = true := decide_eq_true (by omega)
        have q36 : ((b.toNat : Int) == 36) = false := by rw [beq_eq_false_iff_ne]; omega
        have q47 : ((b.toNat : Int) == 47) = false := by rw [beq_eq_false_iff_ne]; omega
        have q95 : ((b.toNat : Int) == 95) = false := by rw [beq_eq_false_iff_ne]; omega
        have q91 : ((b.toNat : Int) == 91) = false := by rw [beq_eq_false_iff_ne]; omega
        have q10 : ((b.toNat : Int) != 10) = false := by rw [bne_eq_false_iff_eq]; omega
        clear h
        go_wp2_with fail
        go_meet
        exact ⟨by rw [ho.out] <;> rfl, rfl⟩
      · have ho : Hid (oddB b = true) := by show _ = _; unfold oddB; simp; omega
        have c1 : ((65 : Int) ≤ (b.toNat : Int)) = True := eq_true (by omega)
        have dc1 : decide ((65 : Int) ≤ (b.toNat : Int)) = true := decide_eq_true (by omega)
        have c2 : ((b.toNat : Int) ≤ 90) = True := eq_true (by omega)
        have dc2 : decide ((b.toNat : Int) ≤ 90) = true := decide_eq_true (by omega)
        have c3 : ((126 : Int) < (b.toNat : Int)) = False := eq_false (by omega)
        have dc3 : decide ((126 : Int) < (b.toNat : Int)) = false := decide_eq_false (by omega)
        have c4 : ((b.toNat : Int) < 32) = False := eq_false (by omega)
        have dc4 : decide ((b.toNat : Int) < 32) = false := decide_eq_false (by omega)
        have q10 : ((b.toNat : Int) != 10) = true := by rw [bne_iff_ne]; omega
        clear h
        go_wp2_with fail
        go_meet
        exact ⟨by rw [ho.out] <;> rfl, rfl⟩
      · have ho : Hid (oddB b = true) := by show _ = _; unfold oddB; simp; omega
        have c1 : ((65 : Int) ≤ (b.toNat : Int)) = True := eq_true (by omega)
        have dc1 : decide ((65 : Int) ≤ (b.toNat : Int)) = true := decide_eq_true (by omega)
        have c2 : ((b.toNat : Int) ≤ 90) = False := eq_false (by omega)
        have dc2 : decide ((b.toNat : Int) ≤ 90) = false := decide_eq_false (by omega)
        have c3 : ((126 : Int) < (b.toNat : Int)) = True := eq_true (by omega)
        have dc3 : decide ((126 : Int) < (b.toNat : Int)) = true := decide_eq_true (by omega)
        have c4 : ((b.toNat : Int) < 32) = False := eq_false (by omega)
        have dc4 : decide ((b.toNat : Int) < 32) = false := decide_eq_false (by omega)
        have q10 : ((b.toNat : Int) != 10) = true := by rw [bne_iff_ne]; omega
        clear h
        go_wp2_with fail
        go_meet
        exact ⟨by rw [ho.out] <;> rfl, rfl⟩
      · have ho : Hid (oddB b = true) := by show _ = _; unfold oddB; simp; omega
        have c1 : ((65 : Int) ≤ (b.toNat : Int)) = False := eq_false (by omega)
        have dc1 : decide ((65 : Int) ≤ (b.toNat : Int)) = false := decide_eq_false (by omega)
        have c3 : ((126 : Int) < (b.toNat : Int)) = False := eq_false (by omega)
        have dc3 : decide ((126 : Int) < (b.toNat : Int)) = false := decide_eq_false (by omega)
        have c4 : ((b.toNat : Int) < 32) = False := eq_false (by omega)
        have dc4 : decide ((b.toNat : Int) < 32) = false := decide_eq_false (by omega)
        have q36 : ((b.toNat : Int) == 36) = true := by rw [beq_iff_eq]; omega
        have q47 : ((b.toNat : Int) == 47) = false := by rw [beq_eq_false_iff_ne]; omega
        have q95 : ((b.toNat : Int) == 95) = false := by rw [beq_eq_false_iff_ne]; omega
        have q91 : ((b.toNat : Int) == 91) = false := by rw [beq_eq_false_iff_ne]; omega
        have q10 : ((b.toNat : Int) != 10) = true := by rw [bne_iff_ne]; omega
        clear h
        go_wp2_with fail
        go_meet
        exact ⟨by rw [ho.out] <;> rfl, rfl⟩
      · have ho : Hid (oddB b = true) := by show _ = _; unfold oddB; simp; omega
        have c1 : ((65 : Int) ≤ (b.toNat : Int)) = False := eq_false (by omega)
        have dc1 : decide ((65 : Int) ≤ (b.toNat : Int)) = false := decide_eq_false (by omega)
        have c3 : ((126 : Int) < (b.toNat : Int)) = False := eq_false (by omega)
        have dc3 : decide ((126 : Int) < (b.toNat : Int)) = false := decide_eq_false (by omega)
        have c4 : ((b.toNat : Int) < 32) = False := eq_false (by omega)
        have dc4 : decide ((b.toNat : Int) < 32) = false := decide_eq_false (by omega)
        have q36 : ((b.toNat : Int) == 36) = false := by rw [beq_eq_false_iff_ne]; omega
        have q47 : ((b.toNat : Int) == 47) = true := by rw [beq_iff_eq]; omega
        have q95 : ((b.toNat : Int) == 95) = false := by rw [beq_eq_false_iff_ne]; omega
        have q91 : ((b.toNat : Int) == 91) = false := by rw [beq_eq_false_iff_ne]; omega
        have q10 : ((b.toNat : Int) != 10) = true := by rw [bne_iff_ne]; omega
        clear h
        go_wp2_with fail
        go_meet
        exact ⟨by rw [ho.out] <;> rfl, rfl⟩
      · have ho : Hid (oddB b = true) := by show _ = _; unfold oddB; simp; omega
        have c1 : ((65 : Int) ≤ (b.toNat : Int)) = True := eq_true (by omega)
        have dc1 : decide ((65 : Int) ≤ (b.toNat : Int)) = true := decide_eq_true (by omega)
        have c2 : ((b.toNat : Int) ≤ 90) = False := eq_false (by omega)
        have dc2 : decide ((b.toNat : Int) ≤ 90) = false := decide_eq_false (by omega)
        have c3 : ((126 : Int) < (b.toNat : Int)) = False := eq_false (by omega)
        have dc3 : decide ((126 : Int) < (b.toNat : Int)) = false := decide_eq_false (by omega)
        have c4 : ((b.toNat : Int) < 32) = False := eq_false (by omega)
        have dc4 : decide ((b.toNat : Int) < 32) = false := decide_eq_false (by omega)
        have q36 : ((b.toNat : Int) == 36) = false := by rw [beq_eq_false_iff_ne]; omega
        have q47 : ((b.toNat : Int) == 47) = false := by rw [beq_eq_false_iff_ne]; omega
        have q95 : ((b.toNat : Int) == 95) = true := by rw [beq_iff_eq]; omega
        have q91 : ((b.toNat : Int) == 91) = false := by rw [beq_eq_false_iff_ne]; omega
        have q10 : ((b.toNat : Int) != 10) = true := by rw [bne_iff_ne]; omega
        clear h
        go_wp2_with fail
        go_meet
        exact ⟨by rw [ho.out] <;> rfl, rfl⟩
      · have ho : Hid (oddB b = true) := by show _ = _; unfold oddB; simp; omega
        have c1 : ((65 : Int) ≤ (b.toNat : Int)) = True := eq_true (by omega)
        have dc1 : decide ((65 : Int) ≤ (b.toNat : Int)) = true := decide_eq_true (by omega)
        have c2 : ((b.toNat : Int) ≤ 90) = False := eq_false (by omega)
        have dc2 : decide ((b.toNat : Int) ≤ 90) = false := decide_eq_false (by omega)
        have c3 : ((126 : Int) < (b.toNat : Int)) = False := eq_false (by omega)
        have dc3 : decide ((126 : Int) < (b.toNat : Int)) = false := decide_eq_false (by omega)
        have c4 : ((b.toNat : Int) < 32) = False := eq_false (by omega)
        have dc4 : decide ((b.toNat : Int) < 32) = false := decide_eq_false (by omega)
        have q36 : ((b.toNat : Int) == 36) = false := by rw [beq_eq_false_iff_ne]; omega
        have q47 : ((b.toNat : Int) == 47) = false := by rw [beq_eq_false_iff_ne]; omega
        have q95 : ((b.toNat : Int) == 95) = false := by rw [beq_eq_false_iff_ne]; omega
        have q91 : ((b.toNat : Int) == 91) = true := by rw [beq_iff_eq]; omega
        have q10 : ((b.toNat : Int) != 10) = true := by rw [bne_iff_ne]; omega
        clear h
        go_wp2_with fail
        go_meet
        exact ⟨by rw [ho.out] <;> rfl, rfl⟩
      · have ho : Hid (oddB b = false) := by show _ = _; unfold oddB; simp; omega
        have c1 : ((65 : Int) ≤ (b.toNat : Int)) = False := eq_false (by omega)
        have dc1 : decide ((65 : Int) ≤ (b.toNat : Int)) = false := decide_eq_false (by omega)
        have c3 : ((126 : Int) < (b.toNat : Int)) = False := eq_false (by omega)
        have dc3 : decide ((126 : Int) < (b.toNat : Int)) = false := decide_eq_false (by omega)
        have c4 : ((b.toNat : Int) < 32) = False := eq_false (by omega)
        have dc4 : decide ((b.toNat : Int) < 32) = false := decide_eq_false (by omega)
        have q36 : ((b.toNat : Int) == 36) = false := by rw [beq_eq_false_iff_ne]; omega
        have q47 : ((b.toNat : Int) == 47) = false := by rw [beq_eq_false_iff_ne]; omega
        have q95 : ((b.toNat : Int) == 95) = false := by rw [beq_eq_false_iff_ne]; omega
        have q91 : ((b.toNat : Int) == 91) = false := by rw [beq_eq_false_iff_ne]; omega
        have q10 : ((b.toNat : Int) != 10) = true := by rw [bne_iff_ne]; omega
        clear h
        go_wp2_with fail
        go_meet
        exact ⟨by rw [ho.out] <;> rfl, rfl⟩
      · have ho : Hid (oddB b = false) := by show _ = _; unfold oddB; simp; omega
        have c1 : ((65 : Int) ≤ (b.toNat : Int)) = True := eq_true (by omega)
        have dc1 : decide ((65 : Int) ≤ (b.toNat : Int)) = true := decide_eq_true (by omega)
        have c2 : ((b.toNat : Int) ≤ 90) = False := eq_false (by omega)
        have dc2 : decide ((b.toNat : Int) ≤ 90) = false := decide_eq_false (by omega)
        have c3 : ((126 : Int) < (b.toNat : Int)) = False := eq_false (by omega)
        have dc3 : decide ((126 : Int) < (b.toNat : Int)) = false := decide_eq_false (by omega)
        have c4 : ((b.toNat : Int) < 32) = False := eq_false (by omega)
        have dc4 : decide ((b.toNat : Int) < 32) = false := decide_eq_false (by omega)
        have q36 : ((b.toNat : Int) == 36) = false := by rw [beq_eq_false_iff_ne]; omega
        have q47 : ((b.toNat : Int) == 47) = false := by rw [beq_eq_false_iff_ne]; omega
        have q95 : ((b.toNat : Int) == 95) = false := by rw [beq_eq_false_iff_ne]; omega
        have q91 : ((b.toNat : Int) == 91) = false := by rw [beq_eq_false_iff_ne]; omega
        have q10 : ((b.toNat : Int) != 10) = true := by rw [bne_iff_ne]; omega
        clear h
        go_wp2_with fail
        go_meet
        exact ⟨by rw [ho.out] <;> rfl, rfl⟩
    case rest =>
      obtain ⟨rfl, hcw⟩ := hcut
      obtain rfl := hcw.symm
      have hcv := conv_one b w3
      have HBO := Lib.hid (D3.out.alloc D3.out.size (.cells #[.int .u8 (b.toNat : Int)] 5))
      cases hob : oddB b with
      | true =>
        have H4 := Lib.hid (H3.out b)
        rw [odd_lex hk5 hob] at H4
        clear hob
        go_wp2_with fail
        refine (H4.out _).mono ?_
        rintro e w7 ⟨rfl, hb7⟩
        go_wp2_with fail
        refine (HR.out _).mono ?_
        rintro e w8 ⟨rfl, hb8⟩
        go_wp2_with fail
        go_ret
        exact ⟨rfl, HBO.out.trans ((below_step hb7 hb8).mono HBO.out.size)⟩
      | false =>
        clear hob
        go_wp2_with fail
        refine (H3.out b _).mono ?_
        intro e w7 h7
        obtain ⟨A7, n7, c7, k7, p7, rfl, hb7⟩ := allP_shape h7
        clear h7
        go_wp2_with fail
        refine (HR.out _).mono ?_
        rintro e w8 ⟨rfl, hb8⟩
        go_wp2_with fail
        go_ret
        exact ⟨rfl, HBO.out.trans ((below_step hb7 hb8).mono HBO.out.size)⟩
end Go.Proofs.Ytpedfkigneahgaa
