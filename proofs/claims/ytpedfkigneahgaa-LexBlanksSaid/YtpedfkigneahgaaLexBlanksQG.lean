/- LexBlanks: the walk, of a text of 200 bytes at most. -/
import Derived.Test.YtpedfkigneahgaaLexBlanksM
namespace Go.Proofs.Ytpedfkigneahgaa
set_option linter.unusedVariables false
open Go.RowKit

set_option maxRecDepth 100000 in
set_option maxHeartbeats 3200000 in
theorem lexBlanks_neg_ok (s0 : ByteArray) (hs0 : s0.size ≤ maxLen) (h200 : ¬ 200 < s0.size) (ts : List Tk) (hx : lexB s0.data.toList 0 = .ok ts) (n : Int) (hn : (Lit.int .i64 n).wf = true) (b0 : Int) (hb0 : (Lit.int .u8 b0).wf = true) (w : World) : Calls Try.prog 5 #[.string s0, .int .i64 n, .int .u8 b0] w fun e w' => e = .returned (.bool true) ∧ Below w.heap.size w w' := by
  obtain ⟨b, rfl⟩ := wf_u8 hb0
  have hwi := fun w => within_any (n := n) (lo := 0) (hi := 5) (w := w) (by omega) (by omega) (by omega)
  have hwl := within_le (n := n) (lo := 0) (hi := 5) (by omega)
  generalize withinOf n 0 5 = k at *
  obtain ⟨kn, rfl⟩ : ∃ kn : Nat, k = (kn : Int) := ⟨k.toNat, by omega⟩
  have HWI := Lib.hid hwi
  have hk5 : kn ≤ 5 := by omega
  have HR := Lib.hid (fun w => lexruns_any w)
  clear hwi hn hwl hb0
  unfold maxLen at hs0
  have hs : s0.size ≤ 200 := by omega
  have MM := Lib.hid (blanks_main _ hs kn hk5)
  have hb1 : ¬ (200 : Int) < (s0.size : Int) := by omega
  have hb2 : decide ((200 : Int) < (s0.size : Int)) = false := decide_eq_false hb1
  go_enter Try.func5, Try.ntmps5
  go_upto_region 3 with fail
  generalize s0 = s at *
  clear h200 hb1 hb2
  have HSL := Lib.hid (data_len s)
  have hki : (0 : Int) ≤ (kn : Int) ∧ (kn : Int) ≤ 5 := by omega
  have hax : (⟨#[10, 32, 10, 32, 32]⟩ : ByteArray).extract 0 kn = aheadB.extract 0 kn := rfl
  have HAX := Lib.hid hax
  have hasz : (aheadB.extract 0 kn).size ≤ 5 := by rw [ByteArray.size_extract]; show min kn 5 - 0 ≤ 5; omega
  clear hax
  go_wp2_with fail
  refine (HWI.out _).mono ?_
  rintro e w1 ⟨rfl, rfl⟩
  go_upto_region 5 with fail
  rw [HAX.out]
  generalize hah : aheadB.extract 0 kn = ah at *
  have hgood := blanks_ok hk5 hx
  have H1 := Lib.hid MM.out.1
  have H2 := Lib.hid MM.out.2.1
  have H3 := Lib.hid MM.out.2.2
  rw [hx] at H1
  rw [hgood] at H2
  have hyp := lexB_places _ _ _ _ (Nat.le_refl _) hx
  have HYP : Hid (∀ q ∈ ts, (0 : Int) ≤ q.p ∧ q.p ≤ 200) := fun q hq => by have := hyp q hq; have := HSL.out; omega
  obtain ⟨ux, hux, hux2⟩ := lexB_ne _ _ _ _ (Nat.le_refl _) hx
  have hxl : 1 ≤ ts.length ∧ ts.length ≤ 201 := by rw [hux, List.length_append]; have := HSL.out; simp; omega
  have HXL := Lib.hid hxl
  have HLAST : Hid (ts[ts.length - 1]? = some ⟨7, (s.size : Int), 0, ⟨#[]⟩⟩) := by
    show _ = _
    rw [hux, List.length_append, List.getElem?_append_right (by simp)]
    simp [HSL.out]
  clear hgood hx MM hyp hux hux2 hxl
  go_wp2_with fail
  refine (H1.out _).mono ?_
  intro e w2 h2
  obtain ⟨A1, n1, c1, rfl, tl, hl, hb1⟩ := allP_ok h2
  clear h2
  have TL2 := Lib.hid tl
  clear tl
  go_wp2_with fail
  refine (H2.out _).mono ?_
  intro e w3 h3
  obtain ⟨A2, n2, c2, rfl, tm, hm, hb2⟩ := allP_ok h3
  clear h3
  have TL := Lib.hid (TL2.out.then_ hb2)
  have TM := Lib.hid tm
  have hnn : n2 = n1 := by rw [← hm, ← hl]; exact blankT_len HXL.out.1
  subst hnn
  have hn1 : 1 ≤ n2 ∧ n2 ≤ 201 := by rw [← hl]; exact HXL.out
  have hc1 := TL.out.2.2.1
  have hc2 := TM.out.2.2.1
  have he1 := TL.out.2.1
  have he2 := TM.out.2.1
  unfold maxLen at hc1 hc2
  have HL := Lib.hid hl
  have D3 := Lib.hid (below_step hb1 hb2)
  clear tm hb1 hb2 hl hm
  go_wp2_with fail
  go_loopw [72] (fun v wr => ∃ i : Nat, i ≤ n2 ∧ v = .int .i64 (i : Int) ∧ ∃ q, wr = w3.drewN q) (fun v _ => n2 - (intOf v).toNat)
  case atStart => exact ⟨0, Nat.zero_le _, rfl, 0, rfl⟩
  case round =>
    obtain ⟨i, hi, rfl, q, rfl⟩ := hrel
    by_cases hlt : i < n2
    · have hii : 0 ≤ (i : Int) ∧ (i : Int) < (n2 : Int) := by omega
      obtain ⟨bx, ox, vx, hAx, hbx, hvx, x0, x1, x2, x3⟩ := TL.out.at_ hlt
      obtain ⟨bz, oz, vz, hAz, hbz, hvz, z0, z1, z2, z3⟩ := TM.out.at_ hlt
      subst hAx hAz
      by_cases hlast : i = n2 - 1
      · have hll := HLAST.out
        rw [HL.out, ← hlast, hvx] at hll
        obtain rfl := Option.some.inj hll
        have hzz := blankT_hi (ts := ts) (k := kn) (n := s.data.toList.length) (i := i) (by rw [HL.out]; exact hlast)
        rw [hzz] at hvz
        obtain rfl := Option.some.inj hvz
        have hil : ((i : Int) == (n2 : Int) - 1) = true := by rw [beq_iff_eq]; omega
        have hpz : ((kn + s.data.toList.length + 2 : Nat) : Int) = (kn : Int) + (s.size : Int) + 2 := by rw [HSL.out]; omega
        dsimp only at x0 x1 x2 x3 z0 z1 z2 z3
        rw [hpz] at z1
        clear hll hzz hvx hvz hpz hbx hbz hlast
        go_wp2_with fail
        go_quiet (fail)
        go_wp2_with fail
        go_roundw
        case rel => exact ⟨i + 1, by omega, by go_num, _, rfl⟩
        case measure => simp [intOf]; omega
      · have hil : ((i : Int) == (n2 : Int) - 1) = false := by rw [beq_eq_false_iff_ne]; omega
        have hzz := blankT_lo (ts := ts) (k := kn) (n := s.data.toList.length) (i := i) (by rw [HL.out]; omega) hvx
        rw [hzz] at hvz
        obtain rfl := Option.some.inj hvz
        have hpx := HYP.out _ (List.mem_of_getElem? hvx)
        obtain ⟨kx, px, nx, sx⟩ := vx
        dsimp only [shT] at x0 x1 x2 x3 z0 z1 z2 z3 hpx
        have hss : (sx.toList != sx.toList) = false := by simp
        clear hzz hvx hvz hbx hbz hlast
        go_wp2_with fail
        go_quiet (fail)
        go_wp2_with fail
        go_roundw
        case rel => exact ⟨i + 1, by omega, by go_num, _, rfl⟩
        case measure => simp [intOf]; omega
    · obtain rfl : i = n2 := by omega
      have D4 := Lib.hid (below_drewN D3.out q)
      generalize w3.drewN q = w4 at *
      go_upto_region 18 with fail
      go_cut [17] from 17 to 173 (fun u wx => u = .bool (oddB b) ∧ wx = w4)
      case first =>
        have hways : (b.toNat < 32 ∧ b.toNat ≠ 10) ∨ (b.toNat = 10) ∨ (65 ≤ b.toNat ∧ b.toNat ≤ 90) ∨ (126 < b.toNat) ∨ (b.toNat = 36) ∨ (b.toNat = 47) ∨ (b.toNat = 95) ∨ (b.toNat = 91) ∨ (32 ≤ b.toNat ∧ b.toNat < 65 ∧ b.toNat ≠ 36 ∧ b.toNat ≠ 47) ∨ (91 < b.toNat ∧ b.toNat ≤ 126 ∧ b.toNat ≠ 95) := by omega
        rcases hways with h | h | h | h | h | h | h | h | h | h
        · have ho : Hid (oddB b = true) := by show _ = _; unfold oddB; simp; omega
          have c1 : ((65 : Int) ≤ (b.toNat : Int)) = False := eq_false (by omega)
          have dc1 : decide ((65 : Int) ≤ (b.toNat : Int)) = false := decide_eq_false (by omega)
          have c3 : ((126 : Int) < (b.toNat : Int)) = False := eq_false (by omega)
          have dc3 : decide ((126 : Int) < (b.toNat : Int)) = false := decide_eq_false (by omega)
          have c4 : ((b.toNat : Int) < 32) = True := eq_true (by omega)
          have dc4 : decide ((b.toNat : Int) < 32) = true := decide_eq_true (by omega)
          have q10 : ((b.toNat : Int) != 10) = true := by rw [bne_iff_ne]; omega
          clear h
          go_wp2_with fail
          go_meet
          exact ⟨by rw [ho.out] <;> rfl, rfl⟩
        · have ho : Hid (oddB b = false) := by show _ = _; unfold oddB; simp; omega
          have c1 : ((65 : Int) ≤ (b.toNat : Int)) = False := eq_false (by omega)
          have dc1 : decide ((65 : Int) ≤ (b.toNat : Int)) = false := decide_eq_false (by omega)
          have c3 : ((126 : Int) < (b.toNat : Int)) = False := eq_false (by omega)
          have dc3 : decide ((126 : Int) < (b.toNat : Int)) = false := decide_eq_false (by omega)
          have c4 : ((b.toNat : Int) < 32) = True := eq_true (by omega)
          have dc4 : decide ((b.toNat : Int) < 32) = true := decide_eq_true (by omega)
          have q36 : ((b.toNat : Int) == 36) = false := by rw [beq_eq_false_iff_ne]; omega
          have q47 : ((b.toNat : Int) == 47) = false := by rw [beq_eq_false_iff_ne]; omega
          have q95 : ((b.toNat : Int) == 95) = false := by rw [beq_eq_false_iff_ne]; omega
          have q91 : ((b.toNat : Int) == 91) = false := by rw [beq_eq_false_iff_ne]; omega
          have q10 : ((b.toNat : Int) != 10) = false := by rw [bne_eq_false_iff_eq]; omega
          clear h
          go_wp2_with fail
          go_meet
          exact ⟨by rw [ho.out] <;> rfl, rfl⟩
        · have ho : Hid (oddB b = true) := by show _ = _; unfold oddB; simp; omega
          have c1 : ((65 : Int) ≤ (b.toNat : Int)) = True := eq_true (by omega)
          have dc1 : decide ((65 : Int) ≤ (b.toNat : Int)) = true := decide_eq_true (by omega)
          have c2 : ((b.toNat : Int) ≤ 90) = True := eq_true (by omega)
          have dc2 : decide ((b.toNat : Int) ≤ 90) = true := decide_eq_true (by omega)
          have c3 : ((126 : Int) < (b.toNat : Int)) = False := eq_false (by omega)
          have dc3 : decide ((126 : Int) < (b.toNat : Int)) = false := decide_eq_false (by omega)
          have c4 : ((b.toNat : Int) < 32) = False := eq_false (by omega)
          have dc4 : decide ((b.toNat : Int) < 32) = false := decide_eq_false (by omega)
          have q10 : ((b.toNat : Int) != 10) = true := by rw [bne_iff_ne]; omega
          clear h
          go_wp2_with fail
          go_meet
          exact ⟨by rw [ho.out] <;> rfl, rfl⟩
        · have ho : Hid (oddB b = true) := by show _ = _; unfold oddB; simp; omega
          have c1 : ((65 : Int) ≤ (b.toNat : Int)) = True := eq_true (by omega)
          have dc1 : decide ((65 : Int) ≤ (b.toNat : Int)) = true := decide_eq_true (by omega)
          have c2 : ((b.toNat : Int) ≤ 90) = False := eq_false (by omega)
          have dc2 : decide ((b.toNat : Int) ≤ 90) = false := decide_eq_false (by omega)
          have c3 : ((126 : Int) < (b.toNat : Int)) = True := eq_true (by omega)
          have dc3 : decide ((126 : Int) < (b.toNat : Int)) = true := decide_eq_true (by omega)
          have c4 : ((b.toNat : Int) < 32) = False := eq_false (by omega)
          have dc4 : decide ((b.toNat : Int) < 32) = false := decide_eq_false (by omega)
          have q10 : ((b.toNat : Int) != 10) = true := by rw [bne_iff_ne]; omega
          clear h
          go_wp2_with fail
          go_meet
          exact ⟨by rw [ho.out] <;> rfl, rfl⟩
        · have ho : Hid (oddB b = true) := by show _ = _; unfold oddB; simp; omega
          have c1 : ((65 : Int) ≤ (b.toNat : Int)) = False := eq_false (by omega)
          have dc1 : decide ((65 : Int) ≤ (b.toNat : Int)) = false := decide_eq_false (by omega)
          have c3 : ((126 : Int) < (b.toNat : Int)) = False := eq_false (by omega)
          have dc3 : decide ((126 : Int) < (b.toNat : Int)) = false := decide_eq_false (by omega)
          have c4 : ((b.toNat : Int) < 32) = False := eq_false (by omega)
          have dc4 : decide ((b.toNat : Int) < 32) = false := decide_eq_false (by omega)
          have q36 : ((b.toNat : Int) == 36) = true := by rw [beq_iff_eq]; omega
          have q47 : ((b.toNat : Int) == 47) = false := by rw [beq_eq_false_iff_ne]; omega
          have q95 : ((b.toNat : Int) == 95) = false := by rw [beq_eq_false_iff_ne]; omega
          have q91 : ((b.toNat : Int) == 91) = false := by rw [beq_eq_false_iff_ne]; omega
          have q10 : ((b.toNat : Int) != 10) = true := by rw [bne_iff_ne]; omega
          clear h
          go_wp2_with fail
          go_meet
          exact ⟨by rw [ho.out] <;> rfl, rfl⟩
        · have ho : Hid (oddB b = true) := by show _ = _; unfold oddB; simp; omega
          have c1 : ((65 : Int) ≤ (b.toNat : Int)) = False := eq_false (by omega)
          have dc1 : decide ((65 : Int) ≤ (b.toNat : Int)) = false := decide_eq_false (by omega)
          have c3 : ((126 : Int) < (b.toNat : Int)) = False := eq_false (by omega)
          have dc3 : decide ((126 : Int) < (b.toNat : Int)) = false := decide_eq_false (by omega)
          have c4 : ((b.toNat : Int) < 32) = False := eq_false (by omega)
          have dc4 : decide ((b.toNat : Int) < 32) = false := decide_eq_false (by omega)
          have q36 : ((b.toNat : Int) == 36) = false := by rw [beq_eq_false_iff_ne]; omega
          have q47 : ((b.toNat : Int) == 47) = true := by rw [beq_iff_eq]; omega
          have q95 : ((b.toNat : Int) == 95) = false := by rw [beq_eq_false_iff_ne]; omega
          have q91 : ((b.toNat : Int) == 91) = false := by rw [beq_eq_false_iff_ne]; omega
          have q10 : ((b.toNat : Int) != 10) = true := by rw [bne_iff_ne]; omega
          clear h
          go_wp2_with fail
          go_meet
          exact ⟨by rw [ho.out] <;> rfl, rfl⟩
        · have ho : Hid (oddB b = true) := by show _ = _; unfold oddB; simp; omega
          have c1 : ((65 : Int) ≤ (b.toNat : Int)) = True := eq_true (by omega)
          have dc1 : decide ((65 : Int) ≤ (b.toNat : Int)) = true := decide_eq_true (by omega)
          have c2 : ((b.toNat : Int) ≤ 90) = False := eq_false (by omega)
          have dc2 : decide ((b.toNat : Int) ≤ 90) = false := decide_eq_false (by omega)
          have c3 : ((126 : Int) < (b.toNat : Int)) = False := eq_false (by omega)
          have dc3 : decide ((126 : Int) < (b.toNat : Int)) = false := decide_eq_false (by omega)
          have c4 : ((b.toNat : Int) < 32) = False := eq_false (by omega)
          have dc4 : decide ((b.toNat : Int) < 32) = false := decide_eq_false (by omega)
          have q36 : ((b.toNat : Int) == 36) = false := by rw [beq_eq_false_iff_ne]; omega
          have q47 : ((b.toNat : Int) == 47) = false := by rw [beq_eq_false_iff_ne]; omega
          have q95 : ((b.toNat : Int) == 95) = true := by rw [beq_iff_eq]; omega
          have q91 : ((b.toNat : Int) == 91) = false := by rw [beq_eq_false_iff_ne]; omega
          have q10 : ((b.toNat : Int) != 10) = true := by rw [bne_iff_ne]; omega
          clear h
          go_wp2_with fail
          go_meet
          exact ⟨by rw [ho.out] <;> rfl, rfl⟩
        · have ho : Hid (oddB b = true) := by show _ = _; unfold oddB; simp; omega
          have c1 : ((65 : Int) ≤ (b.toNat : Int)) = True := eq_true (by omega)
          have dc1 : decide ((65 : Int) ≤ (b.toNat : Int)) = true := decide_eq_true (by omega)
          have c2 : ((b.toNat : Int) ≤ 90) = False := eq_false (by omega)
          have dc2 : decide ((b.toNat : Int) ≤ 90) = false := decide_eq_false (by omega)
          have c3 : ((126 : Int) < (b.toNat : Int)) = False := eq_false (by omega)
          have dc3 : decide ((126 : Int) < (b.toNat : Int)) = false := decide_eq_false (by omega)
          have c4 : ((b.toNat : Int) < 32) = False := eq_false (by omega)
          have dc4 : decide ((b.toNat : Int) < 32) = false := decide_eq_false (by omega)
          have q36 : ((b.toNat : Int) == 36) = false := by rw [beq_eq_false_iff_ne]; omega
          have q47 : ((b.toNat : Int) == 47) = false := by rw [beq_eq_false_iff_ne]; omega
          have q95 : ((b.toNat : Int) == 95) = false := by rw [beq_eq_false_iff_ne]; omega
          have q91 : ((b.toNat : Int) == 91) = true := by rw [beq_iff_eq]; omega
          have q10 : ((b.toNat : Int) != 10) = true := by rw [bne_iff_ne]; omega
          clear h
          go_wp2_with fail
          go_meet
          exact ⟨by rw [ho.out] <;> rfl, rfl⟩
        · have ho : Hid (oddB b = false) := by show _ = _; unfold oddB; simp; omega
          have c1 : ((65 : Int) ≤ (b.toNat : Int)) = False := eq_false (by omega)
          have dc1 : decide ((65 : Int) ≤ (b.toNat : Int)) = false := decide_eq_false (by omega)
          have c3 : ((126 : Int) < (b.toNat : Int)) = False := eq_false (by omega)
          have dc3 : decide ((126 : Int) < (b.toNat : Int)) = false := decide_eq_false (by omega)
          have c4 : ((b.toNat : Int) < 32) = False := eq_false (by omega)
          have dc4 : decide ((b.toNat : Int) < 32) = false := decide_eq_false (by omega)
          have q36 : ((b.toNat : Int) == 36) = false := by rw [beq_eq_false_iff_ne]; omega
          have q47 : ((b.toNat : Int) == 47) = false := by rw [beq_eq_false_iff_ne]; omega
          have q95 : ((b.toNat : Int) == 95) = false := by rw [beq_eq_false_iff_ne]; omega
          have q91 : ((b.toNat : Int) == 91) = false := by rw [beq_eq_false_iff_ne]; omega
          have q10 : ((b.toNat : Int) != 10) = true := by rw [bne_iff_ne]; omega
          clear h
          go_wp2_with fail
          go_meet
          exact ⟨by rw [ho.out] <;> rfl, rfl⟩
        · have ho : Hid (oddB b = false) := by show _ = _; unfold oddB; simp; omega
          have c1 : ((65 : Int) ≤ (b.toNat : Int)) = True := eq_true (by omega)
          have dc1 : decide ((65 : Int) ≤ (b.toNat : Int)) = true := decide_eq_true (by omega)
          have c2 : ((b.toNat : Int) ≤ 90) = False := eq_false (by omega)
          have dc2 : decide ((b.toNat : Int) ≤ 90) = false := decide_eq_false (by omega)
          have c3 : ((126 : Int) < (b.toNat : Int)) = False := eq_false (by omega)
          have dc3 : decide ((126 : Int) < (b.toNat : Int)) = false := decide_eq_false (by omega)
          have c4 : ((b.toNat : Int) < 32) = False := eq_false (by omega)
          have dc4 : decide ((b.toNat : Int) < 32) = false := decide_eq_false (by omega)
          have q36 : ((b.toNat : Int) == 36) = false := by rw [beq_eq_false_iff_ne]; omega
          have q47 : ((b.toNat : Int) == 47) = false := by rw [beq_eq_false_iff_ne]; omega
          have q95 : ((b.toNat : Int) == 95) = false := by rw [beq_eq_false_iff_ne]; omega
          have q91 : ((b.toNat : Int) == 91) = false := by rw [beq_eq_false_iff_ne]; omega
          have q10 : ((b.toNat : Int) != 10) = true := by rw [bne_iff_ne]; omega
          clear h
          go_wp2_with fail
          go_meet
          exact ⟨by rw [ho.out] <;> rfl, rfl⟩
      case rest =>
        obtain ⟨rfl, hcw⟩ := hcut
        obtain rfl := hcw.symm
        have hcv := conv_one b w4
        have HBO := Lib.hid (D4.out.alloc D4.out.size (.cells #[.int .u8 (b.toNat : Int)] 5))
        cases hob : oddB b with
        | true =>
          have H4 := Lib.hid (H3.out b)
          rw [odd_lex hk5 hob] at H4
          clear hob
          go_wp2_with fail
          refine (H4.out _).mono ?_
          rintro e w7 ⟨rfl, hb7⟩
          go_wp2_with fail
          refine (HR.out _).mono ?_
          rintro e w8 ⟨rfl, hb8⟩
          go_wp2_with fail
          go_ret
          exact ⟨rfl, HBO.out.trans ((below_step hb7 hb8).mono HBO.out.size)⟩
        | false =>
          clear hob
          go_wp2_with fail
          refine (H3.out b _).mono ?_
          intro e w7 h7
          obtain ⟨A7, n7, c7, k7, p7, rfl, hb7⟩ := allP_shape h7
          clear h7
          go_wp2_with fail
          refine (HR.out _).mono ?_
          rintro e w8 ⟨rfl, hb8⟩
          go_wp2_with fail
          go_ret
          exact ⟨rfl, HBO.out.trans ((below_step hb7 hb8).mono HBO.out.size)⟩
end Go.Proofs.Ytpedfkigneahgaa
