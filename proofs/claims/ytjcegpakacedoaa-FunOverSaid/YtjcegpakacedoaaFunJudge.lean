/- Package fun: judge. -/
import Derived.Test.YtjcegpakacedoaaFunCall
namespace Go.Proofs.Ytjcegpakacedoaa
set_option linter.unusedVariables false
open Go.RowKit

theorem eq_dec {a b : Int} : (a == b) = decide (a = b) := by rw [Bool.eq_iff_iff]; simp
set_option maxHeartbeats 3200000 in
theorem judge_any {w : World} {B n c : Nat} {A : Option Addr} {l : List Vl} (h : Vs w B A n c l) (hB : B ≤ w.heap.size) (hn : n ≤ 1000000) (hR : ∀ v ∈ l, v.right) (op : Int) :
    Calls Try.prog 26 #[.int .i64 op, .slice A n c] w fun e w' => e = .returned (.tuple #[(judgeL op l).1.val, .int .i64 (judgeL op l).2]) ∧ Below w.heap.size w w' := by
  have hlen := h.1
  have hcap := h.2.2.1
  have hle := h.2.1
  unfold maxLen at hcap
  have HV := Lib.hid h
  have HL := Lib.hid hlen
  have HR := Lib.hid hR
  clear h hlen hR
  go_enter Try.func26, Try.ntmps26
  go_wp2_with fail
  go_loopw [6, 11] (fun o i wr => ∃ (k : Nat) (m : Int), k ≤ n ∧ i = .int .i64 k ∧ o = .int .i64 m ∧ KindTo l k m ∧ Bx wr w.heap.size 0 0 ⟨#[]⟩ ∧ Below w.heap.size w wr) (fun _ i _ => n - (intOf i).toNat)
  case atStart => exact ⟨0, 0, Nat.zero_le _, rfl, rfl, ⟨rfl, rfl, Int.le_refl _, Int.le_refl _⟩, Bx.made _ _ _ _, below1 _ _⟩
  case round =>
    obtain ⟨k, m, hk, rfl, rfl, ht, hbx, hb⟩ := hrel
    have HT := Lib.hid ht
    have HB := Lib.hid hb
    have HX := Lib.hid hbx
    have m0 := ht.2.2.1
    have m1 := ht.2.2.2
    by_cases hlt : k < n
    · obtain ⟨b, o, x, rfl, hbB, hx, hok, x0, x1, x2⟩ := (HV.out.below (hb.mono hB)).at_ hlt
      obtain ⟨kx, nx, sx⟩ := x
      have HI := Lib.hid hx
      have D1 := Lib.hid (hb.alloc hb.size (.cells #[.int .i64 kx, .int .i64 nx, .string sx] 26))
      have R1 := Lib.hid (hbx.alloc (.cells #[.int .i64 kx, .int .i64 nx, .string sx] 26))
      have hr := HR.out _ (List.mem_of_getElem? hx)
      have HRX := Lib.hid hr
      have c0 := R1.out.c3
      have f0 := R1.out.fz
      by_cases h1 : kx = 1
      · subst h1
        have hn := truth_n hr rfl
        have hw : IntKind.i64.wrap (m + nx) = m + nx := IntWalk.i64_in _ (by have : nx = 0 ∨ nx = 1 := hn; omega)
        clear ht hb hx hok hbx hr hn
        go_wp2_with fail
        go_roundw
        case rel => exact ⟨k + 1, m + nx, by omega, by go_num, rfl, HT.out.step HI.out HRX.out rfl, R1.out, D1.out⟩
        case measure => simp [intOf]; omega
      · have hne : (kx != 1) = true := by rw [bne_iff_ne]; exact h1
        have H1 := Lib.hid h1
        clear ht hb hx hok hbx hr h1
        go_wp2_with fail
        try simp only [Exit.inBlock, Exit.then]
        refine bodyPost_ret (box_ret2 rfl rfl rfl (R1.out.put _ _ _)) rfl ?_
        exact ⟨ret_v (judge_bad (kinds_bad HI.out H1.out)), below_put D1.out (Nat.le_refl _) _ _ _⟩
    · obtain rfl : k = n := by omega
      have hj := judge_ok (op := op) HT.out HL.out
      clear ht hb hbx
      by_cases h11 : op = 11
      · subst h11
        rw [if_pos rfl] at hj
        have HJ := Lib.hid hj
        clear hj
        have c0 := HX.out.c3
        go_wp2_with fail
        refine (ftruth_any _ _).mono ?_
        rintro e w1 ⟨rfl, hb1⟩
        have R1 := Lib.hid (HX.out.then_ hb1)
        have D1 := Lib.hid (below_step HB.out hb1)
        have c := R1.out.c3
        have f := R1.out.fz
        clear hb1 c0
        go_wp2_with fail
        try simp only [Exit.inBlock, Exit.then]
        refine bodyPost_ret (box_ret2 rfl rfl rfl (R1.out.put _ _ _)) rfl ?_
        exact ⟨ret_v (HJ.out.trans (by first | rfl | rw [eq_dec] | rfl)), below_put D1.out (Nat.le_refl _) _ _ _⟩
      · have h11' : (op == 11) = false := by rw [beq_eq_false_iff_ne]; exact h11
        rw [if_neg h11] at hj
        by_cases h12 : op = 12
        · subst h12
          rw [if_pos rfl] at hj
          have HJ := Lib.hid hj
          clear hj h11
          have c0 := HX.out.c3
          go_wp2_with fail
          refine (ftruth_any _ _).mono ?_
          rintro e w1 ⟨rfl, hb1⟩
          have R1 := Lib.hid (HX.out.then_ hb1)
          have D1 := Lib.hid (below_step HB.out hb1)
          have c := R1.out.c3
          have f := R1.out.fz
          clear hb1 c0
          go_wp2_with fail
          try simp only [Exit.inBlock, Exit.then]
          refine bodyPost_ret (box_ret2 rfl rfl rfl (R1.out.put _ _ _)) rfl ?_
          exact ⟨ret_v (HJ.out.trans (by first | rfl | rw [eq_dec] | rfl)), below_put D1.out (Nat.le_refl _) _ _ _⟩
        · have h12' : (op == 12) = false := by rw [beq_eq_false_iff_ne]; exact h12
          rw [if_neg h12] at hj
          have HJ := Lib.hid hj
          clear hj h11 h12
          have c0 := HX.out.c3
          go_wp2_with fail
          refine (ftruth_any _ _).mono ?_
          rintro e w1 ⟨rfl, hb1⟩
          have R1 := Lib.hid (HX.out.then_ hb1)
          have D1 := Lib.hid (below_step HB.out hb1)
          have c := R1.out.c3
          have f := R1.out.fz
          clear hb1 c0
          go_wp2_with fail
          try simp only [Exit.inBlock, Exit.then]
          refine bodyPost_ret (box_ret2 rfl rfl rfl (R1.out.put _ _ _)) rfl ?_
          exact ⟨ret_v (HJ.out.trans (by first | rfl | rw [eq_dec] | rfl)), below_put D1.out (Nat.le_refl _) _ _ _⟩
end Go.Proofs.Ytjcegpakacedoaa
