/- The reference's Call: truths; any call. -/
import Derived.Test.YtjcegpakacedoaaFunRefs
namespace Go.Proofs.Ytjcegpakacedoaa
set_option linter.unusedVariables false
open Go.RowKit Go.Sort

theorem kinds_two {a b : Vl} {m : Int} (h : KindTo [a, b] 2 m) : a.k = 1 ∧ b.k = 1 := by
  have := h.1
  simpa [kindsB] using this
theorem kinds_one {a : Vl} {m : Int} (h : KindTo [a] 1 m) : a.k = 1 := by
  have := h.1
  simpa [kindsB] using this

set_option maxHeartbeats 6400000 in
set_option maxRecDepth 100000 in
theorem refcall_11 {w : World} {B c : Nat} {A : Option Addr} {a : Vl} (h : Vs w B A 1 c [a]) (hB : B ≤ w.heap.size) (ha : allR [a] = true) :
    Calls Try.prog 18 #[.int .i64 11, .slice A 1 c] w fun e w' => e = .returned (.tuple #[(callV 11 [a]).1.val, .int .i64 (callV 11 [a]).2]) ∧ Below w.heap.size w w' := by
  have hlen := h.1
  have hcap := h.2.2.1
  have hle := h.2.1
  unfold maxLen at hcap
  have HV := Lib.hid h
  have HBB := Lib.hid hB
  have HL := Lib.hid hlen
  have HA := Lib.hid (allR_iff.1 ha)
  have OA := Lib.hid (h.2.2.2.2 a (by simp))
  have RA := Lib.hid (allR_iff.1 ha a (by simp))
  have HQ := Lib.hid ((call_ok ha (by decide) rfl).trans rfl : callV 11 [a] = notV a)
  have HJ := Lib.hid (judge_one RA.out)
  clear ha h hlen hB
  generalize callV 11 [a] = RR at *
  go_enter Try.func18, Try.ntmps18
  go_wp2_with fail
  go_loopw [17] (fun i wr => ∃ k : Nat, k ≤ 1 ∧ i = .int .i64 k ∧ RightTo [a] k ∧ Bx wr w.heap.size 0 0 ⟨#[]⟩ ∧ Below w.heap.size w wr) (fun i _ => 1 - (intOf i).toNat)
  case atStart => exact ⟨0, Nat.zero_le _, rfl, fun j x _ hj => by omega, Bx.made _ _ _ _, below1 _ _⟩
  case round =>
    obtain ⟨k, hk, rfl, ht, hbx, hb⟩ := hrel
    by_cases hlt : k < 1
    · obtain ⟨b, o, x, rfl, hbB, hx, hok, x0, x1, x2⟩ := (HV.out.below (hb.mono HBB.out)).at_ hlt
      have HT := Lib.hid ht
      have HX := Lib.hid hx
      have D1 := Lib.hid (hb.alloc hb.size (.cells #[.int .i64 x.k, .int .i64 x.n, .string x.s] 26))
      have R1 := Lib.hid (hbx.alloc (.cells #[.int .i64 x.k, .int .i64 x.n, .string x.s] 26))
      have hr := HA.out x (List.mem_of_getElem? hx)
      obtain ⟨kx, nx, sx⟩ := x
      have HR := Lib.hid hr
      have QR := Lib.hid (refright_is (decide_eq_true hr) hok.2.2)
      clear ht hb hx hok hbx hr
      go_wp2_with fail
      refine (QR.out _).mono ?_
      rintro e w2 ⟨rfl, hb2⟩
      have D2 := Lib.hid (below_step D1.out hb2)
      have R2 := Lib.hid (R1.out.then_ hb2)
      have c0 := R2.out.c3
      have f0 := R2.out.fz
      clear hb2
      go_wp2_with fail
      go_roundw
      case rel => exact ⟨k + 1, by omega, by go_num, HT.out.step HX.out HR.out, R2.out, D2.out⟩
      case measure => simp [intOf]; omega
    · obtain rfl : k = 1 := by omega
      have c0 := hbx.c3
      have f0 := hbx.fz
      have R1 := Lib.hid hbx
      have D1 := Lib.hid hb
      clear ht hb hbx
      go_wp2_with fail
      clear c0 f0
      go_loopw [146] (fun i wr => ∃ (k : Nat) (m : Int), k ≤ 1 ∧ i = .int .i64 k ∧ KindTo [a] k m ∧ Bx wr w.heap.size 0 0 ⟨#[]⟩ ∧ Below w.heap.size w wr) (fun i _ => 1 - (intOf i).toNat)
      case atStart => exact ⟨0, 0, Nat.zero_le _, rfl, ⟨rfl, rfl, Int.le_refl _, Int.le_refl _⟩, R1.out, D1.out⟩
      case round =>
        clear R1 D1
        obtain ⟨k, m, hk, rfl, ht, hbx, hb⟩ := hrel
        by_cases hlt : k < 1
        · obtain ⟨b, o, x, rfl, hbB, hx, hok, x0, x1, x2⟩ := (HV.out.below (hb.mono HBB.out)).at_ hlt
          have HT := Lib.hid ht
          have HX := Lib.hid hx
          have D1 := Lib.hid (hb.alloc hb.size (.cells #[.int .i64 x.k, .int .i64 x.n, .string x.s] 26))
          have R1 := Lib.hid (hbx.alloc (.cells #[.int .i64 x.k, .int .i64 x.n, .string x.s] 26))
          have HR := Lib.hid (HA.out x (List.mem_of_getElem? hx))
          obtain ⟨kx, nx, sx⟩ := x
          dsimp only at x0 x1 x2
          have c0 := R1.out.c3
          have f0 := R1.out.fz
          by_cases h1 : kx = 1
          · subst h1
            clear ht hb hx hok hbx
            go_wp2_with fail
            go_roundw
            case rel => exact ⟨k + 1, m + nx, by omega, by go_num, HT.out.step HX.out HR.out rfl, R1.out, D1.out⟩
            case measure => simp [intOf]; omega
          · have hne : (kx != 1) = true := by rw [bne_iff_ne]; exact h1
            have HQ2 := Lib.hid (judge_bad (op := 11) (kinds_bad HX.out h1))
            clear ht hb hx hok hbx h1
            go_wp2_with fail
            try simp only [Exit.inBlock, Exit.then]
            refine bodyPost_ret (box_ret2 rfl rfl rfl (R1.out.put _ _ _)) rfl ?_
            exact ⟨ret_v (HQ.out.trans (HJ.out.symm.trans HQ2.out)), below_put D1.out (Nat.le_refl _) _ _ _⟩
        · obtain rfl : k = 1 := by omega
          have hks := kinds_one ht
          obtain ⟨b0, o0, x, hA, hbB, hx, hok, x0, x1, x2⟩ := (HV.out.below (hb.mono HBB.out)).at_ (k := 0) (by omega)
          subst hA
          obtain rfl : a = x := Option.some.inj hx
          simp only [Nat.zero_mul, Nat.add_zero] at x0 x1 x2
          have HX := Lib.hid (show _ ∧ _ ∧ _ from ⟨x0, x1, x2⟩)
          clear hx hok
          have c0 := hbx.c3
          have f0 := hbx.fz
          have R1 := Lib.hid hbx
          have D1 := Lib.hid hb
          clear ht hb hbx
          obtain ⟨k, n, s⟩ := a
          dsimp only at x0 x1 x2
          obtain rfl : k = 1 := hks
          have na : n = 0 ∨ n = 1 := truth_n RA.out rfl
          rcases na with rfl | rfl
          all_goals
            go_wp2_with fail
            refine (rbool_any _ _).mono ?_
            rintro e w9 ⟨rfl, hb9⟩
            have R9 := Lib.hid (R1.out.then_ hb9)
            have D9 := Lib.hid (below_step D1.out hb9)
            clear hb9 c0 f0
            have c0 := R9.out.c3
            have f0 := R9.out.fz
            go_wp2_with fail
            try simp only [Exit.inBlock, Exit.then]
            refine bodyPost_ret (box_ret2 rfl rfl rfl (R9.out.put _ _ _)) rfl ?_
            exact ⟨ret_v (HQ.out.trans (by rfl)), below_put D9.out (Nat.le_refl _) _ _ _⟩

set_option maxHeartbeats 6400000 in
set_option maxRecDepth 100000 in
theorem refcall_12 {w : World} {B c : Nat} {A : Option Addr} {a b : Vl} (h : Vs w B A 2 c [a, b]) (hB : B ≤ w.heap.size) (ha : allR [a, b] = true) :
    Calls Try.prog 18 #[.int .i64 12, .slice A 2 c] w fun e w' => e = .returned (.tuple #[(callV 12 [a, b]).1.val, .int .i64 (callV 12 [a, b]).2]) ∧ Below w.heap.size w w' := by
  have hlen := h.1
  have hcap := h.2.2.1
  have hle := h.2.1
  unfold maxLen at hcap
  have HV := Lib.hid h
  have HBB := Lib.hid hB
  have HL := Lib.hid hlen
  have HA := Lib.hid (allR_iff.1 ha)
  have OA := Lib.hid (h.2.2.2.2 a (by simp))
  have RA := Lib.hid (allR_iff.1 ha a (by simp))
  have OB := Lib.hid (h.2.2.2.2 b (by simp))
  have RB := Lib.hid (allR_iff.1 ha b (by simp))
  have HQ := Lib.hid ((call_ok ha (by decide) rfl).trans rfl : callV 12 [a, b] = bothV 12 a b)
  have HJ := Lib.hid (judge_two (.inl rfl) RA.out RB.out)
  clear ha h hlen hB
  generalize callV 12 [a, b] = RR at *
  go_enter Try.func18, Try.ntmps18
  go_wp2_with fail
  go_loopw [17] (fun i wr => ∃ k : Nat, k ≤ 2 ∧ i = .int .i64 k ∧ RightTo [a, b] k ∧ Bx wr w.heap.size 0 0 ⟨#[]⟩ ∧ Below w.heap.size w wr) (fun i _ => 2 - (intOf i).toNat)
  case atStart => exact ⟨0, Nat.zero_le _, rfl, fun j x _ hj => by omega, Bx.made _ _ _ _, below1 _ _⟩
  case round =>
    obtain ⟨k, hk, rfl, ht, hbx, hb⟩ := hrel
    by_cases hlt : k < 2
    · obtain ⟨b, o, x, rfl, hbB, hx, hok, x0, x1, x2⟩ := (HV.out.below (hb.mono HBB.out)).at_ hlt
      have HT := Lib.hid ht
      have HX := Lib.hid hx
      have D1 := Lib.hid (hb.alloc hb.size (.cells #[.int .i64 x.k, .int .i64 x.n, .string x.s] 26))
      have R1 := Lib.hid (hbx.alloc (.cells #[.int .i64 x.k, .int .i64 x.n, .string x.s] 26))
      have hr := HA.out x (List.mem_of_getElem? hx)
      obtain ⟨kx, nx, sx⟩ := x
      have HR := Lib.hid hr
      have QR := Lib.hid (refright_is (decide_eq_true hr) hok.2.2)
      clear ht hb hx hok hbx hr
      go_wp2_with fail
      refine (QR.out _).mono ?_
      rintro e w2 ⟨rfl, hb2⟩
      have D2 := Lib.hid (below_step D1.out hb2)
      have R2 := Lib.hid (R1.out.then_ hb2)
      have c0 := R2.out.c3
      have f0 := R2.out.fz
      clear hb2
      go_wp2_with fail
      go_roundw
      case rel => exact ⟨k + 1, by omega, by go_num, HT.out.step HX.out HR.out, R2.out, D2.out⟩
      case measure => simp [intOf]; omega
    · obtain rfl : k = 2 := by omega
      have c0 := hbx.c3
      have f0 := hbx.fz
      have R1 := Lib.hid hbx
      have D1 := Lib.hid hb
      clear ht hb hbx
      go_wp2_with fail
      clear c0 f0
      go_loopw [146] (fun i wr => ∃ (k : Nat) (m : Int), k ≤ 2 ∧ i = .int .i64 k ∧ KindTo [a, b] k m ∧ Bx wr w.heap.size 0 0 ⟨#[]⟩ ∧ Below w.heap.size w wr) (fun i _ => 2 - (intOf i).toNat)
      case atStart => exact ⟨0, 0, Nat.zero_le _, rfl, ⟨rfl, rfl, Int.le_refl _, Int.le_refl _⟩, R1.out, D1.out⟩
      case round =>
        clear R1 D1
        obtain ⟨k, m, hk, rfl, ht, hbx, hb⟩ := hrel
        by_cases hlt : k < 2
        · obtain ⟨b, o, x, rfl, hbB, hx, hok, x0, x1, x2⟩ := (HV.out.below (hb.mono HBB.out)).at_ hlt
          have HT := Lib.hid ht
          have HX := Lib.hid hx
          have D1 := Lib.hid (hb.alloc hb.size (.cells #[.int .i64 x.k, .int .i64 x.n, .string x.s] 26))
          have R1 := Lib.hid (hbx.alloc (.cells #[.int .i64 x.k, .int .i64 x.n, .string x.s] 26))
          have HR := Lib.hid (HA.out x (List.mem_of_getElem? hx))
          obtain ⟨kx, nx, sx⟩ := x
          dsimp only at x0 x1 x2
          have c0 := R1.out.c3
          have f0 := R1.out.fz
          by_cases h1 : kx = 1
          · subst h1
            clear ht hb hx hok hbx
            go_wp2_with fail
            go_roundw
            case rel => exact ⟨k + 1, m + nx, by omega, by go_num, HT.out.step HX.out HR.out rfl, R1.out, D1.out⟩
            case measure => simp [intOf]; omega
          · have hne : (kx != 1) = true := by rw [bne_iff_ne]; exact h1
            have HQ2 := Lib.hid (judge_bad (op := 12) (kinds_bad HX.out h1))
            clear ht hb hx hok hbx h1
            go_wp2_with fail
            try simp only [Exit.inBlock, Exit.then]
            refine bodyPost_ret (box_ret2 rfl rfl rfl (R1.out.put _ _ _)) rfl ?_
            exact ⟨ret_v (HQ.out.trans (HJ.out.symm.trans HQ2.out)), below_put D1.out (Nat.le_refl _) _ _ _⟩
        · obtain rfl : k = 2 := by omega
          have hks := kinds_two ht
          obtain ⟨b0, o0, x, hA, hbB, hx, hok, x0, x1, x2⟩ := (HV.out.below (hb.mono HBB.out)).at_ (k := 0) (by omega)
          subst hA
          obtain ⟨b1, o1, y, hA', _, hy, _, y0, y1, y2⟩ := (HV.out.below (hb.mono HBB.out)).at_ (k := 1) (by omega)
          injection hA' with hA'
          injection hA' with e1 e2
          subst e1 e2
          obtain rfl : a = x := Option.some.inj hx
          obtain rfl : b = y := Option.some.inj hy
          simp only [Nat.zero_mul, Nat.one_mul, Nat.add_zero] at x0 x1 x2 y0 y1 y2
          have HX := Lib.hid (show _ ∧ _ ∧ _ from ⟨x0, x1, x2⟩)
          have HY := Lib.hid (show _ ∧ _ ∧ _ from ⟨y0, y1, y2⟩)
          clear hx hy hok
          have c0 := hbx.c3
          have f0 := hbx.fz
          have R1 := Lib.hid hbx
          have D1 := Lib.hid hb
          clear ht hb hbx
          obtain ⟨k, n, s⟩ := a
          obtain ⟨k', n', s'⟩ := b
          dsimp only at x0 x1 x2 y0 y1 y2
          obtain ⟨rfl, rfl⟩ : k = 1 ∧ k' = 1 := hks
          have na : n = 0 ∨ n = 1 := truth_n RA.out rfl
          have nb : n' = 0 ∨ n' = 1 := truth_n RB.out rfl
          rcases na with rfl | rfl <;> rcases nb with rfl | rfl
          all_goals
            go_wp2_with fail
            refine (rbool_any _ _).mono ?_
            rintro e w9 ⟨rfl, hb9⟩
            have R9 := Lib.hid (R1.out.then_ hb9)
            have D9 := Lib.hid (below_step D1.out hb9)
            clear hb9 c0 f0
            have c0 := R9.out.c3
            have f0 := R9.out.fz
            go_wp2_with fail
            try simp only [Exit.inBlock, Exit.then]
            refine bodyPost_ret (box_ret2 rfl rfl rfl (R9.out.put _ _ _)) rfl ?_
            exact ⟨ret_v (HQ.out.trans (by rfl)), below_put D9.out (Nat.le_refl _) _ _ _⟩

set_option maxHeartbeats 6400000 in
set_option maxRecDepth 100000 in
theorem refcall_13 {w : World} {B c : Nat} {A : Option Addr} {a b : Vl} (h : Vs w B A 2 c [a, b]) (hB : B ≤ w.heap.size) (ha : allR [a, b] = true) :
    Calls Try.prog 18 #[.int .i64 13, .slice A 2 c] w fun e w' => e = .returned (.tuple #[(callV 13 [a, b]).1.val, .int .i64 (callV 13 [a, b]).2]) ∧ Below w.heap.size w w' := by
  have hlen := h.1
  have hcap := h.2.2.1
  have hle := h.2.1
  unfold maxLen at hcap
  have HV := Lib.hid h
  have HBB := Lib.hid hB
  have HL := Lib.hid hlen
  have HA := Lib.hid (allR_iff.1 ha)
  have OA := Lib.hid (h.2.2.2.2 a (by simp))
  have RA := Lib.hid (allR_iff.1 ha a (by simp))
  have OB := Lib.hid (h.2.2.2.2 b (by simp))
  have RB := Lib.hid (allR_iff.1 ha b (by simp))
  have HQ := Lib.hid ((call_ok ha (by decide) rfl).trans rfl : callV 13 [a, b] = bothV 13 a b)
  have HJ := Lib.hid (judge_two (.inr rfl) RA.out RB.out)
  clear ha h hlen hB
  generalize callV 13 [a, b] = RR at *
  go_enter Try.func18, Try.ntmps18
  go_wp2_with fail
  go_loopw [17] (fun i wr => ∃ k : Nat, k ≤ 2 ∧ i = .int .i64 k ∧ RightTo [a, b] k ∧ Bx wr w.heap.size 0 0 ⟨#[]⟩ ∧ Below w.heap.size w wr) (fun i _ => 2 - (intOf i).toNat)
  case atStart => exact ⟨0, Nat.zero_le _, rfl, fun j x _ hj => by omega, Bx.made _ _ _ _, below1 _ _⟩
  case round =>
    obtain ⟨k, hk, rfl, ht, hbx, hb⟩ := hrel
    by_cases hlt : k < 2
    · obtain ⟨b, o, x, rfl, hbB, hx, hok, x0, x1, x2⟩ := (HV.out.below (hb.mono HBB.out)).at_ hlt
      have HT := Lib.hid ht
      have HX := Lib.hid hx
      have D1 := Lib.hid (hb.alloc hb.size (.cells #[.int .i64 x.k, .int .i64 x.n, .string x.s] 26))
      have R1 := Lib.hid (hbx.alloc (.cells #[.int .i64 x.k, .int .i64 x.n, .string x.s] 26))
      have hr := HA.out x (List.mem_of_getElem? hx)
      obtain ⟨kx, nx, sx⟩ := x
      have HR := Lib.hid hr
      have QR := Lib.hid (refright_is (decide_eq_true hr) hok.2.2)
      clear ht hb hx hok hbx hr
      go_wp2_with fail
      refine (QR.out _).mono ?_
      rintro e w2 ⟨rfl, hb2⟩
      have D2 := Lib.hid (below_step D1.out hb2)
      have R2 := Lib.hid (R1.out.then_ hb2)
      have c0 := R2.out.c3
      have f0 := R2.out.fz
      clear hb2
      go_wp2_with fail
      go_roundw
      case rel => exact ⟨k + 1, by omega, by go_num, HT.out.step HX.out HR.out, R2.out, D2.out⟩
      case measure => simp [intOf]; omega
    · obtain rfl : k = 2 := by omega
      have c0 := hbx.c3
      have f0 := hbx.fz
      have R1 := Lib.hid hbx
      have D1 := Lib.hid hb
      clear ht hb hbx
      go_wp2_with fail
      clear c0 f0
      go_loopw [146] (fun i wr => ∃ (k : Nat) (m : Int), k ≤ 2 ∧ i = .int .i64 k ∧ KindTo [a, b] k m ∧ Bx wr w.heap.size 0 0 ⟨#[]⟩ ∧ Below w.heap.size w wr) (fun i _ => 2 - (intOf i).toNat)
      case atStart => exact ⟨0, 0, Nat.zero_le _, rfl, ⟨rfl, rfl, Int.le_refl _, Int.le_refl _⟩, R1.out, D1.out⟩
      case round =>
        clear R1 D1
        obtain ⟨k, m, hk, rfl, ht, hbx, hb⟩ := hrel
        by_cases hlt : k < 2
        · obtain ⟨b, o, x, rfl, hbB, hx, hok, x0, x1, x2⟩ := (HV.out.below (hb.mono HBB.out)).at_ hlt
          have HT := Lib.hid ht
          have HX := Lib.hid hx
          have D1 := Lib.hid (hb.alloc hb.size (.cells #[.int .i64 x.k, .int .i64 x.n, .string x.s] 26))
          have R1 := Lib.hid (hbx.alloc (.cells #[.int .i64 x.k, .int .i64 x.n, .string x.s] 26))
          have HR := Lib.hid (HA.out x (List.mem_of_getElem? hx))
          obtain ⟨kx, nx, sx⟩ := x
          dsimp only at x0 x1 x2
          have c0 := R1.out.c3
          have f0 := R1.out.fz
          by_cases h1 : kx = 1
          · subst h1
            clear ht hb hx hok hbx
            go_wp2_with fail
            go_roundw
            case rel => exact ⟨k + 1, m + nx, by omega, by go_num, HT.out.step HX.out HR.out rfl, R1.out, D1.out⟩
            case measure => simp [intOf]; omega
          · have hne : (kx != 1) = true := by rw [bne_iff_ne]; exact h1
            have HQ2 := Lib.hid (judge_bad (op := 13) (kinds_bad HX.out h1))
            clear ht hb hx hok hbx h1
            go_wp2_with fail
            try simp only [Exit.inBlock, Exit.then]
            refine bodyPost_ret (box_ret2 rfl rfl rfl (R1.out.put _ _ _)) rfl ?_
            exact ⟨ret_v (HQ.out.trans (HJ.out.symm.trans HQ2.out)), below_put D1.out (Nat.le_refl _) _ _ _⟩
        · obtain rfl : k = 2 := by omega
          have hks := kinds_two ht
          obtain ⟨b0, o0, x, hA, hbB, hx, hok, x0, x1, x2⟩ := (HV.out.below (hb.mono HBB.out)).at_ (k := 0) (by omega)
          subst hA
          obtain ⟨b1, o1, y, hA', _, hy, _, y0, y1, y2⟩ := (HV.out.below (hb.mono HBB.out)).at_ (k := 1) (by omega)
          injection hA' with hA'
          injection hA' with e1 e2
          subst e1 e2
          obtain rfl : a = x := Option.some.inj hx
          obtain rfl : b = y := Option.some.inj hy
          simp only [Nat.zero_mul, Nat.one_mul, Nat.add_zero] at x0 x1 x2 y0 y1 y2
          have HX := Lib.hid (show _ ∧ _ ∧ _ from ⟨x0, x1, x2⟩)
          have HY := Lib.hid (show _ ∧ _ ∧ _ from ⟨y0, y1, y2⟩)
          clear hx hy hok
          have c0 := hbx.c3
          have f0 := hbx.fz
          have R1 := Lib.hid hbx
          have D1 := Lib.hid hb
          clear ht hb hbx
          obtain ⟨k, n, s⟩ := a
          obtain ⟨k', n', s'⟩ := b
          dsimp only at x0 x1 x2 y0 y1 y2
          obtain ⟨rfl, rfl⟩ : k = 1 ∧ k' = 1 := hks
          have na : n = 0 ∨ n = 1 := truth_n RA.out rfl
          have nb : n' = 0 ∨ n' = 1 := truth_n RB.out rfl
          rcases na with rfl | rfl <;> rcases nb with rfl | rfl
          all_goals
            go_wp2_with fail
            refine (rbool_any _ _).mono ?_
            rintro e w9 ⟨rfl, hb9⟩
            have R9 := Lib.hid (R1.out.then_ hb9)
            have D9 := Lib.hid (below_step D1.out hb9)
            clear hb9 c0 f0
            have c0 := R9.out.c3
            have f0 := R9.out.fz
            go_wp2_with fail
            try simp only [Exit.inBlock, Exit.then]
            refine bodyPost_ret (box_ret2 rfl rfl rfl (R9.out.put _ _ _)) rfl ?_
            exact ⟨ret_v (HQ.out.trans (by rfl)), below_put D9.out (Nat.le_refl _) _ _ _⟩

theorem refcall_any {w : World} {B n c : Nat} {A : Option Addr} {l : List Vl} (h : Vs w B A n c l) (hB : B ≤ w.heap.size) (hn : n ≤ 1000000) (op : Int) :
    Calls Try.prog 18 #[.int .i64 op, .slice A n c] w fun e w' => e = .returned (.tuple #[(callV op l).1.val, .int .i64 (callV op l).2]) ∧ Below w.heap.size w w' := by
  cases ha : allR l with
  | false => exact refcall_bad1 h hB hn op ha
  | true =>
    by_cases hk : 6 ≤ op ∧ op ≤ 13
    · by_cases hl : l.length = needs op
      · have hlen := h.1
        by_cases h11 : op = 11
        · subst h11
          obtain ⟨a, rfl⟩ := one_of hl
          subst hlen
          exact refcall_11 h hB ha
        · have hl2 : l.length = 2 := hl.trans (if_neg h11)
          obtain ⟨a, b, rfl⟩ := two_of hl2
          subst hlen
          obtain rfl | rfl | rfl | rfl | rfl | rfl | rfl : op = 6 ∨ op = 7 ∨ op = 8 ∨ op = 9 ∨ op = 10 ∨ op = 12 ∨ op = 13 := by omega
          · exact refcall_6 h hB ha
          · exact refcall_7 h hB ha
          · exact refcall_8 h hB ha
          · exact refcall_9 h hB ha
          · exact refcall_10 h hB ha
          · exact refcall_12 h hB ha
          · exact refcall_13 h hB ha
      · exact refcall_bad3 h hB hn op ha hk hl
    · exact refcall_bad2 h hB hn op ha hk
end Go.Proofs.Ytjcegpakacedoaa
