/- PolicyDeep: the walk (fewer than four sets). -/
import Derived.Test.YtincnopaclmppaaPolDeepL
import Derived.Test.YtincnopaclmppaaPolDeepN
import Derived.Test.YtincnopaclmppaaPolRuns
import Derived.Test.YtincnopaclmppaaWithin
import Derived.Test.YtincnopaclmppaaHTail
namespace Go.Proofs.Ytincnopaclmppaa
set_option linter.unusedVariables false
open Go.RowKit Go.Sort

set_option maxRecDepth 100000 in
set_option maxHeartbeats 16000000 in
theorem policyDeep_walkA (a0 a1 : Int) (k m : Nat) (hk : withinOf a0 0 6 = (k : Int)) (hm : withinOf a1 0 80 = (m : Int)) (hk6 : k ≤ 6) (hm80 : m ≤ 80) (hk4 : k < 4) (W : World) :
    Calls Try.prog 3 #[.int .i64 a0, .int .i64 a1] W fun e w' => e = .returned (.bool true) ∧ Below W.heap.size W w' := by
  have WI1 := Lib.hid (fun w => within_any (n := a0) (lo := 0) (hi := 6) (w := w) (by omega) (by omega) (by omega))
  have WI2 := Lib.hid (fun w => within_any (n := a1) (lo := 0) (hi := 80) (w := w) (by omega) (by omega) (by omega))
  rw [hk] at WI1
  rw [hm] at WI2
  clear hk hm
  have HRD : Hid (rightE (deepP k) = 0) := by show _ = _; rw [deepP_all k (List.mem_range.2 (by omega)), if_pos hk4]
  have hk4' : ¬ (4 : Int) ≤ (k : Int) := by omega
  have DN := Lib.hid (fun (i : Nat) (hi : i < 100) w => dname_any i hi w)
  have HRUN := Lib.hid (fun w => pruns_any w)
  go_enter Try.func3, Try.ntmps3
  go_wp2_with (go_at_call 10; (with_reducible refine (WI1.out _).mono ?_); rintro e w1 ⟨rfl, rfl⟩)
  go_loopw [8] (fun i wr => ∃ (j : Nat) (A : Option Addr) (n c : Nat), j ≤ k ∧ i = .int .i64 (j : Int) ∧ Ob wr W.heap.size 31 #[.string (deepP j).id, .bool (deepP j).set, .int .i64 (deepP j).alg, .slice none 0 0, .slice none 0 0, .slice A n c, .slice none 0 0] ∧ Rw 7 (PolAt wr (fun b => W.heap.size < b) j) wr (fun b => W.heap.size < b) A n c (deepP j).kids ∧ Below W.heap.size W wr) (fun i _ => k - (intOf i).toNat)
  case atStart => exact ⟨0, none, 0, 0, Nat.zero_le _, rfl, Ob.made _ _ _, Rw.nil_ _ _ _ _, (Below.refl _ _).alloc (Nat.le_refl _) _⟩
  case round =>
    obtain ⟨j, A, n, c, hj, rfl, hob, hrw, hb⟩ := hrel
    have HOB := Lib.hid hob
    have HRW := Lib.hid hrw
    have HB := Lib.hid hb
    clear hob hrw hb
    by_cases hlt : j < k
    · go_wp2_with fail
      have KO : Hid (∀ wz, Below wr.heap.size wr wz → Ob wz W.heap.size 31 #[.string (deepP j).id, .bool (deepP j).set, .int .i64 (deepP j).alg, .slice none 0 0, .slice none 0 0, .slice A n c, .slice none 0 0]) := fun wz hz => HOB.out.below hz HOB.out.lt
      refine wp_region_held_tail (fun w' => Below wr.heap.size wr w') 6 (by kernel_rfl) (by kernel_rfl) ?_
      intro G
      change HeadW _ _ _ _ _ _ _ _ _ _ (wr.drewN 1)
      have S0 := Lib.hid (below_drewN (Below.refl wr.heap.size wr) 1)
      generalize wr.drewN 1 = v0 at *
      refine HeadW_take (i := 0) (v := ?_) G rfl (by kernel_rfl) (by kernel_rfl) (by kernel_rfl) (fun _ _ _ h => h) (Or.inl ⟨by rfl, ?_⟩) S0.out ?_
      rotate_left
      · intro wz hS
        go_simp
        try with_reducible rfl
      refine HeadW_take (i := 1) (v := ?_) G rfl (by kernel_rfl) (by kernel_rfl) (by kernel_rfl) (fun _ _ _ h => h) (Or.inl ⟨by rfl, ?_⟩) S0.out ?_
      rotate_left
      · intro wz hS
        go_simp
        try with_reducible rfl
      refine HeadW_take (i := 3) (v := ?_) G rfl (by kernel_rfl) (by kernel_rfl) (by kernel_rfl) (fun _ _ _ h => h) (Or.inl ⟨by rfl, ?_⟩) S0.out ?_
      rotate_left
      · intro wz hS
        have hq := KO.out _ hS; have q0 := hq.cell 0; have q1 := hq.cell 1; have q2 := hq.cell 2; have q3 := hq.cell 3; have q4 := hq.cell 4; have q5 := hq.cell 5; have q6 := hq.cell 6
        go_simp
        try with_reducible rfl
      refine HeadW_ready (rs := [2, 4]) (by kernel_rfl) rfl rfl ?_
      refine AllW.cons rfl (fun K hK => ?_) (AllW.cons rfl (fun K hK => ?_) AllW.nil)
      · go_simp
        refine (DN.out j (by omega) _).mono ?_
        rintro e v2 ⟨rfl, hb2⟩
        have S2 := Lib.hid (S0.out.trans (hb2.mono S0.out.size))
        refine hK _ _ S2.out ?_
        clear hK K hb2
        refine HeadW_ready (rs := [4]) (by kernel_rfl) rfl rfl ?_
        refine AllW.cons rfl (fun K hK => ?_) AllW.nil
        go_simp
        have S3 := Lib.hid (S2.out.alloc S2.out.size (.cells #[.string (deepP j).id, .bool (deepP j).set, .int .i64 (deepP j).alg, .slice none 0 0, .slice none 0 0, .slice A n c, .slice none 0 0] 31))
        have LIT := Lib.hid (Ob.made v2 31 #[.string (deepP j).id, .bool (deepP j).set, .int .i64 (deepP j).alg, .slice none 0 0, .slice none 0 0, .slice A n c, .slice none 0 0])
        refine hK _ _ S3.out ?_
        clear hK K
        generalize v2.alloc (.cells #[.string (deepP j).id, .bool (deepP j).set, .int .i64 (deepP j).alg, .slice none 0 0, .slice none 0 0, .slice A n c, .slice none 0 0] 31) = v3 at *
        refine HeadW_ready (rs := [5]) (by kernel_rfl) rfl rfl ?_
        refine AllW.cons rfl (fun K hK => ?_) AllW.nil
        go_simp
        refine hK _ _ S3.out ?_
        clear hK K
        intro _
        refine ⟨by kernel_rfl, ?_⟩
        simp only [List.drop_succ_cons, List.drop_zero]
        have P0 := KO.out _ S3.out
        have P1 := put1_ob P0 (.string (nmD j))
        have P2 := put2_ob P0 (.string (nmD j)) (.bool true)
        have P3 := put3_ob P0 (.string (nmD j)) (.bool true) (.int .i64 4)
        have P4 := put4_ob P0 (.string (nmD j)) (.bool true) (.int .i64 4) (.slice none 0 0)
        have P5 := put5_ob P0 (.string (nmD j)) (.bool true) (.int .i64 4) (.slice none 0 0) (.slice none 0 0)
        have P6 := put6_ob P0 (.string (nmD j)) (.bool true) (.int .i64 4) (.slice none 0 0) (.slice none 0 0) (.slice (some ⟨v2.heap.size, 0, none⟩) 1 1)
        have P7 := put7_ob P0 (.string (nmD j)) (.bool true) (.int .i64 4) (.slice none 0 0) (.slice none 0 0) (.slice (some ⟨v2.heap.size, 0, none⟩) 1 1) (.slice none 0 0)
        have PO := put7_only (V := v3) (P := W.heap.size) (.string (nmD j)) (.bool true) (.int .i64 4) (.slice none 0 0) (.slice none 0 0) (.slice (some ⟨v2.heap.size, 0, none⟩) 1 1) (.slice none 0 0)
        have RW7 := Lib.hid (deep_step HRW.out HOB.out.lt S3.out LIT.out (S2.out.size) PO)
        have z0 := P0.cell 0
        have f0 := P0.frozen 0
        have z1 := P1.cell 1
        have f1 := P1.frozen 1
        have z2 := P2.cell 2
        have f2 := P2.frozen 2
        have z3 := P3.cell 3
        have f3 := P3.frozen 3
        have z4 := P4.cell 4
        have f4 := P4.frozen 4
        have z5 := P5.cell 5
        have f5 := P5.frozen 5
        have z6 := P6.cell 6
        have f6 := P6.frozen 6
        simp only [put1W, put2W, put3W, put4W, put5W, put6W] at z1 z2 z3 z4 z5 z6 f1 f2 f3 f4 f5 f6
        have P7 := Lib.hid P7
        have PO := Lib.hid (HB.out.trans ((S3.out.mono HB.out.size).trans (PO.below (Nat.le_trans HB.out.size S3.out.size) (Nat.le_refl _))))
        clear P0 P1 P2 P3 P4 P5 P6
        go_wp2_with fail
        go_roundw
        case rel => exact ⟨j + 1, some ⟨v2.heap.size, 0, none⟩, 1, 1, by omega, by go_num, P7.out, RW7.out, PO.out⟩
        case measure => simp [intOf]; omega
      · go_simp
        have S4 := Lib.hid (S0.out.alloc S0.out.size (.cells #[.string (deepP j).id, .bool (deepP j).set, .int .i64 (deepP j).alg, .slice none 0 0, .slice none 0 0, .slice A n c, .slice none 0 0] 31))
        have LI0 := Lib.hid (Ob.made v0 31 #[.string (deepP j).id, .bool (deepP j).set, .int .i64 (deepP j).alg, .slice none 0 0, .slice none 0 0, .slice A n c, .slice none 0 0])
        refine hK _ _ S4.out ?_
        clear hK K
        generalize v0.alloc (.cells #[.string (deepP j).id, .bool (deepP j).set, .int .i64 (deepP j).alg, .slice none 0 0, .slice none 0 0, .slice A n c, .slice none 0 0] 31) = v4 at *
        refine HeadW_ready (rs := [2]) (by kernel_rfl) rfl rfl ?_
        refine AllW.cons rfl (fun K hK => ?_) AllW.nil
        go_simp
        refine (DN.out j (by omega) _).mono ?_
        rintro e v5 ⟨rfl, hb2⟩
        have S5 := Lib.hid (S4.out.trans (hb2.mono S4.out.size))
        have LIT := Lib.hid (LI0.out.below hb2 LI0.out.lt)
        refine hK _ _ S5.out ?_
        clear hK K hb2
        refine HeadW_ready (rs := [5]) (by kernel_rfl) rfl rfl ?_
        refine AllW.cons rfl (fun K hK => ?_) AllW.nil
        go_simp
        refine hK _ _ S5.out ?_
        clear hK K
        intro _
        refine ⟨by kernel_rfl, ?_⟩
        simp only [List.drop_succ_cons, List.drop_zero]
        have P0 := KO.out _ S5.out
        have P1 := put1_ob P0 (.string (nmD j))
        have P2 := put2_ob P0 (.string (nmD j)) (.bool true)
        have P3 := put3_ob P0 (.string (nmD j)) (.bool true) (.int .i64 4)
        have P4 := put4_ob P0 (.string (nmD j)) (.bool true) (.int .i64 4) (.slice none 0 0)
        have P5 := put5_ob P0 (.string (nmD j)) (.bool true) (.int .i64 4) (.slice none 0 0) (.slice none 0 0)
        have P6 := put6_ob P0 (.string (nmD j)) (.bool true) (.int .i64 4) (.slice none 0 0) (.slice none 0 0) (.slice (some ⟨v0.heap.size, 0, none⟩) 1 1)
        have P7 := put7_ob P0 (.string (nmD j)) (.bool true) (.int .i64 4) (.slice none 0 0) (.slice none 0 0) (.slice (some ⟨v0.heap.size, 0, none⟩) 1 1) (.slice none 0 0)
        have PO := put7_only (V := v5) (P := W.heap.size) (.string (nmD j)) (.bool true) (.int .i64 4) (.slice none 0 0) (.slice none 0 0) (.slice (some ⟨v0.heap.size, 0, none⟩) 1 1) (.slice none 0 0)
        have RW7 := Lib.hid (deep_step HRW.out HOB.out.lt S5.out LIT.out (S0.out.size) PO)
        have z0 := P0.cell 0
        have f0 := P0.frozen 0
        have z1 := P1.cell 1
        have f1 := P1.frozen 1
        have z2 := P2.cell 2
        have f2 := P2.frozen 2
        have z3 := P3.cell 3
        have f3 := P3.frozen 3
        have z4 := P4.cell 4
        have f4 := P4.frozen 4
        have z5 := P5.cell 5
        have f5 := P5.frozen 5
        have z6 := P6.cell 6
        have f6 := P6.frozen 6
        simp only [put1W, put2W, put3W, put4W, put5W, put6W] at z1 z2 z3 z4 z5 z6 f1 f2 f3 f4 f5 f6
        have P7 := Lib.hid P7
        have PO := Lib.hid (HB.out.trans ((S5.out.mono HB.out.size).trans (PO.below (Nat.le_trans HB.out.size S5.out.size) (Nat.le_refl _))))
        clear P0 P1 P2 P3 P4 P5 P6
        go_wp2_with fail
        go_roundw
        case rel => exact ⟨j + 1, some ⟨v0.heap.size, 0, none⟩, 1, 1, by omega, by go_num, P7.out, RW7.out, PO.out⟩
        case measure => simp [intOf]; omega
    · obtain rfl : j = k := by omega
      have q0 := HOB.out.cell 0
      have q1 := HOB.out.cell 1
      have q2 := HOB.out.cell 2
      have q3 := HOB.out.cell 3
      have q4 := HOB.out.cell 4
      have q5 := HOB.out.cell 5
      have q6 := HOB.out.cell 6
      have RP := right_pol (w := wr) (R := fun b => W.heap.size < b) (p := deepP j) (A1 := none) (n1 := 0) (k1 := 0) (A2 := none) (n2 := 0) (k2 := 0) (A3 := A) (n3 := n) (k3 := c) (A4 := none) (n4 := 0) (k4 := 0) ⟨⟨deep_parts.1, deep_parts.2.1⟩, by rw [deep_parts.2.2.1]; exact Rw.nil_ _ _ _ _, by rw [deep_parts.2.2.2.1]; exact Rw.nil_ _ _ _ _, ⟨j, HRW.out⟩, by rw [deep_parts.2.2.2.2]; exact Rw.nil_ _ _ _ _⟩
      rw [HRD.out] at RP
      have RP := Lib.hid RP
      go_wp2_with (first
        | (go_at_call 11; (with_reducible refine RP.out.mono ?_); rintro e w2 ⟨rfl, hb2⟩; have B2 := Lib.hid (below_step HB.out hb2); clear hb2)
        | (go_at_call 10; (with_reducible refine (WI2.out _).mono ?_); rintro e w3 ⟨rfl, rfl⟩))
      generalize hSS : w2.heap.size = S at *
      go_loopw [12] (fun i wr => ∃ (j : Nat) (A : Option Addr) (q c : Nat), j ≤ m ∧ i = .int .i64 (j : Int) ∧ Ob wr S 31 #[.string ⟨#[115]⟩, .bool true, .int .i64 4, .slice none 0 0, .slice none 0 0, .slice A q c, .slice none 0 0] ∧ KSt wr (S + 1) A q c (setD j).kids ∧ Below S w2 wr) (fun i _ => m - (intOf i).toNat)
      case atStart =>
        refine ⟨0, none, 0, 0, Nat.zero_le _, rfl, ?_, .inl ⟨rfl, rfl, rfl, rfl, ?_⟩, (Below.refl _ _).alloc (by omega) _⟩
        · have := Ob.made w2 31 #[.string ⟨#[115]⟩, .bool true, .int .i64 4, .slice none 0 0, .slice none 0 0, .slice none 0 0, .slice none 0 0]
          rwa [hSS] at this
        · rw [size_al]; omega
      case round =>
        obtain ⟨j, A, q, c, hj, rfl, hob, hst, hb⟩ := hrel
        have HOB := Lib.hid hob
        have HST := Lib.hid hst
        have HB := Lib.hid hb
        have hq5 : q ≤ 5 := by have := hst.len; have := set_len (m := j) (by omega); omega
        clear hob hst hb
        by_cases hlt : j < m
        · have hn3 : (nmD j).size = 3 := rfl
          have NK : Hid ((⟨#[107]⟩ : ByteArray) ++ nmD j = nmK j) := rfl
          have NU : Hid ((⟨#[114]⟩ : ByteArray) ++ nmD j = nmU j) := rfl
          have DNj := Lib.hid (fun w => DN.out j (by omega) w)
          have hKs : (nmK j).size ≤ maxLen := by show (4 : Nat) ≤ _; decide
          have hUs : (nmU j).size ≤ maxLen := by show (4 : Nat) ≤ _; decide
          generalize nmD j = nj at *
          by_cases h16 : j % 16 = 0
          · have h16' : (j : Int) % 16 = 0 := by omega
            go_wp2_with fail
            have KS : Hid (∀ wz, Below wr.heap.size wr wz → wz.cell? ⟨S, 5, none⟩ = some (.slice A q c)) := fun wz hz => (HOB.out.below hz HOB.out.lt).cell 5
            refine wp_region_held_tail (fun w' => w'.cell? ⟨S, 5, none⟩ = some (.slice A q c)) 9 (by kernel_rfl) (by kernel_rfl) ?_
            intro G
            change HeadW _ _ _ _ _ _ _ _ _ _ (wr.drewN 1)
            have S0 := Lib.hid (below_drewN (Below.refl wr.heap.size wr) 1)
            generalize wr.drewN 1 = v0 at *
            have C0 := Lib.hid (KS.out _ S0.out)
            refine HeadW_take (i := 0) (v := ?_) G rfl (by kernel_rfl) (by kernel_rfl) (by kernel_rfl) (fun _ _ _ h => h) (Or.inl ⟨by rfl, ?_⟩) C0.out ?_
            rotate_left
            · intro wz hS
              go_simp
              try with_reducible rfl
            refine HeadW_take (i := 1) (v := ?_) G rfl (by kernel_rfl) (by kernel_rfl) (by kernel_rfl) (fun _ _ _ h => h) (Or.inl ⟨by rfl, ?_⟩) C0.out ?_
            rotate_left
            · intro wz hS
              go_simp
              try with_reducible rfl
            refine HeadW_take (i := 2) (v := ?_) G rfl (by kernel_rfl) (by kernel_rfl) (by kernel_rfl) (fun _ _ _ h => h) (Or.inl ⟨by rfl, ?_⟩) C0.out ?_
            rotate_left
            · intro wz hS
              go_simp
              try with_reducible rfl
            refine HeadW_take (i := 3) (v := ?_) G rfl (by kernel_rfl) (by kernel_rfl) (by kernel_rfl) (fun _ _ _ h => h) (Or.inl ⟨by rfl, ?_⟩) C0.out ?_
            rotate_left
            · intro wz hS
              go_simp
              try with_reducible rfl
            refine HeadW_ready (rs := [4]) (by kernel_rfl) rfl rfl ?_
            refine AllW.cons rfl (fun K hK => ?_) AllW.nil
            go_simp
            refine (DNj.out _).mono ?_
            rintro e v2 ⟨rfl, hb2⟩
            have S2 := Lib.hid (S0.out.trans (hb2.mono S0.out.size))
            have C2 := Lib.hid (KS.out _ S2.out)
            refine hK _ _ C2.out ?_
            clear hK K hb2
            refine HeadW_ready (rs := [5]) (by kernel_rfl) rfl rfl ?_
            refine AllW.cons rfl (fun K hK => ?_) AllW.nil
            go_simp
            rw [NK.out]
            refine hK _ _ C2.out ?_
            clear hK K
            refine HeadW_ready (rs := [6]) (by kernel_rfl) rfl rfl ?_
            refine AllW.cons rfl (fun K hK => ?_) AllW.nil
            go_simp
            refine hK _ _ C2.out ?_
            clear hK K
            obtain ⟨A3, cq, w3, r3, hkv3, b3⟩ := kid_new (HST.out.below S2.out) (by omega) (fun p hp => by have := set_few j p hp; omega) (nmK j) hKs
            have O3 := (HOB.out.below S2.out HOB.out.lt).below b3 (Nat.lt_succ_self _)
            have C3 := Lib.hid (O3.cell 5)
            refine HeadW_ready (rs := [7]) (by kernel_rfl) rfl rfl ?_
            refine AllW.cons rfl (fun K hK => ?_) AllW.nil
            go_simp
            refine hK _ _ (KS.out _ (S2.out.alloc S2.out.size (.cells #[.string (nmK j), .bool false, .int .i64 3, .slice none 0 0, .slice none 0 0, .slice none 0 0, .slice none 0 0] 31))) ?_
            clear hK K
            refine HeadW_ready (rs := [8]) (by kernel_rfl) rfl rfl ?_
            refine AllW.cons rfl (fun K hK => ?_) AllW.nil
            refine step_append_run rfl (.tmp 49) (.tmp 55) _ _ rfl (by first | rfl | simp [Act.eval]) (by first | rfl | simp [Act.eval]) r3 ?_
            refine hK _ _ C3.out ?_
            clear hK K r3
            intro _
            refine ⟨by kernel_rfl, ?_⟩
            simp only [List.drop_succ_cons, List.drop_zero]
            have z5 := O3.cell 5
            have f5 := O3.frozen 5
            have O4 := Lib.hid (O3.put 5 (.slice A3 (q + 1) cq))
            have hkv4 := hkv3.grown ((Only.refl : Only S w3 w3).setCell (p := ⟨S, 5, none⟩) rfl (.slice A3 (q + 1) cq)) (Nat.lt_succ_self _)
            obtain ⟨kb, rfl, hkb, hq1, hqc, hcell⟩ := hkv4.last
            clear hq1
            obtain ⟨ks, id, A2, n2, c2, xs, hkv, hnx, hn2, hpp⟩ : ∃ ks id A2 n2 c2 xs, KInv (w3.setCell ⟨S, 5, none⟩ (.slice (some ⟨kb, 0, none⟩) (q + 1) cq)) (S + 1) (some ⟨kb, 0, none⟩) (q + 1) cq ks id A2 n2 c2 xs ∧ (setD (j + 1)).kids = ks ++ [.mk id false 3 [] ((xs ++ [nmU j]).map rulD) [] []] ∧ n2 ≤ 16 ∧ ks.length = q := ⟨_, nmK j, none, 0, 0, [], hkv4, set_new h16, by omega, HST.out.len⟩
            have HKV := Lib.hid hkv
            have HNX := Lib.hid hnx
            have HN2 := Lib.hid hn2
            have HB4 := Lib.hid (((HB.out.trans (S2.out.mono (by have := HOB.out.lt; omega))).trans (b3.mono (Nat.le_succ S))).setCell (p := ⟨S, 5, none⟩) (Nat.le_refl S) (.slice (some ⟨kb, 0, none⟩) (q + 1) cq))
            have q5 := O4.out.cell 5
            clear hkv4 hcell hkv hnx hn2 b3 hkv3 C0 C2 S0 S2 KS O3 hkb
            go_wp2_with fail
            generalize w3.setCell ⟨S, 5, none⟩ (.slice (some ⟨kb, 0, none⟩) (q + 1) cq) = w4 at *
            clear z5 f5 C3
            have KO : Hid (∀ wz, Below w4.heap.size w4 wz → wz.cell? ⟨kb, q * 7 + 4, none⟩ = some (.slice A2 n2 c2)) := by
              show ∀ wz, _ → _
              intro wz hz
              obtain ⟨_, e, _, _, _, h⟩ := (HKV.out.below hz).last
              injection e with e
              injection e with e
              subst e
              rw [hpp] at h
              exact h
            refine wp_region_held_tail (fun w' => w'.cell? ⟨kb, q * 7 + 4, none⟩ = some (.slice A2 n2 c2)) 12 (by kernel_rfl) (by kernel_rfl) ?_
            intro G
            change HeadW _ _ _ _ _ _ _ _ _ _ (w4.drewN 1)
            have S0 := Lib.hid (below_drewN (Below.refl w4.heap.size w4) 1)
            generalize w4.drewN 1 = v0 at *
            have C0 := Lib.hid (KO.out _ S0.out)
            refine HeadW_take (i := 0) (v := ?_) G rfl (by kernel_rfl) (by kernel_rfl) (by kernel_rfl) (fun _ _ _ h => h) (Or.inl ⟨by rfl, ?_⟩) C0.out ?_
            rotate_left
            · intro wz hS
              go_simp
              try with_reducible rfl
            refine HeadW_take (i := 1) (v := ?_) G rfl (by kernel_rfl) (by kernel_rfl) (by kernel_rfl) (fun _ _ _ h => h) (Or.inl ⟨by rfl, ?_⟩) C0.out ?_
            rotate_left
            · intro wz hS
              go_simp
              try with_reducible rfl
            refine HeadW_take (i := 2) (v := ?_) G rfl (by kernel_rfl) (by kernel_rfl) (by kernel_rfl) (fun _ _ _ h => h) (Or.inl ⟨by rfl, ?_⟩) C0.out ?_
            rotate_left
            · intro wz hS
              go_simp
              try with_reducible rfl
            refine HeadW_take (i := 3) (v := ?_) G rfl (by kernel_rfl) (by kernel_rfl) (by kernel_rfl) (fun _ _ _ h => h) (Or.inl ⟨by rfl, ?_⟩) C0.out ?_
            rotate_left
            · intro wz hS
              go_simp
              try with_reducible rfl
            refine HeadW_take (i := 4) (v := ?_) G rfl (by kernel_rfl) (by kernel_rfl) (by kernel_rfl) (fun _ _ _ h => h) (Or.inl ⟨by rfl, ?_⟩) C0.out ?_
            rotate_left
            · intro wz hS
              go_simp
              try with_reducible rfl
            refine HeadW_take (i := 5) (v := ?_) G rfl (by kernel_rfl) (by kernel_rfl) (by kernel_rfl) (fun _ _ _ h => h) (Or.inl ⟨by rfl, ?_⟩) C0.out ?_
            rotate_left
            · intro wz hS
              go_simp
              try with_reducible rfl
            refine HeadW_take (i := 6) (v := ?_) G rfl (by kernel_rfl) (by kernel_rfl) (by kernel_rfl) (fun _ _ _ h => h) (Or.inl ⟨by rfl, ?_⟩) C0.out ?_
            rotate_left
            · intro wz hS
              go_simp
              try with_reducible rfl
            refine HeadW_ready (rs := [7]) (by kernel_rfl) rfl rfl ?_
            refine AllW.cons rfl (fun K hK => ?_) AllW.nil
            go_simp
            refine (DNj.out _).mono ?_
            rintro e v2 ⟨rfl, hb2⟩
            have S2 := Lib.hid (S0.out.trans (hb2.mono S0.out.size))
            have C2 := Lib.hid (KO.out _ S2.out)
            refine hK _ _ C2.out ?_
            clear hK K hb2
            refine HeadW_ready (rs := [8]) (by kernel_rfl) rfl rfl ?_
            refine AllW.cons rfl (fun K hK => ?_) AllW.nil
            go_simp
            rw [NU.out]
            refine hK _ _ C2.out ?_
            clear hK K
            refine HeadW_ready (rs := [9]) (by kernel_rfl) rfl rfl ?_
            refine AllW.cons rfl (fun K hK => ?_) AllW.nil
            go_simp
            refine hK _ _ C2.out ?_
            clear hK K
            obtain ⟨kb', A3, c3, w3, ekb, hkb', r3, b3, hu3, hf3, hkv3⟩ := kid_rule (HKV.out.below S2.out) (by have := HN2.out; omega) (nmU j) hUs
            injection ekb with ekb
            injection ekb with ekb
            subst ekb
            rw [hpp] at hu3 hf3 hkv3
            have HKV3 := Lib.hid hkv3
            have B3 := Lib.hid b3
            have C3 := Lib.hid hu3
            clear hkv3 b3
            refine HeadW_ready (rs := [10]) (by kernel_rfl) rfl rfl ?_
            refine AllW.cons rfl (fun K hK => ?_) AllW.nil
            go_simp
            refine hK _ _ (KO.out _ (S2.out.alloc S2.out.size (.cells #[.string (nmU j), .bool false, .slice none 0 0, .slice none 0 0, .slice none 0 0] 37))) ?_
            clear hK K
            refine HeadW_ready (rs := [11]) (by kernel_rfl) rfl rfl ?_
            refine AllW.cons rfl (fun K hK => ?_) AllW.nil
            refine step_append_run rfl (.tmp 69) (.tmp 75) _ _ rfl (by first | rfl | simp [Act.eval]) (by first | rfl | simp [Act.eval]) r3 ?_
            refine hK _ _ C3.out ?_
            clear hK K r3
            intro _
            refine ⟨by kernel_rfl, ?_⟩
            simp only [List.drop_succ_cons, List.drop_zero]
            have hu4 := hu3
            have OBF := Lib.hid ((((O4.out.below S2.out O4.out.lt).below B3.out (Nat.lt_succ_self _)).keep (Below.heap_setCell w3 ⟨kb, q * 7 + 4, none⟩ (.slice A3 (n2 + 1) c3) S (by show S ≠ kb; have := hkb'.1; omega))))
            have BF := Lib.hid (((HB4.out.trans (S2.out.mono (by have := O4.out.lt; omega))).trans (B3.out.mono (Nat.le_succ S))).setCell (p := ⟨kb, q * 7 + 4, none⟩) (by show S ≤ kb; have := hkb'.1; omega) (.slice A3 (n2 + 1) c3))
            go_wp2_with fail
            go_roundw
            case rel => exact ⟨j + 1, some ⟨kb, 0, none⟩, q + 1, cq, by omega, by go_num, OBF.out, .inr ⟨ks, id, A3, n2 + 1, c3, xs ++ [nmU j], HKV3.out, HNX.out⟩, BF.out⟩
            case measure => simp [intOf]; omega
          · have h16' : ¬ (j : Int) % 16 = 0 := by omega
            rcases HST.out with ⟨e1, e2, e3, e4, e5⟩ | ⟨ks, id, A2, n2, c2, xs, hkv, hl⟩
            · exfalso
              have := congrArg List.length e4
              simp [setD, Pol.kids] at this
              omega
            have HNX := Lib.hid (set_last h16 hl)
            have HKIDS := Lib.hid hl
            have HKV := Lib.hid hkv
            clear hkv hl
            obtain ⟨kb, rfl, hkb, rfl, hqc, hcell⟩ := HKV.out.last
            clear hcell
            generalize hpp : ks.length = p at *
            have q5 := HOB.out.cell 5
            go_wp2_with fail
            have HN2 : Hid (n2 ≤ 16) := by
              have := set_few j (.mk id false 3 [] (xs.map rulD) [] []) (by rw [HKIDS.out]; simp)
              obtain ⟨_, _, _, _, _, ⟨hl, _⟩, _⟩ := HKV.out
              simp [Pol.rules] at this
              show n2 ≤ 16
              omega
            have KO : Hid (∀ wz, Below wr.heap.size wr wz → wz.cell? ⟨kb, p * 7 + 4, none⟩ = some (.slice A2 n2 c2)) := by
              show ∀ wz, _ → _
              intro wz hz
              obtain ⟨_, e, _, _, _, h⟩ := (HKV.out.below hz).last
              injection e with e
              injection e with e
              subst e
              rw [hpp] at h
              exact h
            refine wp_region_held_tail (fun w' => w'.cell? ⟨kb, p * 7 + 4, none⟩ = some (.slice A2 n2 c2)) 12 (by kernel_rfl) (by kernel_rfl) ?_
            intro G
            change HeadW _ _ _ _ _ _ _ _ _ _ (wr.drewN 1)
            have S0 := Lib.hid (below_drewN (Below.refl wr.heap.size wr) 1)
            generalize wr.drewN 1 = v0 at *
            have C0 := Lib.hid (KO.out _ S0.out)
            refine HeadW_take (i := 0) (v := ?_) G rfl (by kernel_rfl) (by kernel_rfl) (by kernel_rfl) (fun _ _ _ h => h) (Or.inl ⟨by rfl, ?_⟩) C0.out ?_
            rotate_left
            · intro wz hS
              go_simp
              try with_reducible rfl
            refine HeadW_take (i := 1) (v := ?_) G rfl (by kernel_rfl) (by kernel_rfl) (by kernel_rfl) (fun _ _ _ h => h) (Or.inl ⟨by rfl, ?_⟩) C0.out ?_
            rotate_left
            · intro wz hS
              go_simp
              try with_reducible rfl
            refine HeadW_take (i := 2) (v := ?_) G rfl (by kernel_rfl) (by kernel_rfl) (by kernel_rfl) (fun _ _ _ h => h) (Or.inl ⟨by rfl, ?_⟩) C0.out ?_
            rotate_left
            · intro wz hS
              go_simp
              try with_reducible rfl
            refine HeadW_take (i := 3) (v := ?_) G rfl (by kernel_rfl) (by kernel_rfl) (by kernel_rfl) (fun _ _ _ h => h) (Or.inl ⟨by rfl, ?_⟩) C0.out ?_
            rotate_left
            · intro wz hS
              go_simp
              try with_reducible rfl
            refine HeadW_take (i := 4) (v := ?_) G rfl (by kernel_rfl) (by kernel_rfl) (by kernel_rfl) (fun _ _ _ h => h) (Or.inl ⟨by rfl, ?_⟩) C0.out ?_
            rotate_left
            · intro wz hS
              go_simp
              try with_reducible rfl
            refine HeadW_take (i := 5) (v := ?_) G rfl (by kernel_rfl) (by kernel_rfl) (by kernel_rfl) (fun _ _ _ h => h) (Or.inl ⟨by rfl, ?_⟩) C0.out ?_
            rotate_left
            · intro wz hS
              go_simp
              try with_reducible rfl
            refine HeadW_take (i := 6) (v := ?_) G rfl (by kernel_rfl) (by kernel_rfl) (by kernel_rfl) (fun _ _ _ h => h) (Or.inl ⟨by rfl, ?_⟩) C0.out ?_
            rotate_left
            · intro wz hS
              go_simp
              try with_reducible rfl
            refine HeadW_ready (rs := [7]) (by kernel_rfl) rfl rfl ?_
            refine AllW.cons rfl (fun K hK => ?_) AllW.nil
            go_simp
            refine (DNj.out _).mono ?_
            rintro e v2 ⟨rfl, hb2⟩
            have S2 := Lib.hid (S0.out.trans (hb2.mono S0.out.size))
            have C2 := Lib.hid (KO.out _ S2.out)
            refine hK _ _ C2.out ?_
            clear hK K hb2
            refine HeadW_ready (rs := [8]) (by kernel_rfl) rfl rfl ?_
            refine AllW.cons rfl (fun K hK => ?_) AllW.nil
            go_simp
            rw [NU.out]
            refine hK _ _ C2.out ?_
            clear hK K
            refine HeadW_ready (rs := [9]) (by kernel_rfl) rfl rfl ?_
            refine AllW.cons rfl (fun K hK => ?_) AllW.nil
            go_simp
            refine hK _ _ C2.out ?_
            clear hK K
            obtain ⟨kb', A3, c3, w3, ekb, hkb', r3, b3, hu3, hf3, hkv3⟩ := kid_rule (HKV.out.below S2.out) (by have := HN2.out; omega) (nmU j) hUs
            injection ekb with ekb
            injection ekb with ekb
            subst ekb
            rw [hpp] at hu3 hf3 hkv3
            have HKV3 := Lib.hid hkv3
            have B3 := Lib.hid b3
            have C3 := Lib.hid hu3
            clear hkv3 b3
            refine HeadW_ready (rs := [10]) (by kernel_rfl) rfl rfl ?_
            refine AllW.cons rfl (fun K hK => ?_) AllW.nil
            go_simp
            refine hK _ _ (KO.out _ (S2.out.alloc S2.out.size (.cells #[.string (nmU j), .bool false, .slice none 0 0, .slice none 0 0, .slice none 0 0] 37))) ?_
            clear hK K
            refine HeadW_ready (rs := [11]) (by kernel_rfl) rfl rfl ?_
            refine AllW.cons rfl (fun K hK => ?_) AllW.nil
            refine step_append_run rfl (.tmp 69) (.tmp 75) _ _ rfl (by first | rfl | simp [Act.eval]) (by first | rfl | simp [Act.eval]) r3 ?_
            refine hK _ _ C3.out ?_
            clear hK K r3
            intro _
            refine ⟨by kernel_rfl, ?_⟩
            simp only [List.drop_succ_cons, List.drop_zero]
            have hu4 := hu3
            have OBF := Lib.hid ((((HOB.out.below S2.out HOB.out.lt).below B3.out (Nat.lt_succ_self _)).keep (Below.heap_setCell w3 ⟨kb, p * 7 + 4, none⟩ (.slice A3 (n2 + 1) c3) S (by show S ≠ kb; have := hkb'.1; omega))))
            have BF := Lib.hid (((HB.out.trans (S2.out.mono (by have := HOB.out.lt; omega))).trans (B3.out.mono (Nat.le_succ S))).setCell (p := ⟨kb, p * 7 + 4, none⟩) (by show S ≤ kb; have := hkb'.1; omega) (.slice A3 (n2 + 1) c3))
            go_wp2_with fail
            go_roundw
            case rel => exact ⟨j + 1, some ⟨kb, 0, none⟩, p + 1, c, by omega, by go_num, OBF.out, .inr ⟨ks, id, A3, n2 + 1, c3, xs ++ [nmU j], HKV3.out, HNX.out⟩, BF.out⟩
            case measure => simp [intOf]; omega
        · obtain rfl : j = m := by omega
          have HSP : Hid (Pls wr (fun b => S + 1 ≤ b) 1 A q c (setD j).kids) := HST.out.pls (by omega) (fun p hp => by have := set_few j p hp; omega)
          obtain ⟨ws, hws⟩ : ∃ ws, ws = wr := ⟨wr, rfl⟩
          subst hws
          go_wp2_with fail
          generalize hFF : ws.heap.size = F at *
          have hSF : S < F := by have := HOB.out.lt; omega
          go_loopw [15] (fun i wr => ∃ (i3 : Nat) (A3 : Option Addr) (c3 : Nat), i3 ≤ 17 ∧ i = .int .i64 (i3 : Int) ∧ Ob wr F 31 #[.string ⟨#[113]⟩, .bool false, .int .i64 3, .slice none 0 0, .slice A3 i3 c3, .slice none 0 0, .slice none 0 0] ∧ wr.ownsRow (F + 1) 37 5 (.slice A3 i3 c3) i3 (((List.range i3).map nmD).flatMap rulV) ∧ Below F ws wr ∧ F + 1 ≤ wr.heap.size) (fun i _ => 17 - (intOf i).toNat)
          case atStart =>
            refine ⟨0, none, 0, Nat.zero_le _, rfl, ?_, World.ownsRow_nil _ _ _ _, (Below.refl _ _).alloc (by omega) _, by rw [size_al]; omega⟩
            have := Ob.made ws 31 #[.string ⟨#[113]⟩, .bool false, .int .i64 3, .slice none 0 0, .slice none 0 0, .slice none 0 0, .slice none 0 0]
            rwa [hFF] at this
          case round =>
            obtain ⟨i3, A3, c3, hi3, rfl, hob, hown, hb, hsz⟩ := hrel
            have HOF := Lib.hid hob
            have HOW := Lib.hid hown
            have HBF := Lib.hid hb
            have HSZ := Lib.hid hsz
            clear hob hown hb hsz
            by_cases hlt : i3 < 17
            · have hlt' : (i3 : Int) ≤ 16 := by omega
              have DNj := Lib.hid (fun w => DN.out i3 (by omega) w)
              go_wp2_with fail
              have KS : Hid (∀ wz, Below wr.heap.size wr wz → wz.cell? ⟨F, 4, none⟩ = some (.slice A3 i3 c3)) := fun wz hz => (HOF.out.below hz HOF.out.lt).cell 4
              refine wp_region_held_tail (fun w' => w'.cell? ⟨F, 4, none⟩ = some (.slice A3 i3 c3)) 8 (by kernel_rfl) (by kernel_rfl) ?_
              intro G
              change HeadW _ _ _ _ _ _ _ _ _ _ (wr.drewN 1)
              have S0 := Lib.hid (below_drewN (Below.refl wr.heap.size wr) 1)
              generalize wr.drewN 1 = v0 at *
              have C0 := Lib.hid (KS.out _ S0.out)
              refine HeadW_take (i := 0) (v := ?_) G rfl (by kernel_rfl) (by kernel_rfl) (by kernel_rfl) (fun _ _ _ h => h) (Or.inl ⟨by rfl, ?_⟩) C0.out ?_
              rotate_left
              · intro wz hS
                go_simp
                try with_reducible rfl
              refine HeadW_take (i := 1) (v := ?_) G rfl (by kernel_rfl) (by kernel_rfl) (by kernel_rfl) (fun _ _ _ h => h) (Or.inl ⟨by rfl, ?_⟩) C0.out ?_
              rotate_left
              · intro wz hS
                go_simp
                try with_reducible rfl
              refine HeadW_take (i := 2) (v := ?_) G rfl (by kernel_rfl) (by kernel_rfl) (by kernel_rfl) (fun _ _ _ h => h) (Or.inl ⟨by rfl, ?_⟩) C0.out ?_
              rotate_left
              · intro wz hS
                go_simp
                try with_reducible rfl
              refine HeadW_take (i := 3) (v := ?_) G rfl (by kernel_rfl) (by kernel_rfl) (by kernel_rfl) (fun _ _ _ h => h) (Or.inl ⟨by rfl, ?_⟩) C0.out ?_
              rotate_left
              · intro wz hS
                go_simp
                try with_reducible rfl
              refine HeadW_ready (rs := [4]) (by kernel_rfl) rfl rfl ?_
              refine AllW.cons rfl (fun K hK => ?_) AllW.nil
              go_simp
              refine (DNj.out _).mono ?_
              rintro e v2 ⟨rfl, hb2⟩
              have S2 := Lib.hid (S0.out.trans (hb2.mono S0.out.size))
              have C2 := Lib.hid (KS.out _ S2.out)
              refine hK _ _ C2.out ?_
              clear hK K hb2
              refine HeadW_ready (rs := [5]) (by kernel_rfl) rfl rfl ?_
              refine AllW.cons rfl (fun K hK => ?_) AllW.nil
              go_simp
              refine hK _ _ C2.out ?_
              clear hK K
              obtain ⟨A9, c9, w9, r9, o9, b9, _, _⟩ := push_rul (own_below HOW.out S2.out) (nmD i3) (by omega) (Nat.le_trans HSZ.out S2.out.size)
              have O9 := (HOF.out.below S2.out HOF.out.lt).below b9 (Nat.lt_succ_self _)
              have C9 := Lib.hid (O9.cell 4)
              refine HeadW_ready (rs := [6]) (by kernel_rfl) rfl rfl ?_
              refine AllW.cons rfl (fun K hK => ?_) AllW.nil
              go_simp
              refine hK _ _ (KS.out _ (S2.out.alloc S2.out.size (.cells #[.string (nmD i3), .bool false, .slice none 0 0, .slice none 0 0, .slice none 0 0] 37))) ?_
              clear hK K
              refine HeadW_ready (rs := [7]) (by kernel_rfl) rfl rfl ?_
              refine AllW.cons rfl (fun K hK => ?_) AllW.nil
              refine step_append_run rfl (.tmp 85) (.tmp 90) _ _ rfl (by first | rfl | simp [Act.eval]) (by first | rfl | simp [Act.eval]) r9 ?_
              refine hK _ _ C9.out ?_
              clear hK K r9
              intro _
              refine ⟨by kernel_rfl, ?_⟩
              simp only [List.drop_succ_cons, List.drop_zero]
              have z4 := O9.cell 4
              have f4 := O9.frozen 4
              have OX := Lib.hid (O9.put 4 (.slice A9 (i3 + 1) c9))
              have OWX := Lib.hid (own_only o9 ((Only.refl : Only F w9 w9).setCell (p := ⟨F, 4, none⟩) rfl (.slice A9 (i3 + 1) c9)) (Nat.lt_succ_self _))
              have BX := Lib.hid (((HBF.out.trans (S2.out.mono (by have := HSZ.out; omega))).trans (b9.mono (Nat.le_succ F))).setCell (p := ⟨F, 4, none⟩) (Nat.le_refl F) (.slice A9 (i3 + 1) c9))
              have SX : Hid (F + 1 ≤ (w9.setCell ⟨F, 4, none⟩ (.slice A9 (i3 + 1) c9)).heap.size) := Nat.le_trans (Nat.le_trans HSZ.out S2.out.size) (Nat.le_trans b9.size (by simp [World.setCell]))
              have HL1 : Hid (((List.range i3).map nmD ++ [nmD i3]) = (List.range (i3 + 1)).map nmD) := by show _ = _; rw [List.range_succ, List.map_append]; rfl
              clear o9 b9 O9
              go_wp2_with fail
              go_roundw
              case rel => exact ⟨i3 + 1, A9, c9, by omega, by go_num, OX.out, by rw [← HL1.out]; exact OWX.out, BX.out, SX.out⟩
              case measure => simp [intOf]; omega
            · obtain rfl : i3 = 17 := by omega
              have hrw : Rus wr (fun b => F + 1 ≤ b) A3 17 c3 (((List.range 17).map nmD).map rulD) := flat_rus HOW.out rfl (by omega) (by decide +kernel) (fun _ _ h => h)
              have hc17 := Rw.le hrw
              have hccap := Rw.cap hrw
              unfold maxLen at hccap
              have e1 : Below wr.heap.size wr (wr.alloc (.cells #[.string ⟨#[113]⟩, .bool false, .int .i64 3, .slice none 0 0, .slice A3 17 c3, .slice none 0 0, .slice none 0 0] 31)) := (Below.refl _ _).alloc (Nat.le_refl _) _
              have e2 : Below wr.heap.size wr (wr.alloc (.cells #[.string ⟨#[113]⟩, .bool false, .int .i64 3, .slice none 0 0, .slice A3 16 c3, .slice none 0 0, .slice none 0 0] 31)) := (Below.refl _ _).alloc (Nat.le_refl _) _
              have OS := Lib.hid ((HOB.out.below HBF.out (by omega)).below e2 (by have := HSZ.out; omega))
              have OF := Lib.hid (HOF.out.below e2 HOF.out.lt)
              have OL0 := Ob.made wr 31 #[.string ⟨#[113]⟩, .bool false, .int .i64 3, .slice none 0 0, .slice A3 17 c3, .slice none 0 0, .slice none 0 0]
              have z4 := OL0.cell 4
              have f4 := OL0.frozen 4
              have OL : Hid (Ob (wr.alloc (.cells #[.string ⟨#[113]⟩, .bool false, .int .i64 3, .slice none 0 0, .slice A3 16 c3, .slice none 0 0, .slice none 0 0] 31)) wr.heap.size 31 #[.string ⟨#[113]⟩, .bool false, .int .i64 3, .slice none 0 0, .slice A3 16 c3, .slice none 0 0, .slice none 0 0]) := Ob.made wr _ _
              have HF0 := HOF.out
              have y0 := HF0.cell 0
              have y1 := HF0.cell 1
              have y2 := HF0.cell 2
              have y3 := HF0.cell 3
              have y4 := HF0.cell 4
              have y5 := HF0.cell 5
              have y6 := HF0.cell 6
              have y4' := (HOF.out.below e1 HOF.out.lt).cell 4
              have E2 := Lib.hid e2
              have hBS : Below S w2 (wr.alloc (.cells #[.string ⟨#[113]⟩, .bool false, .int .i64 3, .slice none 0 0, .slice A3 16 c3, .slice none 0 0, .slice none 0 0] 31)) := (HB.out.trans (HBF.out.mono (by omega))).trans (e2.mono (by have := HSZ.out; omega))
              have HBS := Lib.hid hBS
              have RS : Hid (∀ W', Below wr.heap.size wr W' → Calls Try.prog 11 #[.agg #[.string ⟨#[115]⟩, .bool true, .int .i64 4, .slice none 0 0, .slice none 0 0, .slice A q c, .slice none 0 0]] W' fun e w' => e = .returned (.int .i64 (rightE (setD j))) ∧ Below W'.heap.size W' w') := Lib.hid (fun W' (hW : Below wr.heap.size wr W') => right_pol (w := W') (R := fun b => S + 1 ≤ b) (p := setD j) (A1 := none) (n1 := 0) (k1 := 0) (A2 := none) (n2 := 0) (k2 := 0) (A3 := A) (n3 := q) (k3 := c) (A4 := none) (n4 := 0) (k4 := 0) ⟨⟨(show (1 : Nat) ≤ maxLen by decide), (show InI 4 by decide)⟩, Rw.nil_ _ _ _ _, Rw.nil_ _ _ _ _, ⟨1, Pls.keep (Pls.keep HSP.out (R' := fun b => S + 1 ≤ b ∧ b < F) (Kept.refl _ _) (fun b hb hlt => ⟨hb, by omega⟩)) ⟨Nat.le_trans HBF.out.size hW.size, fun b hb hlt => (hW.block b (by have := HSZ.out; omega)).trans (HBF.out.block b hb.2)⟩ (fun b hb _ => hb.1)⟩, Rw.nil_ _ _ _ _⟩)
              have RF : Hid (∀ W', Below wr.heap.size wr W' → Calls Try.prog 11 #[.agg #[.string ⟨#[113]⟩, .bool false, .int .i64 3, .slice none 0 0, .slice A3 17 c3, .slice none 0 0, .slice none 0 0]] W' fun e w' => e = .returned (.int .i64 (rightE (fullD 17))) ∧ Below W'.heap.size W' w') := Lib.hid (fun W' (hW : Below wr.heap.size wr W') => right_pol (w := W') (R := fun b => F + 1 ≤ b) (p := fullD 17) (A1 := none) (n1 := 0) (k1 := 0) (A2 := A3) (n2 := 17) (k2 := c3) (A3 := none) (n3 := 0) (k3 := 0) (A4 := none) (n4 := 0) (k4 := 0) ⟨⟨(show (1 : Nat) ≤ maxLen by decide), (show InI 3 by decide)⟩, Rw.nil_ _ _ _ _, by rw [full_rules]; exact hrw.keep (Kept.all hW _) (fun _ h _ => h), ⟨1, Rw.nil_ _ _ _ _⟩, Rw.nil_ _ _ _ _⟩)
              have hrw16 : Rus wr (fun b => F + 1 ≤ b) A3 16 c3 (fullD 16).rules := by
                have := Rw.take hrw (m := 16) (by omega)
                rw [full_rules]
                exact this
              have RE : Hid (∀ W', Below wr.heap.size wr W' → Calls Try.prog 11 #[.agg #[.string ⟨#[113]⟩, .bool false, .int .i64 3, .slice none 0 0, .slice A3 16 c3, .slice none 0 0, .slice none 0 0]] W' fun e w' => e = .returned (.int .i64 (rightE (fullD 16))) ∧ Below W'.heap.size W' w') := Lib.hid (fun W' (hW : Below wr.heap.size wr W') => right_pol (w := W') (R := fun b => F + 1 ≤ b) (p := fullD 16) (A1 := none) (n1 := 0) (k1 := 0) (A2 := A3) (n2 := 16) (k2 := c3) (A3 := none) (n3 := 0) (k3 := 0) (A4 := none) (n4 := 0) (k4 := 0) ⟨⟨(show (1 : Nat) ≤ maxLen by decide), (show InI 3 by decide)⟩, Rw.nil_ _ _ _ _, hrw16.keep (Kept.all hW _) (fun _ h _ => h), ⟨1, Rw.nil_ _ _ _ _⟩, Rw.nil_ _ _ _ _⟩)
              rw [fullD_17] at RF
              rw [fullD_16] at RE
              have HSM := Lib.hid (setD_all j (List.mem_range.2 (by omega)))
              have hs0 := OS.out.cell 0
              have hs1 := OS.out.cell 1
              have hs2 := OS.out.cell 2
              have hs3 := OS.out.cell 3
              have hs4 := OS.out.cell 4
              have hs5 := OS.out.cell 5
              have hs6 := OS.out.cell 6
              clear hrw hrw16 e1 e2 OL0 HF0 hBS
              by_cases h64 : j ≤ 64
              · have h64' : (j : Int) ≤ 64 := by omega
                have HS0 : Hid (rightE (setD j) = 0) := by show _ = _; rw [HSM.out, if_pos h64]
                rw [HS0.out] at RS
                clear h64
                go_wp2_with (first
                  | (go_at_call 11; (with_reducible refine (RS.out _ E2.out).mono ?_); rintro e x1 ⟨rfl, hx1⟩; have X1 := Lib.hid (E2.out.trans (hx1.mono E2.out.size)); have Y1 := Lib.hid (HBS.out.trans (hx1.mono (by have := HBS.out.size; omega))); have OF1 := Lib.hid (OF.out.below hx1 OF.out.lt); have OL1 := Lib.hid (OL.out.below hx1 OL.out.lt)
                     have rb0 := OF1.out.cell 0
                     have rb1 := OF1.out.cell 1
                     have rb2 := OF1.out.cell 2
                     have rb3 := OF1.out.cell 3
                     have rb4 := OF1.out.cell 4
                     have rb5 := OF1.out.cell 5
                     have rb6 := OF1.out.cell 6
                     clear hx1)
                  | (go_at_call 11; (with_reducible refine (RF.out _ X1.out).mono ?_); rintro e x2 ⟨rfl, hx2⟩; have X2 := Lib.hid (X1.out.trans (hx2.mono X1.out.size)); have Y2 := Lib.hid (Y1.out.trans (hx2.mono (by have := Y1.out.size; omega))); have OL2 := Lib.hid (OL1.out.below hx2 OL1.out.lt)
                     have rc0 := OL2.out.cell 0
                     have rc1 := OL2.out.cell 1
                     have rc2 := OL2.out.cell 2
                     have rc3 := OL2.out.cell 3
                     have rc4 := OL2.out.cell 4
                     have rc5 := OL2.out.cell 5
                     have rc6 := OL2.out.cell 6
                     clear hx2)
                  | (go_at_call 11; (with_reducible refine (RE.out _ X2.out).mono ?_); rintro e x3 ⟨rfl, hx3⟩; have Y3 := Lib.hid (Y2.out.trans (hx3.mono (by have := Y2.out.size; omega))); clear hx3)
                  | (go_at_call 12; refine (HRUN.out _).mono ?_; rintro e x4 ⟨rfl, hx4⟩; have Y4 := Lib.hid (Y3.out.trans (hx4.mono (by have := Y3.out.size; omega))); clear hx4))
                go_ret
                exact ⟨rfl, B2.out.trans (Y4.out.mono (by have := B2.out.size; omega))⟩
              · have h64' : ¬ (j : Int) ≤ 64 := by omega
                have HS0 : Hid (rightE (setD j) = 6) := by show _ = _; rw [HSM.out, if_neg h64]
                rw [HS0.out] at RS
                clear h64
                go_wp2_with (first
                  | (go_at_call 11; (with_reducible refine (RS.out _ E2.out).mono ?_); rintro e x0 ⟨rfl, hx0⟩; have X0 := Lib.hid (E2.out.trans (hx0.mono E2.out.size)); have Y0 := Lib.hid (HBS.out.trans (hx0.mono (by have := HBS.out.size; omega))); have OS0 := Lib.hid (OS.out.below hx0 OS.out.lt); have OF0 := Lib.hid (OF.out.below hx0 OF.out.lt); have OL0 := Lib.hid (OL.out.below hx0 OL.out.lt)
                     have ra0 := OS0.out.cell 0
                     have ra1 := OS0.out.cell 1
                     have ra2 := OS0.out.cell 2
                     have ra3 := OS0.out.cell 3
                     have ra4 := OS0.out.cell 4
                     have ra5 := OS0.out.cell 5
                     have ra6 := OS0.out.cell 6
                     clear hx0)
                  | (go_at_call 11; (with_reducible refine (RS.out _ X0.out).mono ?_); rintro e x1 ⟨rfl, hx1⟩; have X1 := Lib.hid (X0.out.trans (hx1.mono X0.out.size)); have Y1 := Lib.hid (Y0.out.trans (hx1.mono (by have := Y0.out.size; omega))); have OF1 := Lib.hid (OF0.out.below hx1 OF0.out.lt); have OL1 := Lib.hid (OL0.out.below hx1 OL0.out.lt)
                     have rb0 := OF1.out.cell 0
                     have rb1 := OF1.out.cell 1
                     have rb2 := OF1.out.cell 2
                     have rb3 := OF1.out.cell 3
                     have rb4 := OF1.out.cell 4
                     have rb5 := OF1.out.cell 5
                     have rb6 := OF1.out.cell 6
                     clear hx1)
                  | (go_at_call 11; (with_reducible refine (RF.out _ X1.out).mono ?_); rintro e x2 ⟨rfl, hx2⟩; have X2 := Lib.hid (X1.out.trans (hx2.mono X1.out.size)); have Y2 := Lib.hid (Y1.out.trans (hx2.mono (by have := Y1.out.size; omega))); have OL2 := Lib.hid (OL1.out.below hx2 OL1.out.lt)
                     have rc0 := OL2.out.cell 0
                     have rc1 := OL2.out.cell 1
                     have rc2 := OL2.out.cell 2
                     have rc3 := OL2.out.cell 3
                     have rc4 := OL2.out.cell 4
                     have rc5 := OL2.out.cell 5
                     have rc6 := OL2.out.cell 6
                     clear hx2)
                  | (go_at_call 11; (with_reducible refine (RE.out _ X2.out).mono ?_); rintro e x3 ⟨rfl, hx3⟩; have Y3 := Lib.hid (Y2.out.trans (hx3.mono (by have := Y2.out.size; omega))); clear hx3)
                  | (go_at_call 12; refine (HRUN.out _).mono ?_; rintro e x4 ⟨rfl, hx4⟩; have Y4 := Lib.hid (Y3.out.trans (hx4.mono (by have := Y3.out.size; omega))); clear hx4))
                go_ret
                exact ⟨ret_bool (a := !decide ((j : Int) ≤ 64)) (by rw [decide_eq_false (by omega)]; rfl), B2.out.trans (Y4.out.mono (by have := B2.out.size; omega))⟩

end Go.Proofs.Ytincnopaclmppaa
