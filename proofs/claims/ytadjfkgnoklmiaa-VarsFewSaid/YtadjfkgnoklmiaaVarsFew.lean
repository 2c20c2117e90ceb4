/- The law VarsFew. -/
import Derived.Test.YtadjfkgnoklmiaaVrpE
import Derived.Test.YtadjfkgnoklmiaaVrpF
namespace Go.Proofs.Ytadjfkgnoklmiaa
set_option linter.unusedVariables false
open Go.RowKit

set_option maxRecDepth 100000 in
set_option maxHeartbeats 12800000 in
theorem varsFew_walk (W : World) (p : Pol) {A1 : Option Addr} {n1 k1 : Nat} {A2 : Option Addr} {n2 k2 : Nat} {A3 : Option Addr} {n3 k3 : Nat} {A4 : Option Addr} {n4 k4 : Nat} (h : PolIn W (fun _ => True) p A1 n1 k1 A2 n2 k2 A3 n3 k3 A4 n4 k4) :
    Calls Try.prog 4 #[.agg #[.string p.id, .bool p.set, .int .i64 p.alg, .slice A1 n1 k1, .slice A2 n2 k2, .slice A3 n3 k3, .slice A4 n4 k4]] W fun e w' => e = .returned (.bool true) ∧ Below W.heap.size W w' := by
  obtain ⟨m, hpl, hsm⟩ := evsmall h
  have OP := Lib.hid (Ob.made W 32 #[.string p.id, .bool p.set, .int .i64 p.alg, .slice A1 n1 k1, .slice A2 n2 k2, .slice A3 n3 k3, .slice A4 n4 k4])
  have B0 := Lib.hid ((Below.refl W.heap.size W).alloc (Nat.le_refl _) (.cells #[.string p.id, .bool p.set, .int .i64 p.alg, .slice A1 n1 k1, .slice A2 n2 k2, .slice A3 n3 k3, .slice A4 n4 k4] 32))
  have SM := Lib.hid (fun (b : Bool) (hb : decide (polC (m + 1) p ≤ 3000) = b) V hV => (show Calls Try.prog 8 #[.agg #[.string p.id, .bool p.set, .int .i64 p.alg, .slice A1 n1 k1, .slice A2 n2 k2, .slice A3 n3 k3, .slice A4 n4 k4]] V fun e w' => e = .returned (.bool b) ∧ Below V.heap.size V w' from by rw [← hb]; exact hsm V hV))
  have HP := Lib.hid h
  have HPL := Lib.hid hpl
  clear hsm h hpl
  have cP := OP.out.c7v
  by_cases c1 : polC (m + 1) p ≤ 3000
  rotate_left
  · have S1 := Lib.hid (SM.out false (decide_eq_false c1))
    clear c1 SM
    go_enter Try.func4, Try.ntmps4
    go_wp2_with fail
    refine (S1.out _ B0.out).mono ?_
    rintro e w1 ⟨rfl, hb⟩
    have D1 := Lib.hid (below_step B0.out hb)
    clear hb
    go_wp2_with fail
    refine (vruns_any _).mono ?_
    rintro e w99 ⟨rfl, hb⟩
    have D99 := Lib.hid (below_step D1.out hb)
    clear hb
    go_wp2_with fail
    go_ret
    exact ⟨rfl, D99.out⟩
  have S1 := Lib.hid (SM.out true (decide_eq_true c1))
  have HSH := Lib.hid (short_in HP.out HPL.out c1)
  have HC1 := Lib.hid c1
  have HN2 : Hid (n2 ≤ 3000) := by have := Rw.len HP.out.2.2.1; have e : p.rules.length ≤ polC (m + 1) p := (by rw [polC]; omega); show _ ≤ _; omega
  have HN3 : Hid (n3 ≤ 3000) := by have := kids_len HPL.out; have e : sumC (polC m) p.kids ≤ polC (m + 1) p := (by rw [polC]; omega); show _ ≤ _; omega
  have CP := Lib.hid (fun V (hV : Below W.heap.size W V) => cok_all m (w := V) c1 HP.out.1.1 HP.out.1.2 (HP.out.2.1.keep (Kept.all hV _) (fun _ h _ => h)) (HP.out.2.2.1.keep (Kept.all hV _) (fun _ h _ => h)) (HPL.out.keep (Kept.all hV _) (fun _ h _ => h)) (HP.out.2.2.2.2.keep (Kept.all hV _) (fun _ h _ => h)))
  clear c1 SM
  have OF := Lib.hid (fun V (hV : Below W.heap.size W V) => vof_any (HP.out.then_ hV) HSH.out)
  by_cases c4 : ofE p = 0
  rotate_left
  · have hne : (ofE p != 0) = true := by rw [bne_iff_ne]; exact c4
    have hel : ofL p = [] := by unfold ofL; rw [if_neg c4]
    rw [hel] at OF
    clear c4 hel
    generalize ofE p = oe at *
    go_enter Try.func4, Try.ntmps4
    go_wp2_with fail
    refine (S1.out _ B0.out).mono ?_
    rintro e w1 ⟨rfl, hb⟩
    have D1 := Lib.hid (below_step B0.out hb)
    have O1 := Lib.hid (OP.out.below hb OP.out.lt)
    clear hb cP
    have cP := O1.out.c7v
    go_wp2_with fail
    refine (OF.out _ D1.out).mono ?_
    rintro e w2 ⟨C0, z0, z1, rfl, hb, hl⟩
    have D2 := Lib.hid (below_step D1.out hb)
    obtain rfl : z0 = 0 := (Rw.len hl).symm
    clear hb hl cP
    go_wp2_with fail
    refine (vruns_any _).mono ?_
    rintro e w99 ⟨rfl, hb⟩
    have D99 := Lib.hid (below_step D2.out hb)
    clear hb
    go_wp2_with fail
    go_ret
    exact ⟨rfl, D99.out⟩
  have HO := Lib.hid (of_ok c4)
  rw [c4, HO.out.2.2] at OF
  have HRA := Lib.hid (right_all HO.out.1).1
  have HRT := Lib.hid HO.out.1
  have HFW := Lib.hid HO.out.2.1
  have hle3 := Rw.le HPL.out
  have hcap3 := Rw.cap HPL.out
  have hle2 := Rw.le HP.out.2.2.1
  have hcap2 := Rw.cap HP.out.2.2.1
  unfold maxLen at hcap3 hcap2
  clear c4 HO
  go_enter Try.func4, Try.ntmps4
  go_wp2_with fail
  refine (S1.out _ B0.out).mono ?_
  rintro e w1 ⟨rfl, hb⟩
  have D1 := Lib.hid (below_step B0.out hb)
  have O1 := Lib.hid (OP.out.below hb OP.out.lt)
  clear hb cP
  have cP := O1.out.c7v
  go_wp2_with fail
  refine (OF.out _ D1.out).mono ?_
  rintro e w2 ⟨C0, z0, z1, rfl, hb, hl⟩
  have D2 := Lib.hid (below_step D1.out hb)
  have O2 := Lib.hid (O1.out.below hb O1.out.lt)
  have hle := Rw.le hl
  have hcap := Rw.cap hl
  unfold maxLen at hcap
  have HL := Lib.hid hl
  clear hb hl cP OP O1 OF S1
  go_wp2_with fail
  go_loopw [34] (fun i wr => ∃ k : Nat, k ≤ z0 ∧ i = .int .i64 k ∧ Below w2.heap.size w2 wr) (fun i _ => z0 - (intOf i).toNat)
  case atStart => exact ⟨0, Nat.zero_le _, rfl, Below.refl _ _⟩
  case round =>
    obtain ⟨k, hk, rfl, hb⟩ := hrel
    have HB := Lib.hid hb
    clear hb
    by_cases hlt : k < z0
    · have hl2 := HL.out.keep (Kept.all HB.out _) (fun _ h _ => h)
      obtain ⟨b, o, x, C1, e1, e2, rfl, hRb, hbl, hx, hok, ⟨x0, x1, x2, x3, x4, x5, x6, x7⟩, hin⟩ := hl2.at_ hlt
      have FD := vfind_any hl2 hin
      rw [find_at (atoms_nodup p) hx] at FD
      have FDD := Lib.hid FD
      clear hl2 FD hx hok hin
      go_wp2_with fail
      refine FDD.out.mono ?_
      rintro e w3 ⟨rfl, hb⟩
      have HB2 := Lib.hid (below_step HB.out hb)
      clear hb
      go_wp2_with fail
      go_roundw
      case rel => exact ⟨k + 1, by omega, by go_num, HB2.out⟩
      case measure => simp [intOf]; omega
    · obtain rfl : k = z0 := by omega
      have O3 := Lib.hid (O2.out.below HB.out O2.out.lt)
      have q5 := O3.out.cell 5
      go_wp2_with fail
      go_loopw [49] (fun i wo => ∃ j : Nat, j ≤ n3 ∧ i = .int .i64 j ∧ Below w2.heap.size w2 wo) (fun i _ => n3 - (intOf i).toNat)
      case atStart => exact ⟨0, Nat.zero_le _, rfl, HB.out⟩
      case round =>
        obtain ⟨wo, hwo⟩ : ∃ wo, wo = wr := ⟨wr, rfl⟩
        subst hwo
        clear q5 O3 HB
        obtain ⟨j, hj, rfl, hb⟩ := hrel
        have HB := Lib.hid hb
        clear hb
        have DD := Lib.hid (below_step D2.out HB.out)
        have O3 := Lib.hid (O2.out.below HB.out O2.out.lt)
        by_cases hlt2 : j < n3
        · obtain ⟨b, o, kid, d', B1, m1, d1, B2, m2, d2, B3, m3, d3, B4, m4, d4, rfl, hRb, hbl, hx, hd, hia, ⟨x0, x1, x2, x3, x4, x5, x6⟩, t1, t2, t3, t4⟩ := (HPL.out.keep (Kept.all DD.out _) (fun _ h _ => h)).at_ hlt2
          have hmem := List.mem_of_getElem? hx
          have a1 : Below wo.heap.size wo (wo.alloc (.cells #[.string kid.id, .bool kid.set, .int .i64 kid.alg, .slice B1 m1 d1, .slice B2 m2 d2, .slice B3 m3 d3, .slice B4 m4 d4] 32)) := (Below.refl _ _).alloc (Nat.le_refl _) _
          have hin : PolIn wo (fun _ => True) kid B1 m1 d1 B2 m2 d2 B3 m3 d3 B4 m4 d4 := ⟨hia, t1, t2, ⟨d', t3⟩, t4⟩
          have hsub : ∀ y ∈ polA kid, ShortA y := fun y hy => HSH.out y (by
            rw [polA_eq]
            have : y ∈ p.kids.flatMap polA := List.mem_flatMap.2 ⟨kid, hmem, hy⟩
            simp [this])
          have OK := vof_any (hin.then_ a1) hsub
          have hfw := kid_few hmem HFW.out
          have hok : ofE kid = 0 := of_is (HRA.out kid hmem) hfw
          rw [hok, (of_ok hok).2.2] at OK
          have OKK := Lib.hid OK
          have HKM := Lib.hid hmem
          have A1' := Lib.hid (below_step HB.out a1)
          clear hx hmem a1 hin hsub OK hfw hok t1 t2 t3 t4 hia hd
          go_wp2_with fail
          refine OKK.out.mono ?_
          rintro e w3 ⟨E0, y0, y1, rfl, hb, hl⟩
          have HB3 := Lib.hid (below_step A1'.out hb)
          have hle4 := Rw.le hl
          have hcap4 := Rw.cap hl
          unfold maxLen at hcap4
          have HL4 := Lib.hid hl
          clear hb hl A1' OKK
          go_wp2_with fail
          go_loopw [62] (fun i wz => ∃ q : Nat, q ≤ y0 ∧ i = .int .i64 q ∧ Below w3.heap.size w3 wz) (fun i _ => y0 - (intOf i).toNat)
          case atStart => exact ⟨0, Nat.zero_le _, rfl, Below.refl _ _⟩
          case round =>
            obtain ⟨wz, hwz⟩ : ∃ wz, wz = wr := ⟨wr, rfl⟩
            subst hwz
            obtain ⟨q, hq, rfl, hb⟩ := hrel
            have HQ := Lib.hid hb
            clear hb
            have HBQ := Lib.hid (below_step HB3.out HQ.out)
            by_cases hlt3 : q < y0
            · obtain ⟨b3, o3, y, C1, e1, e2, rfl, _, _, hy, hok, ⟨f0, f1, f2, f3, f4, f5, f6, f7⟩, hin⟩ := (HL4.out.keep (Kept.all HQ.out _) (fun _ h _ => h)).at_ hlt3
              have a1 : Below wz.heap.size wz (wz.alloc (.cells #[.int .i64 y.m.a.cat, .string y.m.a.name, .bool y.m.a.must, .int .i64 y.m.op, .int .i64 y.m.v.k, .int .i64 y.m.v.n, .string y.m.v.s, .slice C1 e1 e2] 45)) := (Below.refl _ _).alloc (Nat.le_refl _) _
              have FD := vfind_any (HL.out.keep (Kept.all (below_step HBQ.out a1) _) (fun _ h _ => h)) (hin.keep (Kept.all a1 _) (fun _ h _ => h))
              have hz := find_yes (atoms_kid HKM.out (List.mem_of_getElem? hy))
              have FDD := Lib.hid FD
              generalize findA (atomsP p) y = z at *
              have hz' : ¬ z < 0 := by omega
              have A1' := Lib.hid (below_step HQ.out a1)
              clear FD hy hok hin a1
              go_wp2_with fail
              refine FDD.out.mono ?_
              rintro e w4 ⟨rfl, hb⟩
              have HQ2 := Lib.hid (below_step A1'.out hb)
              clear hb
              go_wp2_with fail
              go_roundw
              case rel => exact ⟨q + 1, by omega, by go_num, HQ2.out⟩
              case measure => simp [intOf]; omega
            · obtain rfl : q = y0 := by omega
              go_wp2_with fail
              go_roundw
              case rel => exact ⟨j + 1, by omega, by go_num, HBQ.out⟩
              case measure => simp [intOf]; omega
        · obtain rfl : n3 = j := by omega
          have hcP := O3.out.c7v
          by_cases hs : p.set = true
          · have HPS := Lib.hid hs
            go_wp2_with fail
            refine (vruns_any _).mono ?_
            rintro e w99 ⟨rfl, hb⟩
            have D99 := Lib.hid (below_step DD.out hb)
            clear hb
            go_wp2_with fail
            go_ret
            exact ⟨rfl, D99.out⟩
          have hs' : p.set = false := by simpa using hs
          by_cases hn : 16 ≤ n2
          · have hni : (16 : Int) ≤ (n2 : Int) := by omega
            go_wp2_with fail
            refine (vruns_any _).mono ?_
            rintro e w99 ⟨rfl, hb⟩
            have D99 := Lib.hid (below_step DD.out hb)
            clear hb
            go_wp2_with fail
            go_ret
            exact ⟨rfl, D99.out⟩
          have hni : ¬ (16 : Int) ≤ (n2 : Int) := by omega
          have HK := Lib.hid (no_kids_of HRT.out hs')
          have CPX := CP.out _ DD.out
          rw [hs'] at CPX
          have CPY := Lib.hid CPX
          clear CPX
          go_wp2_with fail
          refine CPY.out.mono ?_
          rintro e w5 ⟨B1, d1, B2, d2, B3, d3, B4, d4, rfl, hb, hc⟩
          have D5 := Lib.hid (below_step DD.out hb)
          have OQ := Lib.hid (Ob.made w5 32 #[.string p.id, .bool false, .int .i64 p.alg, .slice B1 n1 d1, .slice B2 n2 d2, .slice B3 n3 d3, .slice B4 n4 d4])
          obtain ⟨A5, c5, w6, r6, p6, b6, g6⟩ := more_rule hc HP.out.1.1 HP.out.1.2 HN2.out HN3.out (.cells #[.string p.id, .bool false, .int .i64 p.alg, .slice B1 n1 d1, .slice B2 n2 d2, .slice B3 n3 d3, .slice B4 n4 d4] 32)
          have R6 := Lib.hid r6
          have OQ6 : Hid (Ob w6 w5.heap.size 32 #[.string p.id, .bool false, .int .i64 p.alg, .slice B1 n1 d1, .slice B2 n2 d2, .slice B3 n3 d3, .slice B4 n4 d4]) := Lib.hid (OQ.out.keep g6)
          have HB6 := Lib.hid (((HB.out.trans (hb.mono HB.out.size))).trans (b6.mono HB.out.size))
          have HL6 := Lib.hid (HL.out.keep (Kept.all HB6.out _) (fun _ h _ => h))
          have DD6 := Lib.hid (below_step D2.out HB6.out)
          have hlt5 : w2.heap.size ≤ w5.heap.size := Nat.le_trans HB.out.size hb.size
          have HLT5 := Lib.hid hlt5
          have P6 := Lib.hid p6
          clear hb hc r6 p6 b6 g6 hcP hlt5
          have q0 := OQ.out.c7v
          have q1 := OQ6.out.c7v
          have f1 := OQ6.out.frozen 4
          go_wp2_with (first
            | (at_builtin; refine wpList_append_run (o := ⟨some 89, _, _, _, _, _⟩) rfl _ _ _ _ rfl rfl rfl R6.out ?_))
          obtain ⟨V, hV⟩ : ∃ V, w6.setCell ⟨w5.heap.size, 4, none⟩ (.slice A5 (n2 + 1) c5) = V := ⟨_, rfl⟩
          have o7 : Only w5.heap.size w6 V := by rw [← hV]; exact Only.refl.setCell rfl _
          have OQ7 : Hid (Ob V w5.heap.size 32 #[.string p.id, .bool false, .int .i64 p.alg, .slice B1 n1 d1, .slice A5 (n2 + 1) c5, .slice B3 n3 d3, .slice B4 n4 d4]) := by rw [← hV]; exact Lib.hid (OQ6.out.put 4 _)
          have b7 : Below w2.heap.size w6 V := o7.below (Nat.le_trans HB6.out.size (Nat.le_refl _)) HLT5.out
          have HB7 := Lib.hid (HB6.out.trans b7)
          have HL7 := Lib.hid (HL.out.keep (Kept.all HB7.out _) (fun _ h _ => h))
          have DD7 := Lib.hid (below_step D2.out HB7.out)
          have P7 := Lib.hid (P6.out.keep (R' := fun _ => True) (o7.kept9 (fun b hb => hb)) (fun _ _ _ => trivial))
          have HV := Lib.hid hV
          clear o7 b7 hV HB6 HL6 DD6 P6 OQ6
          go_upto_region 29 with fail
          rw [HV.out]
          clear HV q0 q1 f1 R6 OQ
          have q7 := OQ7.out.c7v
          have RQ : Calls Try.prog 11 #[.agg #[.string p.id, .bool false, .int .i64 p.alg, .slice B1 n1 d1, .slice A5 (n2 + 1) c5, .slice B3 n3 d3, .slice B4 n4 d4]] V fun e w' => e = .returned (.int .i64 (rightE (zzP p))) ∧ Below V.heap.size V w' := by
            rw [← hs']
            exact right_pol P7.out
          have RQQ := Lib.hid RQ
          have FQ : rightE (zzP p) = 0 → ∀ U, Below V.heap.size V U → Calls Try.prog 5 #[.agg #[.string p.id, .bool false, .int .i64 p.alg, .slice B1 n1 d1, .slice A5 (n2 + 1) c5, .slice B3 n3 d3, .slice B4 n4 d4]] U fun e w' => ∃ A' n' c', e = .returned (.tuple #[.slice A' n' c', .int .i64 0]) ∧ Below U.heap.size U w' ∧ Ats w' (fun b => U.heap.size ≤ b) A' n' c' (atomsP p) := by
            intro hr U hU
            have hl := zz_atoms HK.out
            have h1 := vof_any (P7.out.then_ hU) (zz_short HSH.out)
            have he : ofE (zzP p) = 0 := of_is hr (by rw [hl]; exact HFW.out)
            rw [he, (of_ok he).2.2, hl] at h1
            rw [← hs']
            exact h1
          have FQQ := Lib.hid FQ
          clear RQ FQ
          by_cases hr : rightE (zzP p) = 0
          rotate_left
          · have hne : (rightE (zzP p) != 0) = true := by rw [bne_iff_ne]; exact hr
            generalize rightE (zzP p) = rr at *
            clear hr FQQ
            go_wp2_with fail
            refine RQQ.out.mono ?_
            rintro e w8 ⟨rfl, hb⟩
            have D8 := Lib.hid (below_step DD7.out hb)
            clear hb
            go_wp2_with fail
            refine (vruns_any _).mono ?_
            rintro e w99 ⟨rfl, hb⟩
            have D99 := Lib.hid (below_step D8.out hb)
            clear hb
            go_wp2_with fail
            go_ret
            exact ⟨rfl, D99.out⟩
          rw [hr] at RQQ
          have FQ2 := Lib.hid (FQQ.out hr)
          clear hr FQQ
          go_wp2_with fail
          refine RQQ.out.mono ?_
          rintro e w8 ⟨rfl, hb⟩
          have D8 := Lib.hid (below_step DD7.out hb)
          have O8 := Lib.hid (OQ7.out.below hb OQ7.out.lt)
          have HL8 := Lib.hid (HL7.out.keep (Kept.all hb _) (fun _ h _ => h))
          have HU := Lib.hid hb
          clear hb q7
          have q8 := O8.out.c7v
          go_wp2_with fail
          refine (FQ2.out _ HU.out).mono ?_
          rintro e w9 ⟨G0, g0, g1, rfl, hb, hl⟩
          have D9 := Lib.hid (below_step D8.out hb)
          have SA := Lib.hid (vsame_any (HL8.out.keep (Kept.all hb _) (fun _ h _ => h)) hl)
          clear hb hl q8
          go_wp2_with fail
          refine SA.out.mono ?_
          rintro e w10 ⟨rfl, hb⟩
          have D10 := Lib.hid (below_step D9.out hb)
          clear hb
          go_wp2_with fail
          refine (vruns_any _).mono ?_
          rintro e w99 ⟨rfl, hb⟩
          have D99 := Lib.hid (below_step D10.out hb)
          clear hb
          go_wp2_with fail
          go_ret
          exact ⟨rfl, D99.out⟩
end Go.Proofs.Ytadjfkgnoklmiaa

