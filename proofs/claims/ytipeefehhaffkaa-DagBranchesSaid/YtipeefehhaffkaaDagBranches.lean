/- DagBranches, walked (gen16branch.py). -/
import Derived.Test.YtipeefehhaffkaaDagRunsW
import Derived.Test.YtipeefehhaffkaaDagAsk
import Derived.Test.YtipeefehhaffkaaOpenNums
import Derived.Test.YtipeefehhaffkaaHTail
import Derived.Lib.MinMax
import Derived.Deep.CutRange
import Derived.Deep.CutBlock
namespace Go.Proofs.Ytipeefehhaffkaa
set_option linter.unusedVariables false
open Go.RowKit Go.Sort

/-- A call's contract, met in a world of the class. -/
theorem regrown_call {P : Program} {f : FuncId} {args : Array Value} {w : World} {v : Value} (h : ∀ W, Below w.heap.size w W → Calls P f args W fun e w' => e = .returned v ∧ Below W.heap.size W w') (d : Nat) (os : Array Obj) : Calls P f args (grow (redrawn w d) os) fun e w'' => e = .returned v ∧ ∃ p : Regrown, w'' = grow (redrawn w p.d) p.os :=
  Calls.regrown_of (h _ (below_regrown w d os))
set_option maxRecDepth 100000 in
set_option maxHeartbeats 12800000 in
theorem dagBranches_walk (W : World) (A : Option Addr) (n c : Nat) (h : ∃ l, Aks W (fun _ => True) A n c l) (A2 : Option Addr) (n2 c2 : Nat) (h2 : ∃ s, Sl W W.heap.size A2 n2 c2 (nv s)) :
    Calls Try.prog 6 #[.slice A n c, .slice A2 n2 c2] W fun e w' => e = .returned (.bool true) ∧ Below W.heap.size W w' := by
  obtain ⟨l, hl⟩ := h
  obtain ⟨s0, hs0⟩ := h2
  have hle := Rw.le hl
  have hcap := Rw.cap hl
  have hle2 := hs0.le
  have hcap2 := hs0.cap
  unfold maxLen at hcap hcap2
  have HK := Lib.hid hl
  obtain ⟨N, hN⟩ : ∃ N : Nat, min (n2 : Int) 12 = (N : Int) := ⟨(min (n2 : Int) 12).toNat, by omega⟩
  have hN2 : N ≤ n2 := by omega
  have hN12 : N ≤ 12 := by omega
  have hs1 := hs0.take hN2
  rw [show (nv s0).take N = nv (s0.take N) by simp [nv, List.map_take]] at hs1
  obtain ⟨s, hse⟩ : ∃ s, s0.take N = s := ⟨_, rfl⟩
  rw [hse] at hs1
  have HS := Lib.hid hs1
  clear hl hs0 hs1 hse
  go_enter Try.func6, Try.ntmps6
  go_wp2_with fail
  refine (new_at 200 (by omega) (by omega) (Nat.le_refl _)).mono ?_
  rintro e w1 ⟨g, rfl, hd, hb⟩
  have D := Lib.hid hd
  have B := Lib.hid hb
  clear hd hb
  go_upto_block 0 with fail
  go_cut [] from 7 to 48 (fun wx => (∃ L A' n' c', DgAt 57 wx W.heap.size g 200 A' n' c' L) ∧ Below W.heap.size W wx)
  case first =>
    go_wp2_with fail
    go_loopw [7] (fun i wr => ∃ k : Nat, k ≤ 50 ∧ i = .int .i64 k ∧ (∃ L A' n' c', DgAt 57 wr W.heap.size g 200 A' n' c' L) ∧ Below W.heap.size W wr) (fun i _ => 50 - (intOf i).toNat)
    case atStart => exact ⟨0, by omega, rfl, ⟨_, _, _, _, D.out⟩, B.out⟩
    case round =>
      clear D B
      obtain ⟨wr0, hwr0⟩ : ∃ w2, w2 = wr := ⟨wr, rfl⟩
      subst hwr0
      obtain ⟨k, hk, rfl, ⟨L, A1, n1, c1, hd⟩, hb⟩ := hrel
      have D := Lib.hid hd
      have B := Lib.hid hb
      clear hd hb
      by_cases hin : k < n ∧ k < 50
      · obtain ⟨b, oo, q, rfl, hbl, hx, hok, x0, x1, x2, x3, x4⟩ := (HK.out.keep (Kept.all B.out _) (fun _ h _ => h)).at_ hin.1
        have hkn : (k : Int) < (n : Int) := by omega
        have hk50 : (k : Int) < 50 := by omega
        have HOK := Lib.hid hok
        have HL1 := Lib.hid D.out.few.1
        clear hx hok hin
        have CX := Lib.hid (fun V (hV : Below wr0.heap.size wr0 V) => (⟨(World.cell?_of_block (hV.block _ hbl)).trans x0, (World.cell?_of_block (hV.block _ hbl)).trans x1, (World.cell?_of_block (hV.block _ hbl)).trans x2, (World.cell?_of_block (hV.block _ hbl)).trans x3, (World.cell?_of_block (hV.block _ hbl)).trans x4⟩ : _ ∧ _ ∧ _ ∧ _ ∧ _))
        clear x0 x1 x2 x3 x4
        go_upto_region 8 with fail
        have S0 : Hid (Below wr0.heap.size wr0 wr0) := Below.refl _ _
        refine wp_region_held_tail (fun w' => Below wr0.heap.size wr0 w') 8 (by kernel_rfl) (by kernel_rfl) ?_
        intro G
        change HeadW _ _ _ _ _ _ _ _ _ _ (wr0.drewN 1)
        have S := Lib.hid (below_drewN S0.out 1)
        generalize wr0.drewN 1 = y0 at *
        refine HeadW_take (i := 0) (v := ?_) G rfl (by kernel_rfl) (by kernel_rfl) (by kernel_rfl) (fun _ _ _ h => h) (Or.inl ⟨by rfl, ?_⟩) S.out ?_
        rotate_left
        · intro wz hS
          go_simp
          try with_reducible rfl
        refine HeadW_take (i := 1) (v := ?_) G rfl (by kernel_rfl) (by kernel_rfl) (by kernel_rfl) (fun _ _ _ h => h) (Or.inl ⟨by rfl, ?_⟩) S.out ?_
        rotate_left
        · intro wz hS
          go_simp
          try with_reducible rfl
        refine HeadW_take (i := 2) (v := ?_) G rfl (by kernel_rfl) (by kernel_rfl) (by kernel_rfl) (fun _ _ _ h => h) (Or.inl ⟨by rfl, ?_⟩) S.out ?_
        rotate_left
        · intro wz hS
          go_simp
          try with_reducible rfl
        refine HeadW_take (i := 3) (v := ?_) G rfl (by kernel_rfl) (by kernel_rfl) (by kernel_rfl) (fun _ _ _ h => h) (Or.inl ⟨by rfl, ?_⟩) S.out ?_
        rotate_left
        · intro wz hS
          go_simp
          try with_reducible rfl
        refine HeadW_take (i := 4) (v := ?_) G rfl (by kernel_rfl) (by kernel_rfl) (by kernel_rfl) (fun _ _ _ h => h) (Or.inl ⟨by rfl, ?_⟩) S.out ?_
        rotate_left
        · intro wz hS
          obtain ⟨x0, x1, x2, x3, x4⟩ := CX.out _ hS
          go_simp
          try with_reducible rfl
        refine HeadW_take (i := 5) (v := ?_) G rfl (by kernel_rfl) (by kernel_rfl) (by kernel_rfl) (fun _ _ _ h => h) (Or.inl ⟨by rfl, ?_⟩) S.out ?_
        rotate_left
        · intro wz hS
          go_simp
          try with_reducible rfl
        refine HeadW_ready (rs := [6]) (by kernel_rfl) rfl rfl ?_
        refine AllW.cons rfl (fun K hK => ?_) AllW.nil
        try go_simp
        refine (len_any (D.out.below S.out)).mono ?_
        rintro e yy ⟨rfl, rfl⟩
        refine hK _ _ S.out ?_
        clear hK K
        refine HeadW_ready (rs := [7]) (by kernel_rfl) rfl rfl ?_
        refine AllW.cons rfl (fun K hK => ?_) AllW.nil
        go_simp
        refine (made_any q HOK.out n1 HL1.out).mono ?_
        rintro e y1 ⟨rfl, hb⟩
        have S := Lib.hid (S.out.trans (hb.mono S.out.size))
        refine hK _ _ S.out ?_
        clear hK K hb
        intro _
        refine ⟨by kernel_rfl, ?_⟩
        simp only [List.drop_succ_cons, List.drop_zero]
        have B2 := Lib.hid (Below.up B.out (by have := B.out.size; omega) S.out)
        have D2 := Lib.hid (D.out.below S.out)
        simp only [Br.val]
        go_wp2_with fail
        refine (make_any D2.out (mdA q n1) (mdA_ok HOK.out HL1.out)).mono ?_
        rintro e w4 ⟨A3, n3, c3, rfl, hd, hmk⟩
        have B3 := Lib.hid (B2.out.trans (hmk.below D2.out.2.2.1.2 (fun k hk => (D2.out.lt k hk).1)))
        have D3 := Lib.hid hd
        clear hd hmk
        go_wp2_with fail
        go_roundw
        case rel => exact ⟨k + 1, by omega, by go_num, ⟨_, _, _, _, D3.out⟩, B3.out⟩
        case measure => simp [intOf]; omega
      · have hout : ((k : Int) < (n : Int) → ¬ (k : Int) < 50) := fun h h2 => hin ⟨by omega, by omega⟩
        have HOUT := Lib.hid hout
        clear hin hout
        by_cases hkn : k < n
        · have hki : (k : Int) < (n : Int) := by omega
          have hk50 := HOUT.out hki
          clear hkn
          go_wp2_with fail
          go_meet
          exact ⟨⟨_, _, _, _, D.out⟩, B.out⟩
        · have hki : ¬ (k : Int) < (n : Int) := by omega
          clear hkn
          go_wp2_with fail
          go_meet
          exact ⟨⟨_, _, _, _, D.out⟩, B.out⟩
  case rest =>
  clear D B
  obtain ⟨w3, hw3⟩ : ∃ wx, ((∃ L A' n' c', DgAt 57 wx W.heap.size g 200 A' n' c' L) ∧ Below W.heap.size W wx) ∧ wx = _ := ⟨_, hcut, rfl⟩
  obtain ⟨⟨⟨L, A1, n1, c1, hd⟩, hb⟩, hwe⟩ := hw3
  rw [← hwe]
  clear hwe hcut
  have D := Lib.hid hd
  have B := Lib.hid hb
  clear hd hb
  go_wp2_with fail
  go_loopw [8] (fun i wr => ∃ k : Nat, k ≤ n1 ∧ i = .int .i64 k ∧ Below w3.heap.size w3 wr) (fun i _ => n1 - (intOf i).toNat)
  case atStart => exact ⟨0, by omega, rfl, Below.refl _ _⟩
  case round =>
    obtain ⟨wr0, hwr0⟩ : ∃ w2, w2 = wr := ⟨wr, rfl⟩
    subst hwr0
    obtain ⟨k, hk, rfl, hb⟩ := hrel
    have BR := Lib.hid hb
    have D1 := Lib.hid (D.out.below hb)
    have B1 := Lib.hid (Below.up B.out (by have := B.out.size; omega) hb)
    clear hb
    have hf1 := D.out.few.1
    by_cases hin : k < n1 ∧ k < 60
    case neg =>
      have hout : ((k : Int) < (n1 : Int) → ¬ (k : Int) < 60) := fun h h2 => hin ⟨by omega, by omega⟩
      have HOUT := Lib.hid hout
      have CL := Lib.hid (len_any D1.out)
      clear hin hout
      by_cases hkn : k < n1
      · have hki : (k : Int) < (n1 : Int) := by omega
        have hk60 := HOUT.out hki
        clear hkn
        go_wp2_with fail
        refine CL.out.mono ?_
        rintro e we ⟨rfl, hb⟩
        rw [← hb]
        clear hb
        go_wp2_with fail
        refine (dagruns_any _).mono ?_
        rintro e wf ⟨rfl, hb⟩
        have B2 := Lib.hid (Below.up B1.out (by have := B1.out.size; omega) hb)
        clear hb
        go_wp2_with fail
        go_ret
        exact ⟨rfl, B2.out⟩
      · have hki : ¬ (k : Int) < (n1 : Int) := by omega
        clear hkn
        go_wp2_with fail
        refine CL.out.mono ?_
        rintro e we ⟨rfl, hb⟩
        rw [← hb]
        clear hb
        go_wp2_with fail
        refine (dagruns_any _).mono ?_
        rintro e wf ⟨rfl, hb⟩
        have B2 := Lib.hid (Below.up B1.out (by have := B1.out.size; omega) hb)
        clear hb
        go_wp2_with fail
        go_ret
        exact ⟨rfl, B2.out⟩
    obtain ⟨b0, o0, x, hA1, hbl, hx, hok, _⟩ := D1.out.at_ hin.1
    have hkn : (k : Int) < (n1 : Int) := by omega
    have hk60 : (k : Int) < 60 := by omega
    have HX := Lib.hid hx
    have HOK := Lib.hid hok
    have HLEN := Lib.hid D.out.len
    have HDG := Lib.hid D.out.dg
    clear hin hA1 hbl hx hok
    have CL := Lib.hid (len_any D1.out)
    have CB := Lib.hid (branch_any D1.out (k : Int) (by unfold InI; omega))
    rw [(brD_in HX.out).1, (brD_in HX.out).2] at CB
    obtain ⟨xa, xx, xy, xz⟩ := x
    simp only [Br.val] at CB
    go_wp2_with fail
    refine CL.out.mono ?_
    rintro e we ⟨rfl, hb⟩
    rw [← hb]
    clear hb
    go_wp2_with fail
    refine CB.out.mono ?_
    rintro e w4 ⟨rfl, hb⟩
    have B2 := Lib.hid (below_step BR.out hb)
    clear hb
    have O4 : Hid (Ob (w4.alloc (.cells #[.int .i64 xa, .int .i64 xx, .int .i64 xy, .int .i64 xz] 30)) w4.heap.size 30 #[.int .i64 xa, .int .i64 xx, .int .i64 xy, .int .i64 xz]) := Ob.made _ _ _
    have B3 := Lib.hid (below_step B2.out (below1 w4 (.cells #[.int .i64 xa, .int .i64 xx, .int .i64 xy, .int .i64 xz] 30)))
    obtain ⟨V, hV⟩ : ∃ V, w4.alloc (.cells #[.int .i64 xa, .int .i64 xx, .int .i64 xy, .int .i64 xz] 30) = V := ⟨_, rfl⟩
    obtain ⟨gx, hgx⟩ : ∃ gx, w4.heap.size = gx := ⟨_, rfl⟩
    rw [hV] at O4 B3
    rw [hgx] at O4
    have HV := Lib.hid hV
    have HGX := Lib.hid hgx
    clear hV hgx
    have hneg : (0 : Int) ≤ xa := HOK.out.1.1
    obtain ⟨ka, hka⟩ : ∃ ka : Nat, xa = (ka : Int) := ⟨xa.toNat, by omega⟩
    subst hka
    obtain ⟨q, hq⟩ : ∃ q, ansD s (ka : Int) = q := ⟨_, rfl⟩
    have hq2 : q ≤ 2 := by rw [← hq]; exact ansD_two s _
    have HQ := Lib.hid hq
    have HSV := Lib.hid (HS.out.below (B.out.trans (B3.out.mono B.out.size)))
    clear hq hneg
    go_upto_region 16 with fail
    rw [HV.out, HGX.out]
    clear HV HGX CL CB
    go_cut [92] from 67 to 92 (fun t wx => (∃ tb : Bool, t = .bool tb ∧ (tb = true → ka < N ∧ ∃ v, s[ka]? = some v ∧ v = (q : Int)) ∧ (tb = false → q = 1)) ∧ wx = V)
    case first =>
      have z0 := O4.out.cell 0
      simp at z0
      by_cases hin : ka < N
      · obtain ⟨b2, o2, v, hA2, hb2, hv, v0⟩ := HSV.out.num hin
        subst hA2
        have HA := Lib.hid (ansD_in hv)
        have hqv : (q : Int) = if 0 ≤ v ∧ v ≤ 2 then v else 1 := by rw [← HQ.out]; exact HA.out
        have HQV := Lib.hid hqv
        have HVV := Lib.hid hv
        have hinI : (ka : Int) < (N : Int) := by omega
        clear hv hqv
        by_cases h0 : 0 ≤ v
        · by_cases h2 : v ≤ 2
          · have hvq : Hid (v = (q : Int)) := by show _ = _; rw [HQV.out, if_pos ⟨h0, h2⟩]
            go_wp2_with fail
            go_meet
            exact ⟨⟨true, rfl, fun _ => ⟨by omega, v, HVV.out, hvq.out⟩, fun h => by cases h⟩, rfl⟩
          · have hvq : Hid (q = 1) := by show _ = _; have := HQV.out; rw [if_neg (fun h => h2 h.2)] at this; omega
            go_wp2_with fail
            go_meet
            exact ⟨⟨false, rfl, by simp, by first | exact fun _ => hvq.out | exact hvq.out⟩, rfl⟩
        · have hvq : Hid (q = 1) := by show _ = _; have := HQV.out; rw [if_neg (fun h => h0 h.1)] at this; omega
          go_wp2_with fail
          go_meet
          exact ⟨⟨false, rfl, by simp, by first | exact fun _ => hvq.out | exact hvq.out⟩, rfl⟩
      · have hinI : ¬ (ka : Int) < (N : Int) := by omega
        have hvq : Hid (q = 1) := by
          show _ = _
          have h1 := ansD_out (s := s) (k := ka) (by have := HSV.out.nlen; omega)
          rw [HQ.out] at h1
          omega
        clear hin
        go_wp2_with fail
        go_meet
        exact ⟨⟨false, rfl, by simp, by first | exact fun _ => hvq.out | exact hvq.out⟩, rfl⟩
    case rest =>
    obtain ⟨⟨tb, rfl, ht, hf⟩, hwc⟩ := hcut
    rw [hwc]
    clear hwc
    cases tb
    · have HT := Lib.hid (hf rfl)
      clear ht hf
      obtain rfl : q = 1 := HT.out
      obtain ⟨y1, y2, y3, y4⟩ := HOK.out.in_ (by omega)
      have z1 := O4.out.cell 1
      have z2 := O4.out.cell 2
      have z3 := O4.out.cell 3
      simp at z1 z2 z3
      have CSX := Lib.hid (fun V' (hV : Below w3.heap.size w3 V') => size_any (D.out.below hV) xx y2)
      have CSY := Lib.hid (fun V' (hV : Below w3.heap.size w3 V') => size_any (D.out.below hV) xy y3)
      have CSZ := Lib.hid (fun V' (hV : Below w3.heap.size w3 V') => size_any (D.out.below hV) xz y4)
      have CSK := Lib.hid (fun V' (hV : Below w3.heap.size w3 V') => size_any (D.out.below hV) (k : Int) (by unfold InI; omega))
      have l0 : sizeD L xx < sizeD L (k : Int) := size_less HDG.out (w := (k : Int)) (b := ⟨(ka : Int), xx, xy, xz⟩) (by omega) (by rw [Int.toNat_natCast]; exact HX.out) 0
      have l1 : sizeD L xy < sizeD L (k : Int) := size_less HDG.out (w := (k : Int)) (b := ⟨(ka : Int), xx, xy, xz⟩) (by omega) (by rw [Int.toNat_natCast]; exact HX.out) 1
      have l2 : sizeD L xz < sizeD L (k : Int) := size_less HDG.out (w := (k : Int)) (b := ⟨(ka : Int), xx, xy, xz⟩) (by omega) (by rw [Int.toNat_natCast]; exact HX.out) 2
      have l3 := size_sum HDG.out (w := (k : Int)) (b := ⟨(ka : Int), xx, xy, xz⟩) (by omega) (by rw [Int.toNat_natCast]; exact HX.out)
      have l4 : sizeD L (k : Int) ≤ n1 := by have := size_len (l := L) (k : Int); have := HLEN.out; omega
      have HWK : Hid (walkD L (k : Int) s = walkD L ((⟨(ka : Int), xx, xy, xz⟩ : Br).to 1) s) := by
        have h1 := walk_kid HDG.out (w := (k : Int)) (b := ⟨(ka : Int), xx, xy, xz⟩) (by omega) (by rw [Int.toNat_natCast]; exact HX.out) s
        simp only at h1
        rw [HQ.out] at h1
        exact h1
      simp only at l3
      obtain ⟨sx, hsx⟩ : ∃ s, sizeD L xx = s := ⟨_, rfl⟩
      obtain ⟨sy, hsy⟩ : ∃ s, sizeD L xy = s := ⟨_, rfl⟩
      obtain ⟨sz, hsz⟩ : ∃ s, sizeD L xz = s := ⟨_, rfl⟩
      obtain ⟨sk, hsk⟩ : ∃ s, sizeD L (k : Int) = s := ⟨_, rfl⟩
      rw [hsx] at CSX
      rw [hsy] at CSY
      rw [hsz] at CSZ
      rw [hsk] at CSK
      rw [hsx, hsk] at l0
      rw [hsy, hsk] at l1
      rw [hsz, hsk] at l2
      rw [hsx, hsy, hsz, hsk] at l3
      rw [hsk] at l4
      clear hsx hsy hsz hsk
      have HW : Hid (InI xx ∧ InI xy ∧ InI xz) := ⟨y2, y3, y4⟩
      clear y1 y2 y3 y4
      have i0 := ix_x xx xy xz
      have i1 := ix_y xx xy xz
      have i2 := ix_z xx xy xz
      have wx : IntKind.i64.wrap (1 + (sx : Int)) = ((1 + sx : Nat) : Int) := by rw [IntKind.wrap_i64]; omega
      have wy : IntKind.i64.wrap (((1 + sx : Nat) : Int) + (sy : Int)) = ((1 + sx + sy : Nat) : Int) := by rw [IntKind.wrap_i64]; omega
      have wz : IntKind.i64.wrap (((1 + sx + sy : Nat) : Int) + (sz : Int)) = ((1 + sx + sy + sz : Nat) : Int) := by rw [IntKind.wrap_i64]; omega
      obtain ⟨p1, hp1⟩ : ∃ p, 1 + sx = p := ⟨_, rfl⟩
      obtain ⟨p2, hp2⟩ : ∃ p, p1 + sy = p := ⟨_, rfl⟩
      obtain ⟨p3, hp3⟩ : ∃ p, p2 + sz = p := ⟨_, rfl⟩
      rw [hp1] at wx
      rw [hp1, hp2] at wy
      rw [hp1, hp2, hp3] at wz
      rw [hp1, hp2, hp3] at l3
      clear hp1 hp2 hp3
      have g0 : ¬ (sk : Int) ≤ (sx : Int) := by omega
      have g1 : ¬ (sk : Int) ≤ (sy : Int) := by omega
      have g2 : ¬ (sk : Int) ≤ (sz : Int) := by omega
      have HLE : Hid (sk ≤ p3 ∧ sk ≤ n1) := ⟨l3, l4⟩
      clear l0 l1 l2 l3 l4
      go_wp2_with fail
      go_loopw [12, 100] (fun m i wr => ∃ t : Nat, t ≤ 3 ∧ i = .int .i64 t ∧ m = .int .i64 (([1, p1, p2, p3] : List Nat).getD t 0 : Nat) ∧ Below w3.heap.size w3 wr ∧ Below V.heap.size V wr) (fun _ i _ => 3 - (intOf i).toNat)
      case atStart => exact ⟨0, by omega, rfl, rfl, B3.out, Below.refl _ _⟩
      case round =>
        obtain ⟨wi, hwi⟩ : ∃ w2, w2 = wr := ⟨wr, rfl⟩
        subst hwi
        obtain ⟨t, ht, rfl, rfl, hb, hb2⟩ := hrel
        have BI := Lib.hid hb
        have BV := Lib.hid hb2
        clear hb hb2
        by_cases h3 : t = 3
        case neg =>
          rcases (show t = 0 ∨ t = 1 ∨ t = 2 by omega) with rfl | rfl | rfl
          · simp only [List.getD_cons_zero]
            go_wp2_with fail
            refine (CSX.out _ BI.out).mono ?_
            rintro e wj ⟨rfl, hb⟩
            have BI := Lib.hid (below_step BI.out hb)
            have BV := Lib.hid (below_step BV.out hb)
            clear hb
            go_wp2_with fail
            refine (CSX.out _ BI.out).mono ?_
            rintro e wj2 ⟨rfl, hb⟩
            have BI := Lib.hid (below_step BI.out hb)
            have BV := Lib.hid (below_step BV.out hb)
            clear hb
            go_wp2_with fail
            refine (CSK.out _ BI.out).mono ?_
            rintro e wj3 ⟨rfl, hb⟩
            have BI := Lib.hid (below_step BI.out hb)
            have BV := Lib.hid (below_step BV.out hb)
            clear hb
            go_wp2_with fail
            go_roundw
            case rel => exact ⟨1, by omega, rfl, rfl, BI.out, BV.out⟩
            case measure => simp [intOf]
          · simp only [List.getD_cons_zero, List.getD_cons_succ]
            go_wp2_with fail
            refine (CSY.out _ BI.out).mono ?_
            rintro e wj ⟨rfl, hb⟩
            have BI := Lib.hid (below_step BI.out hb)
            have BV := Lib.hid (below_step BV.out hb)
            clear hb
            go_wp2_with fail
            refine (CSY.out _ BI.out).mono ?_
            rintro e wj2 ⟨rfl, hb⟩
            have BI := Lib.hid (below_step BI.out hb)
            have BV := Lib.hid (below_step BV.out hb)
            clear hb
            go_wp2_with fail
            refine (CSK.out _ BI.out).mono ?_
            rintro e wj3 ⟨rfl, hb⟩
            have BI := Lib.hid (below_step BI.out hb)
            have BV := Lib.hid (below_step BV.out hb)
            clear hb
            go_wp2_with fail
            go_roundw
            case rel => exact ⟨2, by omega, rfl, rfl, BI.out, BV.out⟩
            case measure => simp [intOf]
          · simp only [List.getD_cons_zero, List.getD_cons_succ]
            go_wp2_with fail
            refine (CSZ.out _ BI.out).mono ?_
            rintro e wj ⟨rfl, hb⟩
            have BI := Lib.hid (below_step BI.out hb)
            have BV := Lib.hid (below_step BV.out hb)
            clear hb
            go_wp2_with fail
            refine (CSZ.out _ BI.out).mono ?_
            rintro e wj2 ⟨rfl, hb⟩
            have BI := Lib.hid (below_step BI.out hb)
            have BV := Lib.hid (below_step BV.out hb)
            clear hb
            go_wp2_with fail
            refine (CSK.out _ BI.out).mono ?_
            rintro e wj3 ⟨rfl, hb⟩
            have BI := Lib.hid (below_step BI.out hb)
            have BV := Lib.hid (below_step BV.out hb)
            clear hb
            go_wp2_with fail
            go_roundw
            case rel => exact ⟨3, by omega, rfl, rfl, BI.out, BV.out⟩
            case measure => simp [intOf]
        subst h3
        clear i0 i1 i2 wx wy wz g0 g1 g2
        have e1 : ¬ (p3 : Int) < (sk : Int) := by have := HLE.out.1; omega
        have e2 : ¬ (n1 : Int) < (sk : Int) := by have := HLE.out.2; omega
        have OX := Lib.hid (O4.out.below BV.out O4.out.lt)
        have QK := Lib.hid (regrown_call (w := wi) fun V' hV => CSK.out V' (below_step BI.out hV))
        have QL := Lib.hid (regrown_call (w := wi) fun V' hV => (len_any (D.out.below (below_step BI.out hV))).mono fun e w' ⟨he, hw⟩ => ⟨he, by rw [← hw]; exact Below.refl _ _⟩)
        have QW1 := Lib.hid (regrown_call (w := wi) fun V' hV => walk_any (D.out.below (below_step BI.out hV)) (k : Int) (by unfold InI; omega) (HS.out.below (B.out.trans ((below_step BI.out hV).mono B.out.size))) (Nat.le_trans B.out.size (below_step BI.out hV).size))
        obtain ⟨v, hv⟩ : ∃ v, walkD L (k : Int) s = v := ⟨_, rfl⟩
        have HV := Lib.hid hv
        rw [hv] at QW1
        clear hv
        have o1 := OX.out.cell 1
        have o2' := OX.out.cell 2
        have o3 := OX.out.cell 3
        simp at o1 o2' o3
        have o1 := fun d os => cell_regrown o1 d os
        have o2' := fun d os => cell_regrown o2' d os
        have o3 := fun d os => cell_regrown o3 d os
        have QW2 := Lib.hid (regrown_call (w := wi) fun V' hV => walk_any (D.out.below (below_step BI.out hV)) xy HW.out.2.1 (HS.out.below (B.out.trans ((below_step BI.out hV).mono B.out.size))) (Nat.le_trans B.out.size (below_step BI.out hV).size))
        have HW2 : Hid (walkD L xy s = v) := HWK.out.symm.trans HV.out
        rw [HW2.out] at QW2
        clear HW2
        go_upto_region 26 with fail
        refine wp_region_quiet_below (by kernel_rfl) (by kernel_rfl) ?_
        repeat (go_big_quiet_step (first | (go_at_call 11; with_reducible exact QW1.out _ _) | (go_at_call 11; with_reducible exact QW2.out _ _) | (go_at_call 12; with_reducible exact QK.out _ _) | (go_at_call 13; with_reducible exact QL.out _ _)))
        refine wpQuiet_nil ?_
        intro _ hw'
        obtain ⟨⟨dq, osq⟩, hw''⟩ := hw'
        subst hw''
        have BZ := Lib.hid (below_step BI.out (below_regrown wi dq osq))
        clear o1 o2' o3 QW1 QW2 QK QL
        dsimp only at BZ ⊢
        generalize grow (redrawn wi dq) osq = wy2 at *
        go_wp2_with fail
        go_roundw
        case rel => exact ⟨k + 1, by omega, by go_num, BZ.out⟩
        case measure => simp [intOf]; omega
    · have HT := Lib.hid (ht rfl)
      clear ht hf
      obtain ⟨hin, v, hv, hvq⟩ := HT.out
      subst hvq
      obtain ⟨b2, o2, v2, hA2, hb2, hv2, v0⟩ := HSV.out.num hin
      obtain rfl := Option.some.inj (hv.symm.trans hv2)
      have hinI : (ka : Int) < (N : Int) := by omega
      have z0 := O4.out.cell 0
      simp at z0
      subst hA2
      clear hin hv hv2 HT
      obtain ⟨y1, y2, y3, y4⟩ := HOK.out.in_ (by omega)
      have z1 := O4.out.cell 1
      have z2 := O4.out.cell 2
      have z3 := O4.out.cell 3
      simp at z1 z2 z3
      have CSX := Lib.hid (fun V' (hV : Below w3.heap.size w3 V') => size_any (D.out.below hV) xx y2)
      have CSY := Lib.hid (fun V' (hV : Below w3.heap.size w3 V') => size_any (D.out.below hV) xy y3)
      have CSZ := Lib.hid (fun V' (hV : Below w3.heap.size w3 V') => size_any (D.out.below hV) xz y4)
      have CSK := Lib.hid (fun V' (hV : Below w3.heap.size w3 V') => size_any (D.out.below hV) (k : Int) (by unfold InI; omega))
      have l0 : sizeD L xx < sizeD L (k : Int) := size_less HDG.out (w := (k : Int)) (b := ⟨(ka : Int), xx, xy, xz⟩) (by omega) (by rw [Int.toNat_natCast]; exact HX.out) 0
      have l1 : sizeD L xy < sizeD L (k : Int) := size_less HDG.out (w := (k : Int)) (b := ⟨(ka : Int), xx, xy, xz⟩) (by omega) (by rw [Int.toNat_natCast]; exact HX.out) 1
      have l2 : sizeD L xz < sizeD L (k : Int) := size_less HDG.out (w := (k : Int)) (b := ⟨(ka : Int), xx, xy, xz⟩) (by omega) (by rw [Int.toNat_natCast]; exact HX.out) 2
      have l3 := size_sum HDG.out (w := (k : Int)) (b := ⟨(ka : Int), xx, xy, xz⟩) (by omega) (by rw [Int.toNat_natCast]; exact HX.out)
      have l4 : sizeD L (k : Int) ≤ n1 := by have := size_len (l := L) (k : Int); have := HLEN.out; omega
      have HWK : Hid (walkD L (k : Int) s = walkD L ((⟨(ka : Int), xx, xy, xz⟩ : Br).to q) s) := by
        have h1 := walk_kid HDG.out (w := (k : Int)) (b := ⟨(ka : Int), xx, xy, xz⟩) (by omega) (by rw [Int.toNat_natCast]; exact HX.out) s
        simp only at h1
        rw [HQ.out] at h1
        exact h1
      simp only at l3
      obtain ⟨sx, hsx⟩ : ∃ s, sizeD L xx = s := ⟨_, rfl⟩
      obtain ⟨sy, hsy⟩ : ∃ s, sizeD L xy = s := ⟨_, rfl⟩
      obtain ⟨sz, hsz⟩ : ∃ s, sizeD L xz = s := ⟨_, rfl⟩
      obtain ⟨sk, hsk⟩ : ∃ s, sizeD L (k : Int) = s := ⟨_, rfl⟩
      rw [hsx] at CSX
      rw [hsy] at CSY
      rw [hsz] at CSZ
      rw [hsk] at CSK
      rw [hsx, hsk] at l0
      rw [hsy, hsk] at l1
      rw [hsz, hsk] at l2
      rw [hsx, hsy, hsz, hsk] at l3
      rw [hsk] at l4
      clear hsx hsy hsz hsk
      have HW : Hid (InI xx ∧ InI xy ∧ InI xz) := ⟨y2, y3, y4⟩
      clear y1 y2 y3 y4
      have i0 := ix_x xx xy xz
      have i1 := ix_y xx xy xz
      have i2 := ix_z xx xy xz
      have wx : IntKind.i64.wrap (1 + (sx : Int)) = ((1 + sx : Nat) : Int) := by rw [IntKind.wrap_i64]; omega
      have wy : IntKind.i64.wrap (((1 + sx : Nat) : Int) + (sy : Int)) = ((1 + sx + sy : Nat) : Int) := by rw [IntKind.wrap_i64]; omega
      have wz : IntKind.i64.wrap (((1 + sx + sy : Nat) : Int) + (sz : Int)) = ((1 + sx + sy + sz : Nat) : Int) := by rw [IntKind.wrap_i64]; omega
      obtain ⟨p1, hp1⟩ : ∃ p, 1 + sx = p := ⟨_, rfl⟩
      obtain ⟨p2, hp2⟩ : ∃ p, p1 + sy = p := ⟨_, rfl⟩
      obtain ⟨p3, hp3⟩ : ∃ p, p2 + sz = p := ⟨_, rfl⟩
      rw [hp1] at wx
      rw [hp1, hp2] at wy
      rw [hp1, hp2, hp3] at wz
      rw [hp1, hp2, hp3] at l3
      clear hp1 hp2 hp3
      have g0 : ¬ (sk : Int) ≤ (sx : Int) := by omega
      have g1 : ¬ (sk : Int) ≤ (sy : Int) := by omega
      have g2 : ¬ (sk : Int) ≤ (sz : Int) := by omega
      have HLE : Hid (sk ≤ p3 ∧ sk ≤ n1) := ⟨l3, l4⟩
      clear l0 l1 l2 l3 l4
      go_wp2_with fail
      go_loopw [12, 100] (fun m i wr => ∃ t : Nat, t ≤ 3 ∧ i = .int .i64 t ∧ m = .int .i64 (([1, p1, p2, p3] : List Nat).getD t 0 : Nat) ∧ Below w3.heap.size w3 wr ∧ Below V.heap.size V wr) (fun _ i _ => 3 - (intOf i).toNat)
      case atStart => exact ⟨0, by omega, rfl, rfl, B3.out, Below.refl _ _⟩
      case round =>
        obtain ⟨wi, hwi⟩ : ∃ w2, w2 = wr := ⟨wr, rfl⟩
        subst hwi
        obtain ⟨t, ht, rfl, rfl, hb, hb2⟩ := hrel
        have BI := Lib.hid hb
        have BV := Lib.hid hb2
        clear hb hb2
        by_cases h3 : t = 3
        case neg =>
          rcases (show t = 0 ∨ t = 1 ∨ t = 2 by omega) with rfl | rfl | rfl
          · simp only [List.getD_cons_zero]
            go_wp2_with fail
            refine (CSX.out _ BI.out).mono ?_
            rintro e wj ⟨rfl, hb⟩
            have BI := Lib.hid (below_step BI.out hb)
            have BV := Lib.hid (below_step BV.out hb)
            clear hb
            go_wp2_with fail
            refine (CSX.out _ BI.out).mono ?_
            rintro e wj2 ⟨rfl, hb⟩
            have BI := Lib.hid (below_step BI.out hb)
            have BV := Lib.hid (below_step BV.out hb)
            clear hb
            go_wp2_with fail
            refine (CSK.out _ BI.out).mono ?_
            rintro e wj3 ⟨rfl, hb⟩
            have BI := Lib.hid (below_step BI.out hb)
            have BV := Lib.hid (below_step BV.out hb)
            clear hb
            go_wp2_with fail
            go_roundw
            case rel => exact ⟨1, by omega, rfl, rfl, BI.out, BV.out⟩
            case measure => simp [intOf]
          · simp only [List.getD_cons_zero, List.getD_cons_succ]
            go_wp2_with fail
            refine (CSY.out _ BI.out).mono ?_
            rintro e wj ⟨rfl, hb⟩
            have BI := Lib.hid (below_step BI.out hb)
            have BV := Lib.hid (below_step BV.out hb)
            clear hb
            go_wp2_with fail
            refine (CSY.out _ BI.out).mono ?_
            rintro e wj2 ⟨rfl, hb⟩
            have BI := Lib.hid (below_step BI.out hb)
            have BV := Lib.hid (below_step BV.out hb)
            clear hb
            go_wp2_with fail
            refine (CSK.out _ BI.out).mono ?_
            rintro e wj3 ⟨rfl, hb⟩
            have BI := Lib.hid (below_step BI.out hb)
            have BV := Lib.hid (below_step BV.out hb)
            clear hb
            go_wp2_with fail
            go_roundw
            case rel => exact ⟨2, by omega, rfl, rfl, BI.out, BV.out⟩
            case measure => simp [intOf]
          · simp only [List.getD_cons_zero, List.getD_cons_succ]
            go_wp2_with fail
            refine (CSZ.out _ BI.out).mono ?_
            rintro e wj ⟨rfl, hb⟩
            have BI := Lib.hid (below_step BI.out hb)
            have BV := Lib.hid (below_step BV.out hb)
            clear hb
            go_wp2_with fail
            refine (CSZ.out _ BI.out).mono ?_
            rintro e wj2 ⟨rfl, hb⟩
            have BI := Lib.hid (below_step BI.out hb)
            have BV := Lib.hid (below_step BV.out hb)
            clear hb
            go_wp2_with fail
            refine (CSK.out _ BI.out).mono ?_
            rintro e wj3 ⟨rfl, hb⟩
            have BI := Lib.hid (below_step BI.out hb)
            have BV := Lib.hid (below_step BV.out hb)
            clear hb
            go_wp2_with fail
            go_roundw
            case rel => exact ⟨3, by omega, rfl, rfl, BI.out, BV.out⟩
            case measure => simp [intOf]
        subst h3
        clear i0 i1 i2 wx wy wz g0 g1 g2
        have e1 : ¬ (p3 : Int) < (sk : Int) := by have := HLE.out.1; omega
        have e2 : ¬ (n1 : Int) < (sk : Int) := by have := HLE.out.2; omega
        have OX := Lib.hid (O4.out.below BV.out O4.out.lt)
        have QK := Lib.hid (regrown_call (w := wi) fun V' hV => CSK.out V' (below_step BI.out hV))
        have QL := Lib.hid (regrown_call (w := wi) fun V' hV => (len_any (D.out.below (below_step BI.out hV))).mono fun e w' ⟨he, hw⟩ => ⟨he, by rw [← hw]; exact Below.refl _ _⟩)
        have QW1 := Lib.hid (regrown_call (w := wi) fun V' hV => walk_any (D.out.below (below_step BI.out hV)) (k : Int) (by unfold InI; omega) (HS.out.below (B.out.trans ((below_step BI.out hV).mono B.out.size))) (Nat.le_trans B.out.size (below_step BI.out hV).size))
        obtain ⟨v, hv⟩ : ∃ v, walkD L (k : Int) s = v := ⟨_, rfl⟩
        have HV := Lib.hid hv
        rw [hv] at QW1
        clear hv
        have o1 := OX.out.cell 1
        have o2' := OX.out.cell 2
        have o3 := OX.out.cell 3
        simp at o1 o2' o3
        have o1 := fun d os => cell_regrown o1 d os
        have o2' := fun d os => cell_regrown o2' d os
        have o3 := fun d os => cell_regrown o3 d os
        rcases (show q = 0 ∨ q = 1 ∨ q = 2 by omega) with rfl | rfl | rfl
        · have QW2 := Lib.hid (regrown_call (w := wi) fun V' hV => walk_any (D.out.below (below_step BI.out hV)) xx HW.out.1 (HS.out.below (B.out.trans ((below_step BI.out hV).mono B.out.size))) (Nat.le_trans B.out.size (below_step BI.out hV).size))
          have HW2 : Hid (walkD L xx s = v) := HWK.out.symm.trans HV.out
          rw [HW2.out] at QW2
          clear HW2
          go_upto_region 26 with fail
          refine wp_region_quiet_below (by kernel_rfl) (by kernel_rfl) ?_
          repeat (go_big_quiet_step (first | (go_at_call 11; with_reducible exact QW1.out _ _) | (go_at_call 11; with_reducible exact QW2.out _ _) | (go_at_call 12; with_reducible exact QK.out _ _) | (go_at_call 13; with_reducible exact QL.out _ _)))
          refine wpQuiet_nil ?_
          intro _ hw'
          obtain ⟨⟨dq, osq⟩, hw''⟩ := hw'
          subst hw''
          have BZ := Lib.hid (below_step BI.out (below_regrown wi dq osq))
          clear o1 o2' o3 QW1 QW2 QK QL
          dsimp only at BZ ⊢
          generalize grow (redrawn wi dq) osq = wy2 at *
          go_wp2_with fail
          go_roundw
          case rel => exact ⟨k + 1, by omega, by go_num, BZ.out⟩
          case measure => simp [intOf]; omega
        · have QW2 := Lib.hid (regrown_call (w := wi) fun V' hV => walk_any (D.out.below (below_step BI.out hV)) xy HW.out.2.1 (HS.out.below (B.out.trans ((below_step BI.out hV).mono B.out.size))) (Nat.le_trans B.out.size (below_step BI.out hV).size))
          have HW2 : Hid (walkD L xy s = v) := HWK.out.symm.trans HV.out
          rw [HW2.out] at QW2
          clear HW2
          go_upto_region 26 with fail
          refine wp_region_quiet_below (by kernel_rfl) (by kernel_rfl) ?_
          repeat (go_big_quiet_step (first | (go_at_call 11; with_reducible exact QW1.out _ _) | (go_at_call 11; with_reducible exact QW2.out _ _) | (go_at_call 12; with_reducible exact QK.out _ _) | (go_at_call 13; with_reducible exact QL.out _ _)))
          refine wpQuiet_nil ?_
          intro _ hw'
          obtain ⟨⟨dq, osq⟩, hw''⟩ := hw'
          subst hw''
          have BZ := Lib.hid (below_step BI.out (below_regrown wi dq osq))
          clear o1 o2' o3 QW1 QW2 QK QL
          dsimp only at BZ ⊢
          generalize grow (redrawn wi dq) osq = wy2 at *
          go_wp2_with fail
          go_roundw
          case rel => exact ⟨k + 1, by omega, by go_num, BZ.out⟩
          case measure => simp [intOf]; omega
        · have QW2 := Lib.hid (regrown_call (w := wi) fun V' hV => walk_any (D.out.below (below_step BI.out hV)) xz HW.out.2.2 (HS.out.below (B.out.trans ((below_step BI.out hV).mono B.out.size))) (Nat.le_trans B.out.size (below_step BI.out hV).size))
          have HW2 : Hid (walkD L xz s = v) := HWK.out.symm.trans HV.out
          rw [HW2.out] at QW2
          clear HW2
          go_upto_region 26 with fail
          refine wp_region_quiet_below (by kernel_rfl) (by kernel_rfl) ?_
          repeat (go_big_quiet_step (first | (go_at_call 11; with_reducible exact QW1.out _ _) | (go_at_call 11; with_reducible exact QW2.out _ _) | (go_at_call 12; with_reducible exact QK.out _ _) | (go_at_call 13; with_reducible exact QL.out _ _)))
          refine wpQuiet_nil ?_
          intro _ hw'
          obtain ⟨⟨dq, osq⟩, hw''⟩ := hw'
          subst hw''
          have BZ := Lib.hid (below_step BI.out (below_regrown wi dq osq))
          clear o1 o2' o3 QW1 QW2 QK QL
          dsimp only at BZ ⊢
          generalize grow (redrawn wi dq) osq = wy2 at *
          go_wp2_with fail
          go_roundw
          case rel => exact ⟨k + 1, by omega, by go_num, BZ.out⟩
          case measure => simp [intOf]; omega
end Go.Proofs.Ytipeefehhaffkaa
