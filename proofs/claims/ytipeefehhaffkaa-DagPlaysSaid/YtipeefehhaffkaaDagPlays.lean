/- DagPlays, walked (gen16plays.py). -/
import Derived.Test.YtipeefehhaffkaaDagRunsW
import Derived.Test.YtipeefehhaffkaaDagAsk
import Derived.Test.YtipeefehhaffkaaDagRefM
import Derived.Test.YtipeefehhaffkaaDagRefW
import Derived.Test.YtipeefehhaffkaaDagRefS
import Derived.Lib.MinMax
set_option linter.unusedVariables false
namespace Go.Proofs.Ytipeefehhaffkaa
open Go.RowKit Go.Sort

/-- Both diagrams, of the same branches, apart from each other. -/
def Both (w : World) (base g g2 : Nat) (m : Int) (n : Nat) (L : List Br) : Prop :=
  ∃ A1 c1 A2 c2, DgAt 57 w base g m A1 n c1 L ∧ DgAt 41 w base g2 m A2 n c2 L ∧ ∀ b, Ft g (.slice A1 n c1) b → ¬ Ft g2 (.slice A2 n c2) b
theorem Both.below {w w' : World} {base g g2 : Nat} {m : Int} {n : Nat} {L : List Br} (h : Both w base g g2 m n L) (hb : Below w.heap.size w w') : Both w' base g g2 m n L := by
  obtain ⟨A1, c1, A2, c2, h1, h2, h3⟩ := h
  exact ⟨A1, c1, A2, c2, h1.below hb, h2.below hb, h3⟩
theorem regrown_call {P : Program} {f : FuncId} {args : Array Value} {w : World} {v : Value} (h : ∀ W, Below w.heap.size w W → Calls P f args W fun e w' => e = .returned v ∧ Below W.heap.size W w') (d : Nat) (os : Array Obj) : Calls P f args (grow (redrawn w d) os) fun e w'' => e = .returned v ∧ ∃ p : Regrown, w'' = grow (redrawn w p.d) p.os :=
  Calls.regrown_of (h _ (below_regrown w d os))
theorem make_in {m : Int} {L : List Br} {b : Br} (hb : b.ok) (hl : L.length ≤ 2000) : InI (makeD m L b).1 := by
  unfold makeD
  split
  · unfold InI; simp only; omega
  · split
    · exact hb.2.1
    · split
      · rename_i h
        have h1 : placeD L b ≤ L.length := List.findIdx_le_length
        unfold InI
        simp only
        omega
      · split
        · unfold InI; simp only; omega
        · unfold InI; simp only; omega
set_option maxRecDepth 100000 in
set_option maxHeartbeats 25600000 in
theorem dagPlays_walk (W : World) (m : Int) (hm : (Lit.int .i64 m).wf = true) (A : Option Addr) (n c : Nat) (h : ∃ l, Aks W (fun _ => True) A n c l) (A2 : Option Addr) (n2 c2 : Nat) (h2 : ∃ s, Sl W W.heap.size A2 n2 c2 (nv s)) (r : Int) (hr : (Lit.int .i64 r).wf = true) :
    Calls Try.prog 4 #[.int .i64 m, .slice A n c, .slice A2 n2 c2, .int .i64 r] W fun e w' => e = .returned (.bool true) ∧ Below W.heap.size W w' := by
  obtain ⟨l, hl⟩ := h
  obtain ⟨s0, hs0⟩ := h2
  have hri : InI r := wf_bounds hr
  by_cases hbad : ¬ (1 ≤ m ∧ m ≤ 2000)
  · have hnew := new_bad m W hbad
    clear hl hs0
    by_cases h1 : m < 1
    · clear hbad
      go_enter Try.func4, Try.ntmps4
      go_wp2_with fail
      refine hnew.mono ?_
      rintro e w1 ⟨rfl, hw⟩
      rw [hw]
      clear hw
      go_wp2_with fail
      refine (dagruns_any _).mono ?_
      rintro e wf ⟨rfl, hb⟩
      have B := Lib.hid hb
      clear hb
      go_wp2_with fail
      go_ret
      exact ⟨rfl, B.out⟩
    · have h2 : 2000 < m := by omega
      clear hbad
      go_enter Try.func4, Try.ntmps4
      go_wp2_with fail
      refine hnew.mono ?_
      rintro e w1 ⟨rfl, hw⟩
      rw [hw]
      clear hw
      go_wp2_with fail
      refine (dagruns_any _).mono ?_
      rintro e wf ⟨rfl, hb⟩
      have B := Lib.hid hb
      clear hb
      go_wp2_with fail
      go_ret
      exact ⟨rfl, B.out⟩
  have hm1 : 1 ≤ m := by omega
  have hm2 : m ≤ 2000 := by omega
  clear hbad
  have hle := Rw.le hl
  have hcap := Rw.cap hl
  have hle2 := hs0.le
  have hcap2 := hs0.cap
  unfold maxLen at hcap hcap2
  have HK := Lib.hid hl
  obtain ⟨N, hN⟩ : ∃ N : Nat, min (n2 : Int) 20 = (N : Int) := ⟨(min (n2 : Int) 20).toNat, by omega⟩
  have hN2 : N ≤ n2 := by omega
  have hs1 := hs0.take hN2
  rw [show (nv s0).take N = nv (s0.take N) by simp [nv, List.map_take]] at hs1
  obtain ⟨s, hse⟩ : ∃ s, s0.take N = s := ⟨_, rfl⟩
  rw [hse] at hs1
  have HS := Lib.hid hs1
  have HRI := Lib.hid hri
  clear hl hs0 hs1 hse hri
  go_enter Try.func4, Try.ntmps4
  go_wp2_with fail
  refine (new_at m hm1 hm2 (Nat.le_refl _)).mono ?_
  rintro e w1 ⟨g, rfl, hd, hb⟩
  have hfour : ¬ m < 1 := by omega
  have hfive : ¬ 2000 < m := by omega
  have P0 : Hid (Both (w1.alloc (.cells #[.int .i64 m, .slice none 0 0] 41)) W.heap.size g w1.heap.size m 0 []) := by
    refine ⟨none, 0, none, 0, hd.below (below1 _ _), DgAt.new_ hb.size hm1 hm2, fun b h1 h2 => ?_⟩
    have h1 := (hd.lt b h1).2
    rcases h2 with e | e
    · omega
    · simp [Value.ownBlock] at e
  have B0 := Lib.hid (Below.up hb hb.size (below1 w1 (.cells #[.int .i64 m, .slice none 0 0] 41)))
  clear hd hb
  obtain ⟨w2, hw2⟩ : ∃ w2, w1.alloc (.cells #[.int .i64 m, .slice none 0 0] 41) = w2 := ⟨_, rfl⟩
  obtain ⟨g2, hg2⟩ : ∃ g2, w1.heap.size = g2 := ⟨_, rfl⟩
  rw [hw2] at P0 B0
  rw [hg2] at P0
  have HW2 := Lib.hid hw2
  have HG2 := Lib.hid hg2
  clear hw2 hg2
  go_wp2_with fail
  try rw [HW2.out]
  try rw [HG2.out]
  clear HW2 HG2
  go_loopw [12] (fun i wr => ∃ k : Nat, k ≤ 60 ∧ i = .int .i64 k ∧ (∃ n' L, Both wr W.heap.size g g2 m n' L) ∧ Below W.heap.size W wr) (fun i _ => 60 - (intOf i).toNat)
  case atStart => exact ⟨0, by omega, rfl, ⟨_, _, P0.out⟩, B0.out⟩
  case round =>
    clear P0 B0
    obtain ⟨wr0, hwr0⟩ : ∃ w2, w2 = wr := ⟨wr, rfl⟩
    subst hwr0
    obtain ⟨k, hk, rfl, ⟨nl, L, hd⟩, hb⟩ := hrel
    have P := Lib.hid hd
    have B := Lib.hid hb
    clear hd hb
    by_cases hin : k < n ∧ k < 60
    case neg =>
      have hout : ((k : Int) < (n : Int) → ¬ (k : Int) < 60) := fun h h2 => hin ⟨by omega, by omega⟩
      have HOUT := Lib.hid hout
      clear hin hout
      by_cases hkn : k < n
      · have hki : (k : Int) < (n : Int) := by omega
        have hk50 := HOUT.out hki
        clear hkn
        go_wp2_with fail
        refine (dagruns_any _).mono ?_
        rintro e wf ⟨rfl, hb⟩
        have B := Lib.hid (Below.up B.out (by have := B.out.size; omega) hb)
        clear hb
        go_wp2_with fail
        go_ret
        exact ⟨rfl, B.out⟩
      · have hki : ¬ (k : Int) < (n : Int) := by omega
        clear hkn
        go_wp2_with fail
        refine (dagruns_any _).mono ?_
        rintro e wf ⟨rfl, hb⟩
        have B := Lib.hid (Below.up B.out (by have := B.out.size; omega) hb)
        clear hb
        go_wp2_with fail
        go_ret
        exact ⟨rfl, B.out⟩
    obtain ⟨b, oo, q, hAx, hbl, hx, hok, x0, x1, x2, x3, x4⟩ := (HK.out.keep (Kept.all B.out _) (fun _ h _ => h)).at_ hin.1
    have hkn : (k : Int) < (n : Int) := by omega
    have hk60 : (k : Int) < 60 := by omega
    have HOK := Lib.hid hok
    obtain ⟨A3, c3, A4, c4, d1, d2, hap⟩ := P.out
    have HL1 := Lib.hid d1.few.1
    have hgl := d2.glt
    obtain ⟨e0, e1⟩ := d2.cells
    have D1 := Lib.hid d1
    have D2 := Lib.hid d2
    have AP := Lib.hid hap
    clear hx hok hin d1 d2 hap P
    have CX := Lib.hid (fun V (hV : Below wr0.heap.size wr0 V) => (⟨(World.cell?_of_block (hV.block _ hbl)).trans x0, (World.cell?_of_block (hV.block _ hbl)).trans x1, (World.cell?_of_block (hV.block _ hbl)).trans x2, (World.cell?_of_block (hV.block _ hbl)).trans x3, (World.cell?_of_block (hV.block _ hbl)).trans x4, (World.cell?_of_block (hV.block _ hgl)).trans e1⟩ : _ ∧ _ ∧ _ ∧ _ ∧ _ ∧ _))
    clear x0 x1 x2 x3 x4 e0 e1
    go_upto_region 11 with fail
    obtain ⟨bb, hbb⟩ : ∃ bb, mdA q nl = bb := ⟨_, rfl⟩
    have HBB := Lib.hid hbb
    have HBO : Hid bb.ok := by show bb.ok; rw [← hbb]; exact mdA_ok HOK.out HL1.out
    clear hbb
    go_cut [13] from 66 to 75 (fun t wx => ∃ gx, t = .pointer (some ⟨gx, 0, none⟩) ∧ Ob wx gx 30 #[.int .i64 bb.a, .int .i64 bb.x, .int .i64 bb.y, .int .i64 bb.z] ∧ wr0.heap.size ≤ gx ∧ Below wr0.heap.size wr0 wx)
    case first =>
      subst hAx
      have S0 : Hid (Below wr0.heap.size wr0 wr0) := Below.refl _ _
      refine wp_region_held_tail (fun w' => Below wr0.heap.size wr0 w') 11 (by kernel_rfl) (by kernel_rfl) ?_
      intro G
      change HeadW _ _ _ _ _ _ _ _ _ _ (wr0.drewN 1)
      have S := Lib.hid (below_drewN S0.out 1)
      generalize wr0.drewN 1 = y0 at *
      refine HeadW_take (i := 0) (v := ?_) G rfl (by kernel_rfl) (by kernel_rfl) (by kernel_rfl) (fun _ _ _ h => h) (Or.inl ⟨by rfl, ?_⟩) S.out ?_
      rotate_left
      · intro wz hS
        go_simp
        try with_reducible rfl
      refine HeadW_take (i := 1) (v := ?_) G rfl (by kernel_rfl) (by kernel_rfl) (by kernel_rfl) (fun _ _ _ h => h) (Or.inl ⟨by rfl, ?_⟩) S.out ?_
      rotate_left
      · intro wz hS
        go_simp
        try with_reducible rfl
      refine HeadW_take (i := 2) (v := ?_) G rfl (by kernel_rfl) (by kernel_rfl) (by kernel_rfl) (fun _ _ _ h => h) (Or.inl ⟨by rfl, ?_⟩) S.out ?_
      rotate_left
      · intro wz hS
        go_simp
        try with_reducible rfl
      refine HeadW_take (i := 3) (v := ?_) G rfl (by kernel_rfl) (by kernel_rfl) (by kernel_rfl) (fun _ _ _ h => h) (Or.inl ⟨by rfl, ?_⟩) S.out ?_
      rotate_left
      · intro wz hS
        obtain ⟨x0, x1, x2, x3, x4, x5⟩ := CX.out _ hS
        go_simp
        try with_reducible rfl
      refine HeadW_take (i := 4) (v := ?_) G rfl (by kernel_rfl) (by kernel_rfl) (by kernel_rfl) (fun _ _ _ h => h) (Or.inl ⟨by rfl, ?_⟩) S.out ?_
      rotate_left
      · intro wz hS
        go_simp
        try with_reducible rfl
      refine HeadW_take (i := 5) (v := ?_) G rfl (by kernel_rfl) (by kernel_rfl) (by kernel_rfl) (fun _ _ _ h => h) (Or.inl ⟨by rfl, ?_⟩) S.out ?_
      rotate_left
      · intro wz hS
        go_simp
        try with_reducible rfl
      refine HeadW_take (i := 6) (v := ?_) G rfl (by kernel_rfl) (by kernel_rfl) (by kernel_rfl) (fun _ _ _ h => h) (Or.inl ⟨by rfl, ?_⟩) S.out ?_
      rotate_left
      · intro wz hS
        go_simp
        try with_reducible rfl
      refine HeadW_take (i := 7) (v := ?_) G rfl (by kernel_rfl) (by kernel_rfl) (by kernel_rfl) (fun _ _ _ h => h) (Or.inl ⟨by rfl, ?_⟩) S.out ?_
      rotate_left
      · intro wz hS
        obtain ⟨x0, x1, x2, x3, x4, x5⟩ := CX.out _ hS
        go_simp
        try with_reducible rfl
      refine HeadW_take (i := 8) (v := ?_) G rfl (by kernel_rfl) (by kernel_rfl) (by kernel_rfl) (fun _ _ _ h => h) (Or.inl ⟨by rfl, ?_⟩) S.out ?_
      rotate_left
      · intro wz hS
        go_simp
        try with_reducible rfl
      refine HeadW_ready (rs := [9, 10]) (by kernel_rfl) rfl rfl ?_
      refine AllW.cons rfl (fun K hK => ?_) (AllW.cons rfl (fun K hK => ?_) AllW.nil)
      · go_simp
        refine (made_any q HOK.out nl HL1.out).mono ?_
        rintro e y1 ⟨rfl, hb⟩
        rw [HBB.out]
        simp only [Br.val]
        have S := Lib.hid (S.out.trans (hb.mono S.out.size))
        refine hK _ _ S.out ?_
        clear hK K hb
        refine HeadW_ready (rs := [10]) (by kernel_rfl) rfl rfl ?_
        refine AllW.cons rfl (fun K hK => ?_) AllW.nil
        go_simp
        refine hK _ _ (S.out.trans ((below1 y1 _).mono S.out.size)) ?_
        clear hK K
        have S2 := Lib.hid (S.out.trans ((below1 y1 (.cells #[.int .i64 bb.a, .int .i64 bb.x, .int .i64 bb.y, .int .i64 bb.z] 30)).mono S.out.size))
        have HSZ : Hid (wr0.heap.size ≤ y1.heap.size) := S.out.size
        intro _
        refine ⟨by kernel_rfl, ?_⟩
        simp only [List.drop_succ_cons, List.drop_zero]
        go_wp2_with fail
        go_meet
        exact ⟨_, rfl, Ob.made _ _ _, HSZ.out, S2.out⟩
      · go_simp
        have hb : Below y0.heap.size y0 (y0.alloc (.cells #[.int .i64 0, .int .i64 0, .int .i64 0, .int .i64 0] 30)) := below1 _ _
        have OZ : Hid (Ob (y0.alloc (.cells #[.int .i64 0, .int .i64 0, .int .i64 0, .int .i64 0] 30)) y0.heap.size 30 #[.int .i64 0, .int .i64 0, .int .i64 0, .int .i64 0]) := Ob.made _ _ _
        have HSZ : Hid (wr0.heap.size ≤ y0.heap.size) := S.out.size
        have S := Lib.hid (S.out.trans (hb.mono S.out.size))
        refine hK _ _ S.out ?_
        clear hK K hb
        generalize y0.alloc (.cells #[.int .i64 0, .int .i64 0, .int .i64 0, .int .i64 0] 30) = y1 at *
        obtain ⟨gx, hgx⟩ : ∃ gx, y0.heap.size = gx := ⟨_, rfl⟩
        rw [hgx] at OZ HSZ
        try rw [hgx]
        clear hgx
        refine HeadW_ready (rs := [9]) (by kernel_rfl) rfl rfl ?_
        refine AllW.cons rfl (fun K hK => ?_) AllW.nil
        go_simp
        refine (made_any q HOK.out nl HL1.out).mono ?_
        rintro e y2 ⟨rfl, hb⟩
        rw [HBB.out]
        simp only [Br.val]
        have OY := Lib.hid (OZ.out.below hb OZ.out.lt)
        have S := Lib.hid (S.out.trans (hb.mono S.out.size))
        refine hK _ _ S.out ?_
        clear hK K hb OZ
        have z0 := OY.out.cell 0
        have z1 := OY.out.cell 1
        have z2 := OY.out.cell 2
        have z3 := OY.out.cell 3
        have f0 := OY.out.frozen 0
        have f1 := OY.out.frozen 1
        have f2 := OY.out.frozen 2
        have f3 := OY.out.frozen 3
        simp at z0 z1 z2 z3
        have PP : Hid (Ob ((((y2.setCell ⟨gx, 0, none⟩ (.int .i64 bb.a)).setCell ⟨gx, 1, none⟩ (.int .i64 bb.x)).setCell ⟨gx, 2, none⟩ (.int .i64 bb.y)).setCell ⟨gx, 3, none⟩ (.int .i64 bb.z)) gx 30 #[.int .i64 bb.a, .int .i64 bb.x, .int .i64 bb.y, .int .i64 bb.z]) := (((OY.out.put 0 (.int .i64 bb.a)).put 1 (.int .i64 bb.x)).put 2 (.int .i64 bb.y)).put 3 (.int .i64 bb.z)
        have S2 := Lib.hid (S.out.trans (((((Only.refl (w := y2) (r := gx)).setCell (p := ⟨gx, 0, none⟩) rfl (.int .i64 bb.a)).setCell (p := ⟨gx, 1, none⟩) rfl (.int .i64 bb.x)).setCell (p := ⟨gx, 2, none⟩) rfl (.int .i64 bb.y)).setCell (p := ⟨gx, 3, none⟩) rfl (.int .i64 bb.z) |>.below S.out.size HSZ.out))
        intro _
        refine ⟨by kernel_rfl, ?_⟩
        simp only [List.drop_succ_cons, List.drop_zero]
        go_wp2_with fail
        go_meet
        exact ⟨_, rfl, PP.out, HSZ.out, S2.out⟩
    case rest =>
    obtain ⟨gx, rfl, ho, hgx, hb⟩ := hcut
    clear hAx hbl CX
    have NF1 := Lib.hid (fun b (hb : Ft g (.slice A3 nl c3) b) => (D1.out.lt b hb).2)
    have NF2 := Lib.hid (fun b (hb : Ft g2 (.slice A4 nl c4) b) => (D2.out.lt b hb).2)
    have OX := Lib.hid ho
    have GX := Lib.hid hgx
    have D1 := Lib.hid (D1.out.below hb)
    have D2 := Lib.hid (D2.out.below hb)
    have B := Lib.hid (Below.up B.out (by have := B.out.size; omega) hb)
    clear ho hgx hb
    have z0 := OX.out.cell 0
    have z1 := OX.out.cell 1
    have z2 := OX.out.cell 2
    have z3 := OX.out.cell 3
    simp at z0 z1 z2 z3
    obtain ⟨v, ee, L2, hmd⟩ : ∃ v ee L2, makeD m L bb = (v, ee, L2) := ⟨_, _, _, rfl⟩
    have HVI : Hid (InI v) := by have := make_in (m := m) (L := L) HBO.out (by rw [D1.out.len]; exact HL1.out); rw [hmd] at this; exact this
    have HMD := Lib.hid hmd
    clear hmd
    go_wp2_with fail
    refine (make_any D1.out bb HBO.out).mono ?_
    rintro e w4 ⟨A5, n5, c5, rfl, hd, hmk⟩
    rw [HMD.out] at hd
    rw [HMD.out]
    have OX4 := Lib.hid (OX.out.keep (hmk.2.2.1 gx OX.out.lt (fun hf => by have := NF1.out gx hf; have := GX.out; omega)))
    have AP4 := Lib.hid (hmk.apart (G := Ft g2 (.slice A4 nl c4)) (fun b hb => (D2.out.lt b hb).2) AP.out)
    have D24 := Lib.hid (D2.out.keep (hmk.kept (R := Ft g2 (.slice A4 nl c4)) (fun b hb _ hf => AP.out b hf hb)))
    have B4 := Lib.hid (B.out.trans (hmk.below D1.out.2.2.1.2 (fun k hk => (D1.out.lt k hk).1)))
    have D14 := Lib.hid hd
    clear hd hmk z0 z1 z2 z3
    have z0 := OX4.out.cell 0
    have z1 := OX4.out.cell 1
    have z2 := OX4.out.cell 2
    have z3 := OX4.out.cell 3
    simp at z0 z1 z2 z3
    go_wp2_with fail
    refine (rmake_any D24.out bb HBO.out).mono ?_
    rintro e w5 ⟨A6, n6, c6, rfl, hd, hmk⟩
    rw [HMD.out] at hd
    rw [HMD.out]
    obtain rfl : n6 = n5 := by rw [← hd.len, ← D14.out.len]
    have AP5 := Lib.hid (hmk.apart (G := Ft g (.slice A5 n6 c5)) (fun b hb => (D14.out.lt b hb).2) (fun b hb hg => AP4.out b hg hb))
    have D15 := Lib.hid (D14.out.keep (hmk.kept (R := Ft g (.slice A5 n6 c5)) (fun b hb _ hf => AP4.out b hb hf)))
    have B5 := Lib.hid (B4.out.trans (hmk.below D24.out.2.2.1.2 (fun k hk => (D24.out.lt k hk).1)))
    have D25 := Lib.hid hd
    clear hd hmk z0 z1 z2 z3 OX OX4 D1 D2 D14 D24 B B4 AP AP4 NF1 NF2 HMD
    simp only
    go_upto_region 14 with fail
    have e1 := fun d os => cell_regrown D25.out.cells.2 d os
    have QL := Lib.hid (regrown_call (w := w5) fun V' hV => (len_any (D15.out.below hV)).mono fun e w' ⟨he, hw⟩ => ⟨he, by rw [← hw]; exact Below.refl _ _⟩)
    refine wp_region_quiet_below (by kernel_rfl) (by kernel_rfl) ?_
    repeat (go_big_quiet_step ((go_at_call 13; with_reducible exact QL.out _ _)))
    refine wpQuiet_nil ?_
    intro _ hw'
    obtain ⟨⟨dq, osq⟩, hw''⟩ := hw'
    subst hw''
    have B6 := Lib.hid (Below.up B5.out (by have := B5.out.size; omega) (below_regrown w5 dq osq))
    have D16 := Lib.hid (D15.out.below (below_regrown w5 dq osq))
    have D26 := Lib.hid (D25.out.below (below_regrown w5 dq osq))
    clear e1 QL B5 D15 D25
    dsimp only at B6 D16 D26 ⊢
    generalize grow (redrawn w5 dq) osq = w6 at *
    have hf6 := D16.out.few
    have e1 := D26.out.cells.2
    have hwn : IntKind.i64.wrap ((n6 : Int) - 1) = (n6 : Int) - 1 := by rw [IntKind.wrap_i64]; omega
    have hwk : IntKind.i64.wrap (-1 - (k : Int)) = -1 - (k : Int) := by rw [IntKind.wrap_i64]; omega
    have HZ : Hid (Sl (w6.alloc (.cells #[.int .i64 v, .int .i64 r, .int .i64 ((n6 : Int) - 1), .int .i64 (-1 - (k : Int))] 3)) (w6.heap.size + 1) (some ⟨w6.heap.size, 0, none⟩) 4 4 (nv [v, r, (n6 : Int) - 1, -1 - (k : Int)])) := Sl.lit w6 3 [.int .i64 v, .int .i64 r, .int .i64 ((n6 : Int) - 1), .int .i64 (-1 - (k : Int))] 4 rfl (by simp [maxLen])
    have HZI : Hid (∀ t x, ([v, r, (n6 : Int) - 1, -1 - (k : Int)] : List Int)[t]? = some x → InI x) := fun t x hx => by
      have h1 := HVI.out
      have h2 := HRI.out
      have h3 : InI ((n6 : Int) - 1) := by unfold InI; omega
      have h4 : InI (-1 - (k : Int)) := by unfold InI; omega
      have hm := List.mem_of_getElem? hx
      simp only [List.mem_cons, List.not_mem_nil, or_false] at hm
      rcases hm with rfl | rfl | rfl | rfl <;> assumption
    have BU := Lib.hid (Below.up B6.out (by have := B6.out.size; omega) (below1 w6 (.cells #[.int .i64 v, .int .i64 r, .int .i64 ((n6 : Int) - 1), .int .i64 (-1 - (k : Int))] 3)))
    have D17 := Lib.hid (D16.out.below (below1 w6 (.cells #[.int .i64 v, .int .i64 r, .int .i64 ((n6 : Int) - 1), .int .i64 (-1 - (k : Int))] 3)))
    have D27 := Lib.hid (D26.out.below (below1 w6 (.cells #[.int .i64 v, .int .i64 r, .int .i64 ((n6 : Int) - 1), .int .i64 (-1 - (k : Int))] 3)))
    obtain ⟨U, hU⟩ : ∃ U, w6.alloc (.cells #[.int .i64 v, .int .i64 r, .int .i64 ((n6 : Int) - 1), .int .i64 (-1 - (k : Int))] 3) = U := ⟨_, rfl⟩
    obtain ⟨gz, hgz⟩ : ∃ gz, w6.heap.size = gz := ⟨_, rfl⟩
    have HGZ : Hid (gz + 1 ≤ U.heap.size) := by show _ ≤ _; rw [← hU, size_al, hgz]; exact Nat.le_refl _
    rw [hU] at HZ BU D17 D27
    rw [hgz] at HZ
    have HU := Lib.hid hU
    have HGE := Lib.hid hgz
    obtain ⟨zs, hzs⟩ : ∃ zs, [v, r, (n6 : Int) - 1, -1 - (k : Int)] = zs := ⟨_, rfl⟩
    rw [hzs] at HZ HZI
    clear hU hgz hzs D16 D26 B6
    go_wp2_with fail
    try rw [HU.out]
    try rw [HGE.out]
    clear HU HGE hwn hwk e1
    go_loopw [118] (fun i wr => ∃ t : Nat, t ≤ 4 ∧ i = .int .i64 t ∧ Below U.heap.size U wr) (fun i _ => 4 - (intOf i).toNat)
    case atStart => exact ⟨0, by omega, rfl, Below.refl _ _⟩
    case round =>
      obtain ⟨wi, hwi⟩ : ∃ w2, w2 = wr := ⟨wr, rfl⟩
      subst hwi
      obtain ⟨t, ht, rfl, hb⟩ := hrel
      have BI := Lib.hid hb
      clear hb
      by_cases h4 : t = 4
      case pos =>
        subst h4
        have PF := Lib.hid (show Both wi W.heap.size g g2 m n6 L2 from ⟨A5, c5, A6, c6, D17.out.below BI.out, D27.out.below BI.out, fun b h1 h2 => AP5.out b h2 h1⟩)
        have BF := Lib.hid (Below.up BU.out (by have := BU.out.size; omega) BI.out)
        go_wp2_with fail
        go_roundw
        case rel => exact ⟨k + 1, by omega, by go_num, ⟨_, _, PF.out⟩, BF.out⟩
        case measure => simp [intOf]; omega
      obtain ⟨bz, oz, x, hAz, hbz, hzx, x0⟩ := (HZ.out.below (BI.out.mono HGZ.out)).num (k := t) (by omega)
      injection hAz with hAz
      injection hAz with hAz hoz
      subst hAz hoz
      have HXI := Lib.hid (HZI.out t x hzx)
      clear hzx
      have htI : (t : Int) < 4 := by omega
      have CW1 := Lib.hid (fun V' (hV : Below U.heap.size U V') => walk_any (D17.out.below hV) x HXI.out (HS.out.below (BU.out.trans (hV.mono BU.out.size))) (Nat.le_trans BU.out.size hV.size))
      have CW2 := Lib.hid (fun V' (hV : Below U.heap.size U V') => rwalk_any (D27.out.below hV) x HXI.out (HS.out.below (BU.out.trans (hV.mono BU.out.size))) (Nat.le_trans BU.out.size hV.size))
      have CS1 := Lib.hid (fun V' (hV : Below U.heap.size U V') => size_any (D17.out.below hV) x HXI.out)
      have CS2 := Lib.hid (fun V' (hV : Below U.heap.size U V') => rsize_any (D27.out.below hV) x HXI.out)
      have CB := Lib.hid (fun V' (hV : Below U.heap.size U V') => branch_any (D17.out.below hV) x HXI.out)
      obtain ⟨vw, hvw⟩ : ∃ v, walkD L2 x s = v := ⟨_, rfl⟩
      obtain ⟨vs, hvs⟩ : ∃ v, sizeD L2 x = v := ⟨_, rfl⟩
      rw [hvw] at CW1 CW2
      rw [hvs] at CS1 CS2
      clear hvw hvs
      simp only [Nat.zero_add] at x0
      go_wp2_with fail
      refine (CW1.out _ BI.out).mono ?_
      rintro e wj1 ⟨rfl, hb⟩
      have BI := Lib.hid (below_step BI.out hb)
      clear hb x0
      go_wp2_with fail
      refine (CW2.out _ BI.out).mono ?_
      rintro e wj2 ⟨rfl, hb⟩
      have BI := Lib.hid (below_step BI.out hb)
      clear hb
      go_wp2_with fail
      refine (CS1.out _ BI.out).mono ?_
      rintro e wj3 ⟨rfl, hb⟩
      have BI := Lib.hid (below_step BI.out hb)
      clear hb
      go_wp2_with fail
      refine (CS2.out _ BI.out).mono ?_
      rintro e wj4 ⟨rfl, hb⟩
      have BI := Lib.hid (below_step BI.out hb)
      clear hb CW1 CW2 CS1 CS2
      have CBI := Lib.hid (CB.out _ BI.out)
      clear CB
      have HLN := Lib.hid D17.out.len
      by_cases hxin : 0 ≤ x ∧ x < n6
      · obtain ⟨p, rfl⟩ : ∃ p : Nat, x = (p : Int) := ⟨x.toNat, by omega⟩
        obtain ⟨y, hy⟩ : ∃ y, L2[p]? = some y := ⟨_, List.getElem?_eq_getElem (by have := HLN.out; omega)⟩
        have HY := Lib.hid hy
        rw [(brD_in hy).1, (brD_in hy).2] at CBI
        clear hy
        obtain ⟨ya, yx, yy, yz⟩ := y
        simp only [Br.val] at CBI
        go_wp2_with fail
        refine CBI.out.mono ?_
        rintro e wj5 ⟨rfl, hb⟩
        have BI := Lib.hid (below_step BI.out hb)
        clear hb
        have OB : Hid (Ob (wj5.alloc (.cells #[.int .i64 ya, .int .i64 yx, .int .i64 yy, .int .i64 yz] 30)) wj5.heap.size 30 #[.int .i64 ya, .int .i64 yx, .int .i64 yy, .int .i64 yz]) := Ob.made _ _ _
        have BI := Lib.hid (below_step BI.out (below1 wj5 (.cells #[.int .i64 ya, .int .i64 yx, .int .i64 yy, .int .i64 yz] 30)))
        go_upto_region 22 with fail
        obtain ⟨V, hV⟩ : ∃ V, wj5.alloc (.cells #[.int .i64 ya, .int .i64 yx, .int .i64 yy, .int .i64 yz] 30) = V := ⟨_, rfl⟩
        obtain ⟨gy, hgy⟩ : ∃ gy, wj5.heap.size = gy := ⟨_, rfl⟩
        rw [hV] at OB BI
        rw [hgy] at OB
        rw [hV, hgy]
        clear hV hgy
        obtain ⟨bq, oq, y2, hAq, hbq, hy2, _, q0, q1, q2, q3⟩ := (D27.out.below BI.out).at_ (k := p) (by omega)
        obtain rfl := Option.some.inj (HY.out.symm.trans hy2)
        simp only at q0 q1 q2 q3
        have e1 := fun d os => cell_regrown (D27.out.below BI.out).cells.2 d os
        rw [hAq] at e1
        have q0 := fun d os => cell_regrown q0 d os
        have q1 := fun d os => cell_regrown q1 d os
        have q2 := fun d os => cell_regrown q2 d os
        have q3 := fun d os => cell_regrown q3 d os
        have y0 := OB.out.cell 0
        have y1 := OB.out.cell 1
        have y2 := OB.out.cell 2
        have y3 := OB.out.cell 3
        simp at y0 y1 y2 y3
        have y0 := fun d os => cell_regrown y0 d os
        have y1 := fun d os => cell_regrown y1 d os
        have y2 := fun d os => cell_regrown y2 d os
        have y3 := fun d os => cell_regrown y3 d os
        have hve := br_eq ⟨ya, yx, yy, yz⟩ ⟨ya, yx, yy, yz⟩
        simp only [decide_true] at hve
        have hpI : (p : Int) < (n6 : Int) := hxin.2
        have hp0 : (0 : Int) ≤ (p : Int) := hxin.1
        clear hAq hy2 hxin
        refine wp_region_quiet_below (by kernel_rfl) (by kernel_rfl) ?_
        repeat (go_big_quiet_step (fail))
        refine wpQuiet_nil ?_
        intro _ hw'
        obtain ⟨⟨dq2, osq2⟩, hw''⟩ := hw'
        subst hw''
        have BZ := Lib.hid (below_step BI.out (below_regrown V dq2 osq2))
        clear q0 q1 q2 q3 y0 y1 y2 y3 e1 hve
        dsimp only at BZ ⊢
        generalize grow (redrawn V dq2) osq2 = w9 at *
        go_wp2_with fail
        go_roundw
        case rel => exact ⟨t + 1, by omega, by go_num, BZ.out⟩
        case measure => simp [intOf]; omega
      · have hout := brD_out (l := L2) (i := x) (by rw [HLN.out]; exact hxin)
        rw [hout.1, hout.2] at CBI
        clear hout
        simp only [Br.val] at CBI
        go_wp2_with fail
        refine CBI.out.mono ?_
        rintro e wj5 ⟨rfl, hb⟩
        have BI := Lib.hid (below_step BI.out hb)
        clear hb
        have OB : Hid (Ob (wj5.alloc (.cells #[.int .i64 0, .int .i64 0, .int .i64 0, .int .i64 0] 30)) wj5.heap.size 30 #[.int .i64 0, .int .i64 0, .int .i64 0, .int .i64 0]) := Ob.made _ _ _
        have BI := Lib.hid (below_step BI.out (below1 wj5 (.cells #[.int .i64 0, .int .i64 0, .int .i64 0, .int .i64 0] 30)))
        go_upto_region 22 with fail
        obtain ⟨V, hV⟩ : ∃ V, wj5.alloc (.cells #[.int .i64 0, .int .i64 0, .int .i64 0, .int .i64 0] 30) = V := ⟨_, rfl⟩
        obtain ⟨gy, hgy⟩ : ∃ gy, wj5.heap.size = gy := ⟨_, rfl⟩
        rw [hV] at OB BI
        rw [hgy] at OB
        rw [hV, hgy]
        clear hV hgy
        have e1 := fun d os => cell_regrown (D27.out.below BI.out).cells.2 d os
        have y0 := OB.out.cell 0
        have y1 := OB.out.cell 1
        have y2 := OB.out.cell 2
        have y3 := OB.out.cell 3
        simp at y0 y1 y2 y3
        have y0 := fun d os => cell_regrown y0 d os
        have y1 := fun d os => cell_regrown y1 d os
        have y2 := fun d os => cell_regrown y2 d os
        have y3 := fun d os => cell_regrown y3 d os
        have hve := br_eq ⟨0, 0, 0, 0⟩ ⟨0, 0, 0, 0⟩
        simp only [decide_true] at hve
        by_cases hx0 : 0 ≤ x
        · have hx1 : ¬ x < (n6 : Int) := fun h => hxin ⟨hx0, h⟩
          clear hxin
          refine wp_region_quiet_below (by kernel_rfl) (by kernel_rfl) ?_
          repeat (go_big_quiet_step (fail))
          refine wpQuiet_nil ?_
          intro _ hw'
          obtain ⟨⟨dq2, osq2⟩, hw''⟩ := hw'
          subst hw''
          have BZ := Lib.hid (below_step BI.out (below_regrown V dq2 osq2))
          clear y0 y1 y2 y3 e1 hve
          dsimp only at BZ ⊢
          generalize grow (redrawn V dq2) osq2 = w9 at *
          go_wp2_with fail
          go_roundw
          case rel => exact ⟨t + 1, by omega, by go_num, BZ.out⟩
          case measure => simp [intOf]; omega
        · clear hxin
          refine wp_region_quiet_below (by kernel_rfl) (by kernel_rfl) ?_
          repeat (go_big_quiet_step (fail))
          refine wpQuiet_nil ?_
          intro _ hw'
          obtain ⟨⟨dq2, osq2⟩, hw''⟩ := hw'
          subst hw''
          have BZ := Lib.hid (below_step BI.out (below_regrown V dq2 osq2))
          clear y0 y1 y2 y3 e1 hve
          dsimp only at BZ ⊢
          generalize grow (redrawn V dq2) osq2 = w9 at *
          go_wp2_with fail
          go_roundw
          case rel => exact ⟨t + 1, by omega, by go_num, BZ.out⟩
          case measure => simp [intOf]; omega
end Go.Proofs.Ytipeefehhaffkaa
