/- The diagram's Make. -/
import Derived.Test.YtipeefehhaffkaaDagW2
import Derived.Test.YtipeefehhaffkaaHTail
import Derived.Test.YtipeefehhaffkaaOperApp
import Derived.Deep.CutRange
namespace Go.Proofs.Ytipeefehhaffkaa
set_option linter.unusedVariables false
open Go.RowKit Go.Sort

theorem makeD_bad {most : Int} {l : List Br} {b : Br} (h : ¬ MakeOk l b) : makeD most l b = (0, 1, l) := by unfold makeD; rw [if_pos h]
theorem makeD_same {most : Int} {l : List Br} {b : Br} (h : MakeOk l b) (h2 : b.x = b.y ∧ b.y = b.z) : makeD most l b = (b.x, 0, l) := by unfold makeD; rw [if_neg (not_not_intro h), if_pos h2]
theorem makeD_old {most : Int} {l : List Br} {b : Br} (h : MakeOk l b) (h2 : ¬ (b.x = b.y ∧ b.y = b.z)) (h3 : b ∈ l) : makeD most l b = ((placeD l b : Int), 0, l) := by unfold makeD; rw [if_neg (not_not_intro h), if_neg h2, if_pos h3]
theorem makeD_full {most : Int} {l : List Br} {b : Br} (h : MakeOk l b) (h2 : ¬ (b.x = b.y ∧ b.y = b.z)) (h3 : b ∉ l) (h4 : most ≤ l.length) : makeD most l b = (0, 6, l) := by unfold makeD; rw [if_neg (not_not_intro h), if_neg h2, if_neg h3, if_pos h4]
theorem makeD_new {most : Int} {l : List Br} {b : Br} (h : MakeOk l b) (h2 : ¬ (b.x = b.y ∧ b.y = b.z)) (h3 : b ∉ l) (h4 : ¬ most ≤ l.length) : makeD most l b = ((l.length : Int), 0, l ++ [b]) := by unfold makeD; rw [if_neg (not_not_intro h), if_neg h2, if_neg h3, if_neg h4]
/-- What a call of Make comes to. -/
def Madeq (T : TypeId) (w : World) (base g : Nat) (most : Int) (A : Option Addr) (n c : Nat) (l : List Br) (b : Br) (e : Ending) (w' : World) : Prop :=
  ∃ A' n' c', e = .returned (.tuple #[.int .i64 (makeD most l b).1, .int .i64 (makeD most l b).2.1]) ∧ DgAt T w' base g most A' n' c' (makeD most l b).2.2 ∧ Mkd (Ft g (.slice A n c)) (Ft g (.slice A' n' c')) w w'
theorem Madeq.same {T : TypeId} {w w' : World} {base g : Nat} {most : Int} {A : Option Addr} {n c : Nat} {l : List Br} {b : Br} {p q : Int} (h : DgAt T w base g most A n c l) (hb : Below w.heap.size w w') (hm : makeD most l b = (p, q, l)) :
    Madeq T w base g most A n c l b (.returned (.tuple #[.int .i64 p, .int .i64 q])) w' := by
  refine ⟨A, n, c, by rw [hm], ?_, Mkd.of_below hb⟩
  rw [hm]
  exact h.below hb
section
variable {w : World} {base g : Nat} {most : Int} {A : Option Addr} {n c : Nat} {l : List Br}
set_option maxRecDepth 100000 in
set_option maxHeartbeats 6400000 in
theorem make_any (h : DgAt 57 w base g most A n c l) (b : Br) (hb : b.ok) : Calls Try.prog 9 #[.pointer (some ⟨g, 0, none⟩), b.val] w (Madeq 57 w base g most A n c l b) := by
  have hf := h.few
  have hlen := h.len
  have hgl := h.glt
  have HM := Lib.hid h.dg
  have B0 := Lib.hid (below1 w (.cells #[.int .i64 b.a, .int .i64 b.x, .int .i64 b.y, .int .i64 b.z] 30))
  have O0 : Hid (Ob (w.alloc (.cells #[.int .i64 b.a, .int .i64 b.x, .int .i64 b.y, .int .i64 b.z] 30)) w.heap.size 30 #[.int .i64 b.a, .int .i64 b.x, .int .i64 b.y, .int .i64 b.z]) := Ob.made _ _ _
  have H := Lib.hid (h.below B0.out)
  have H0 := Lib.hid h
  have HL := Lib.hid hlen
  obtain ⟨W0, hW⟩ : ∃ W, w.alloc (.cells #[.int .i64 b.a, .int .i64 b.x, .int .i64 b.y, .int .i64 b.z] 30) = W := ⟨_, rfl⟩
  obtain ⟨gb, hgb⟩ : ∃ gb, w.heap.size = gb := ⟨_, rfl⟩
  have HGB : Hid (g < gb) := by show _ < _; rw [← hgb]; exact hgl
  have HW := Lib.hid hW
  have HGBE := Lib.hid hgb
  have HB0 := Lib.hid hb
  rw [hW] at B0 O0 H
  rw [hgb] at O0
  have HC := Lib.hid (right_all H.out b hb)
  clear h hlen hb hgl
  obtain ⟨q, hq⟩ : ∃ q, decide (MakeOk l b) = q := ⟨_, rfl⟩
  have HQ := Lib.hid hq
  rw [hq] at HC
  have z := O0.out
  have z0 := z.cell 0
  have z1 := z.cell 1
  have z2 := z.cell 2
  have z3 := z.cell 3
  simp at z0 z1 z2 z3
  have Z0 := Lib.hid z0
  have Z1 := Lib.hid z1
  have Z2 := Lib.hid z2
  have Z3 := Lib.hid z3
  clear z z0 z1 z2 z3 hq
  simp only [Br.val] at *
  go_enter Try.func9, Try.ntmps9
  go_upto_region 1 with fail
  try rw [hW]
  try rw [hgb]
  clear hW hgb
  have z0 := Z0.out
  have z1 := Z1.out
  have z2 := Z2.out
  have z3 := Z3.out
  go_wp2_with fail
  refine HC.out.mono ?_
  rintro e w1 ⟨rfl, hb⟩
  have HX := Lib.hid hb
  have O1 := Lib.hid (O0.out.below hb O0.out.lt)
  have H1 := Lib.hid (H.out.below hb)
  have B1 := Lib.hid (below_step B0.out hb)
  clear hb z0 z1 z2 z3 Z0 Z1 Z2 Z3
  have z0 := O1.out.cell 0
  have z1 := O1.out.cell 1
  have z2 := O1.out.cell 2
  have z3 := O1.out.cell 3
  simp at z0 z1 z2 z3
  cases q
  · have HE := Lib.hid (makeD_bad (most := most) (of_decide_eq_false HQ.out))
    clear HQ
    go_wp2_with fail
    go_ret2
    exact Madeq.same H0.out B1.out HE.out
  · have HOK : Hid (MakeOk l b) := by show MakeOk l b; exact of_decide_eq_true HQ.out
    clear HQ
    by_cases hs : b.x = b.y ∧ b.y = b.z
    · have HE := Lib.hid (makeD_same (most := most) HOK.out hs)
      obtain ⟨s1, s2⟩ := hs
      have e1 : (b.x == b.y) = true := by simpa using s1
      have e2 : (b.y == b.z) = true := by simpa using s2
      clear s1 s2
      go_wp2_with fail
      go_ret2
      exact Madeq.same H0.out B1.out HE.out
    have HS := Lib.hid hs
    clear hs
    go_upto_region 3 with fail
    go_cut [26] from 11 to 26 (fun s wx => s = .bool false ∧ wx = w1)
    case first =>
      by_cases s1 : b.x = b.y
      · have s2 : ¬ b.y = b.z := fun e => HS.out ⟨s1, e⟩
        have e1 : (b.x == b.y) = true := by simpa using s1
        have e2 : (b.y == b.z) = false := by simpa using s2
        clear s1 s2
        go_wp2_with fail
        go_meet
        exact ⟨rfl, rfl⟩
      · have e1 : (b.x == b.y) = false := by simpa using s1
        clear s1
        go_wp2_with fail
        go_meet
        exact ⟨rfl, rfl⟩
    case rest =>
      obtain ⟨rfl, hwx⟩ := hcut
      rw [hwx]
      clear hwx
      go_upto_region 5 with fail
      obtain ⟨vv, hvv⟩ : ∃ v : Int, (if b ∈ l then (placeD l b : Int) else -1) = v := ⟨_, rfl⟩
      have HVV : Hid (_ = vv) := hvv
      have QI := Lib.hid (fun d os => Calls.regrown_of (index_any (H1.out.below (below_regrown w1 d os)) b))
      rw [hvv] at QI
      obtain ⟨c0, c1⟩ := H1.out.cells
      have x0 := fun d os => cell_regrown c0 d os
      have x1 := fun d os => cell_regrown c1 d os
      have y0 := fun d os => cell_regrown z0 d os
      have y1 := fun d os => cell_regrown z1 d os
      have y2 := fun d os => cell_regrown z2 d os
      have y3 := fun d os => cell_regrown z3 d os
      clear c0 c1 z0 z1 z2 z3 hvv
      simp only [Br.val] at QI
      refine wp_region_quiet_below (by kernel_rfl) (by kernel_rfl) ?_
      repeat (go_big_quiet_step ((go_at_call 22; exact QI.out _ _)))
      refine wpQuiet_nil ?_
      intro _ hw'
      obtain ⟨⟨dq, osq⟩, hw''⟩ := hw'
      subst hw''
      have B2 := Lib.hid (below_step B1.out (below_regrown w1 dq osq))
      have H2 := Lib.hid (H1.out.below (below_regrown w1 dq osq))
      have O2 := Lib.hid (O1.out.below (below_regrown w1 dq osq) O1.out.lt)
      clear x0 x1 y0 y1 y2 y3 QI H1 O1 B1
      dsimp only at B2 H2 O2 ⊢
      generalize grow (redrawn w1 dq) osq = w2 at *
      by_cases hm : b ∈ l
      · have HE := Lib.hid (makeD_old (most := most) HOK.out HS.out hm)
        have HP : Hid ((placeD l b : Int) = vv) := by show _ = _; rw [← HVV.out, if_pos hm]
        have h0 : (0 : Int) ≤ vv := by have := HP.out; omega
        clear hm
        go_wp2_with fail
        go_ret2
        exact Madeq.same H0.out B2.out (by rw [HE.out, HP.out])
      · have hv1 : vv = -1 := by rw [← HVV.out, if_neg hm]
        subst hv1
        have HN : Hid (b ∉ l) := hm
        clear hm
        obtain ⟨c0, c1⟩ := H2.out.cells
        go_upto_region 8 with fail
        go_quiet (fail)
        have B3 := Lib.hid (below_drewN B2.out nq)
        have H3 := Lib.hid (H2.out.below (below_drewN (Below.refl _ _) nq))
        have O3 : Hid (Ob (w2.drewN nq) gb 30 _) := O2.out.keep rfl
        clear B2 H2 O2 c0 c1
        generalize w2.drewN nq = W at *
        by_cases hfull : most = (n : Int)
        · have HE := Lib.hid (makeD_full (most := most) HOK.out HS.out HN.out (by have := HL.out; omega))
          have e1 : ((n : Int) == most) = true := by simpa using hfull.symm
          clear hfull
          go_wp2_with fail
          go_ret2
          exact Madeq.same H0.out B3.out HE.out
        have HE := Lib.hid (makeD_new (most := most) HOK.out HS.out HN.out (by have := HL.out; omega))
        have HDG : Hid (Dg (l ++ [b])) := by
          have := HM.out.make most b
          rw [HE.out] at this
          exact this
        have hlt : Hid ((n : Int) < most) := by show _ < _; omega
        have e1 : ((n : Int) == most) = false := by simp; omega
        clear hfull
        go_upto_region 10 with fail
        obtain ⟨A', c', w3, hrun, ho, hg⟩ := push_br b (w := W.drewN 1) (H3.out.below (below_drewN (Below.refl _ _) 1)).2.1 (by omega) (H3.out.below (below_drewN (Below.refl _ _) 1)).2.2.1.2
        obtain ⟨p1, p2⟩ := DgAt.pushed (H3.out.below (below_drewN (Below.refl _ _) 1)) ho hg hlt.out HDG.out
        have hgo : some gb ≠ (Value.slice A n c).ownBlock := fun e => by
          have := (H0.out.lt gb (.inr e)).2
          have := HGBE.out
          omega
        have S1 : Hid (Kept (fun b => b = g ∨ b = gb) W ((W.drewN 1).alloc (.cells #[.int .i64 b.a, .int .i64 b.x, .int .i64 b.y, .int .i64 b.z] 30))) := Kept.all (below_step (below_drewN (Below.refl _ W) 1) (below1 (W.drewN 1) _)) _
        have S2 : Hid (Kept (fun b => b = g ∨ b = gb) W w3) := (Kept.all (below_drewN (Below.refl _ _) 1) _).trans (hg.kept (fun k hk => by
          rcases hk with rfl | rfl
          · exact H0.out.2.2.2.1
          · exact hgo))
        have CG := Lib.hid (fun V (hV : Kept (fun b => b = g ∨ b = gb) W V) => (World.cell?_of_block (hV.2 g (.inl rfl) H3.out.glt)).trans H3.out.cells.2)
        have CB := Lib.hid (fun V (hV : Kept (fun b => b = g ∨ b = gb) W V) => (show Ob V gb 30 #[.int .i64 b.a, .int .i64 b.x, .int .i64 b.y, .int .i64 b.z] from O3.out.keep (hV.2 gb (.inr rfl) O3.out.lt)))
        have CB := Lib.hid (fun V hV => (⟨(CB.out V hV).cell 0, (CB.out V hV).cell 1, (CB.out V hV).cell 2, (CB.out V hV).cell 3⟩ : _ ∧ _ ∧ _ ∧ _))
        have G3 := Lib.hid (show w3.cell? ⟨g, 1, none⟩ = some (.slice A n c) ∧ w3.frozen? ⟨g, 1, none⟩ = false from ⟨CG.out _ S2.out, ((H3.out.1.keep (S2.out.2 g (.inl rfl) H3.out.glt))).frozen 1⟩)
        have P1 := Lib.hid p1
        have P2 := Lib.hid ((Mkd.of_below (below_step B3.out (below_drewN (Below.refl _ W) 1))).trans p2)
        have R1 := Lib.hid hrun
        clear hrun ho hg p1 p2 hgo e1
        have S0 : Hid (Kept (fun b => b = g ∨ b = gb) W W) := Kept.refl _ _
        refine wp_region_held_tail (fun w' => Kept (fun b => b = g ∨ b = gb) W w') 8 (by kernel_rfl) (by kernel_rfl) ?_
        intro G
        change HeadW _ _ _ _ _ _ _ _ _ _ (W.drewN 1)
        have S : Hid (Kept (fun b => b = g ∨ b = gb) W (W.drewN 1)) := S0.out
        refine HeadW_take (i := 0) (v := ?_) G rfl (by kernel_rfl) (by kernel_rfl) (by kernel_rfl) (fun _ _ _ h => h) (Or.inl ⟨by rfl, ?_⟩) S.out ?_
        rotate_left
        · intro wz hS
          go_simp
          try with_reducible rfl
        refine HeadW_take (i := 1) (v := ?_) G rfl (by kernel_rfl) (by kernel_rfl) (by kernel_rfl) (fun _ _ _ h => h) (Or.inl ⟨by rfl, ?_⟩) S.out ?_
        rotate_left
        · intro wz hS
          go_simp
          try with_reducible rfl
        refine HeadW_take (i := 2) (v := ?_) G rfl (by kernel_rfl) (by kernel_rfl) (by kernel_rfl) (fun _ _ _ h => h) (Or.inl ⟨by rfl, ?_⟩) S.out ?_
        rotate_left
        · intro wz hS
          go_simp
          try with_reducible rfl
        refine HeadW_take (i := 3) (v := ?_) G rfl (by kernel_rfl) (by kernel_rfl) (by kernel_rfl) (fun _ _ _ h => h) (Or.inl ⟨by rfl, ?_⟩) S.out ?_
        rotate_left
        · intro wz hS
          go_simp
          try with_reducible rfl
        refine HeadW_take (i := 4) (v := ?_) G rfl (by kernel_rfl) (by kernel_rfl) (by kernel_rfl) (fun _ _ _ h => h) (Or.inl ⟨by rfl, ?_⟩) S.out ?_
        rotate_left
        · intro wz hS
          have k1 := CG.out _ hS
          go_simp
          try with_reducible rfl
        refine HeadW_take (i := 5) (v := ?_) G rfl (by kernel_rfl) (by kernel_rfl) (by kernel_rfl) (fun _ _ _ h => h) (Or.inl ⟨by rfl, ?_⟩) S.out ?_
        rotate_left
        · intro wz hS
          obtain ⟨k0, k1, k2, k3⟩ := CB.out _ hS
          go_simp
          try with_reducible rfl
        refine HeadW_ready (rs := [6]) (by kernel_rfl) rfl rfl ?_
        refine AllW.cons rfl (fun K hK => ?_) AllW.nil
        go_simp
        refine hK _ _ S1.out ?_
        clear hK K
        refine HeadW_ready (rs := [7]) (by kernel_rfl) rfl rfl ?_
        refine AllW.cons rfl (fun K hK => ?_) AllW.nil
        refine oper_append (.tmp 53) (.tmp 55) 39 39 rfl rfl rfl R1.out ?_
        refine hK _ _ S2.out ?_
        clear hK K
        intro _
        refine ⟨by kernel_rfl, ?_⟩
        simp only [List.drop_succ_cons, List.drop_zero]
        obtain ⟨q0, q1⟩ := G3.out
        go_wp2_with fail
        go_ret2
        exact ⟨A', n + 1, c', by rw [HE.out, HL.out]; rfl, by rw [HE.out]; exact P1.out, P2.out⟩
end
end Go.Proofs.Ytipeefehhaffkaa
