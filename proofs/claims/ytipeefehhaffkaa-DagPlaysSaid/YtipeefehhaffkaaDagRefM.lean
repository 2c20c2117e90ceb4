/- The reference's Make (gen16ref.py). -/
import Derived.Test.YtipeefehhaffkaaDagMake
import Derived.Deep.CutBlock
namespace Go.Proofs.Ytipeefehhaffkaa
set_option linter.unusedVariables false
open Go.RowKit Go.Sort

section
variable {w : World} {base g : Nat} {most : Int} {A : Option Addr} {n c : Nat} {l : List Br}
set_option maxRecDepth 100000 in
set_option maxHeartbeats 12800000 in
theorem rmake_any (h : DgAt 41 w base g most A n c l) (b : Br) (hb : b.ok) : Calls Try.prog 15 #[.pointer (some ⟨g, 0, none⟩), b.val] w (Madeq 41 w base g most A n c l b) := by
  have hf := h.few
  have hlen := h.len
  have hgl := h.glt
  have HM := Lib.hid h.dg
  have B0 := Lib.hid (below1 w (.cells #[.int .i64 b.a, .int .i64 b.x, .int .i64 b.y, .int .i64 b.z] 30))
  have O0 : Hid (Ob (w.alloc (.cells #[.int .i64 b.a, .int .i64 b.x, .int .i64 b.y, .int .i64 b.z] 30)) w.heap.size 30 #[.int .i64 b.a, .int .i64 b.x, .int .i64 b.y, .int .i64 b.z]) := Ob.made _ _ _
  have H := Lib.hid (h.below B0.out)
  have H0 := Lib.hid h
  have HL := Lib.hid hlen
  obtain ⟨W0, hW⟩ : ∃ W, w.alloc (.cells #[.int .i64 b.a, .int .i64 b.x, .int .i64 b.y, .int .i64 b.z] 30) = W := ⟨_, rfl⟩
  obtain ⟨gb, hgb⟩ : ∃ gb, w.heap.size = gb := ⟨_, rfl⟩
  have HGB : Hid (g < gb) := by show _ < _; rw [← hgb]; exact hgl
  have HW := Lib.hid hW
  have HGBE := Lib.hid hgb
  obtain ⟨hba, hbx, hby, hbz⟩ := hb
  have HBA := Lib.hid hba
  unfold InI at hba hbx hby hbz
  rw [hW] at B0 O0 H
  rw [hgb] at O0
  clear h hlen hgl
  have z := O0.out
  have z0 := z.cell 0
  have z1 := z.cell 1
  have z2 := z.cell 2
  have z3 := z.cell 3
  simp at z0 z1 z2 z3
  have Z0 := Lib.hid z0
  have Z1 := Lib.hid z1
  have Z2 := Lib.hid z2
  have Z3 := Lib.hid z3
  clear z z0 z1 z2 z3
  simp only [Br.val] at *
  go_enter Try.func15, Try.ntmps15
  go_upto_region 1 with fail
  try rw [hW]
  try rw [hgb]
  clear hW hgb
  have z0 := Z0.out
  have z1 := Z1.out
  have z2 := Z2.out
  have z3 := Z3.out
  by_cases h0 : b.a < 0
  · have HE := Lib.hid (makeD_bad (most := most) (l := l) (b := b) (fun h => by have := h.1.1; omega))
    go_wp2_with fail
    go_ret2
    exact Madeq.same H0.out B0.out HE.out
  by_cases h1 : 64 ≤ b.a
  · have HE := Lib.hid (makeD_bad (most := most) (l := l) (b := b) (fun h => by have := h.1.2; omega))
    go_wp2_with fail
    go_ret2
    exact Madeq.same H0.out B0.out HE.out
  have hc0 := H.out.cells.1
  have hc1 := H.out.cells.2
  go_upto_block 0 with fail
  go_cut [] from 7 to 50 (fun wx => MakeOk l b ∧ Below W0.heap.size W0 wx)
  case first =>
    have i0 := ix_x
    have i1 := ix_y
    have i2 := ix_z
    go_wp2_with fail
    go_loopw [19] (fun i wr => ∃ k : Nat, k ≤ 3 ∧ i = .int .i64 k ∧ (∀ j, j < k → WayOk l b.a (b.to j)) ∧ Below W0.heap.size W0 wr) (fun i _ => 3 - (intOf i).toNat)
    case atStart => exact ⟨0, by omega, rfl, fun j hj => by omega, Below.refl _ _⟩
    case round =>
      clear hc0 hc1 z0 z1 z2 z3
      obtain ⟨k, hk, rfl, hall, hbw⟩ := hrel
      have HA := Lib.hid hall
      have HBW := Lib.hid hbw
      have H1 := Lib.hid (H.out.below hbw)
      have hc1 := fun d os => cell_regrown H1.out.cells.2 d os
      have zz := (O0.out.below hbw O0.out.lt).cell 0
      simp at zz
      have z0 := fun d os => cell_regrown zz d os
      clear hall hbw zz
      by_cases h3 : k = 3
      · subst h3
        have HOK : Hid (MakeOk l b) := ⟨by omega, HA.out 0 (by omega), HA.out 1 (by omega), HA.out 2 (by omega)⟩
        go_wp2_with fail
        go_meet
        exact ⟨HOK.out, HBW.out⟩
      · have HBAD : Hid (∀ k, k < 3 → ¬ WayOk l b.a (b.to k) → makeD most l b = (0, 1, l)) := fun k hk hn => makeD_bad fun hm => by
          rcases (show k = 0 ∨ k = 1 ∨ k = 2 by omega) with rfl | rfl | rfl
          · exact hn hm.2.1
          · exact hn hm.2.2.1
          · exact hn hm.2.2.2
        have HMORE : Hid (∀ k, k < 3 → (∀ j, j < k → WayOk l b.a (b.to j)) → WayOk l b.a (b.to k) → ∀ j, j < k + 1 → WayOk l b.a (b.to j)) := fun k hk ha hn j hj => by
          by_cases e : j = k
          · rw [e]; exact hn
          · exact ha j (by omega)
        rcases (show k = 0 ∨ k = 1 ∨ k = 2 by omega) with rfl | rfl | rfl
        · by_cases t1 : (n : Int) ≤ b.x
          · have HE := Lib.hid (HBAD.out 0 (by omega) (fun hw => by have h1 := hw.2.1; have := HL.out; simp only [Br.to] at h1; omega))
            go_wp2_with fail
            refine wp_region_quiet_below (by kernel_rfl) (by kernel_rfl) ?_
            repeat (go_big_quiet_step (fail))
            refine wpQuiet_nil ?_
            intro _ hw'
            obtain ⟨⟨dq, osq⟩, hw''⟩ := hw'
            subst hw''
            have B2 := Lib.hid (below_step HBW.out (below_regrown wr dq osq))
            dsimp only at B2 ⊢
            generalize grow (redrawn wr dq) osq = w2 at *
            clear hc1 z0
            go_wp2_with fail
            go_ret2
            exact Madeq.same H0.out (below_step B0.out B2.out) HE.out
          by_cases t2 : b.x < -1048576
          · have HE := Lib.hid (HBAD.out 0 (by omega) (fun hw => by have h1 := hw.1; simp only [Br.to] at h1; omega))
            go_wp2_with fail
            have f1 : ¬ (n : Int) ≤ b.x := by omega
            refine wp_region_quiet_below (by kernel_rfl) (by kernel_rfl) ?_
            repeat (go_big_quiet_step (fail))
            refine wpQuiet_nil ?_
            intro _ hw'
            obtain ⟨⟨dq, osq⟩, hw''⟩ := hw'
            subst hw''
            have B2 := Lib.hid (below_step HBW.out (below_regrown wr dq osq))
            dsimp only at B2 ⊢
            generalize grow (redrawn wr dq) osq = w2 at *
            clear hc1 z0
            go_wp2_with fail
            go_ret2
            exact Madeq.same H0.out (below_step B0.out B2.out) HE.out
          by_cases t3 : b.x < 0
          · have HN := Lib.hid (HMORE.out 0 (by omega) HA.out ⟨by simp only [Br.to]; omega, by simp only [Br.to]; omega, fun h => by simp only [Br.to] at h; omega⟩)
            have t4 : ¬ 0 ≤ b.x := by omega
            clear t3
            go_wp2_with fail
            have f1 : ¬ (n : Int) ≤ b.x := by omega
            have f2 : ¬ b.x < -1048576 := by omega
            have f3 : ¬ 0 ≤ b.x := by omega
            refine wp_region_quiet_below (by kernel_rfl) (by kernel_rfl) ?_
            repeat (go_big_quiet_step (fail))
            refine wpQuiet_nil ?_
            intro _ hw'
            obtain ⟨⟨dq, osq⟩, hw''⟩ := hw'
            subst hw''
            have B2 := Lib.hid (below_step HBW.out (below_regrown wr dq osq))
            dsimp only at B2 ⊢
            generalize grow (redrawn wr dq) osq = w2 at *
            clear hc1 z0
            go_wp2_with fail
            go_roundw
            case rel => first | exact ⟨1, by omega, rfl, HN.out, B2.out⟩ | exact ⟨_, _, _, _, ⟨1, by omega, rfl, HN.out, B2.out⟩, rfl, rfl, rfl, rfl⟩
            case measure => simp [intOf]
          · have t4 : 0 ≤ b.x := by omega
            clear t3
            obtain ⟨p, hp⟩ : ∃ p : Nat, b.x = (p : Int) := ⟨b.x.toNat, by omega⟩
            obtain ⟨bb, o, x, hAx, hbl, hx, hok, x0, x1, x2, x3⟩ := H1.out.at_ (k := p) (by omega)
            subst hAx
            have HAT : Hid (atomD l (b.to 0) = x.a) := by show _ = _; exact atomD_at (by simp only [Br.to]; rw [hp, Int.toNat_natCast]; exact hx)
            have hpn : (p : Int) < (n : Int) := by omega
            have x0 := fun d os => cell_regrown x0 d os
            clear x1 x2 x3
            have HP := Lib.hid hp
            clear hx hok
            by_cases t5 : x.a ≤ b.a
            · have HE := Lib.hid (HBAD.out 0 (by omega) (fun hw => by have h1 := hw.2.2 (by simp only [Br.to]; omega); rw [HAT.out] at h1; omega))
              go_wp2_with fail
              have f1 : ¬ (n : Int) ≤ (p : Int) := by omega
              have f2 : ¬ (p : Int) < -1048576 := by omega
              refine wp_region_quiet_below (by kernel_rfl) (by kernel_rfl) ?_
              repeat (go_big_quiet_step (fail))
              refine wpQuiet_nil ?_
              intro _ hw'
              obtain ⟨⟨dq, osq⟩, hw''⟩ := hw'
              subst hw''
              have B2 := Lib.hid (below_step HBW.out (below_regrown wr dq osq))
              dsimp only at B2 ⊢
              generalize grow (redrawn wr dq) osq = w2 at *
              clear hc1 z0
              go_wp2_with fail
              go_ret2
              exact Madeq.same H0.out (below_step B0.out B2.out) HE.out
            · have HN := Lib.hid (HMORE.out 0 (by omega) HA.out ⟨by simp only [Br.to]; omega, by simp only [Br.to]; have := HL.out; omega, fun h => by rw [HAT.out]; omega⟩)
              go_wp2_with fail
              have f1 : ¬ (n : Int) ≤ (p : Int) := by omega
              have f2 : ¬ (p : Int) < -1048576 := by omega
              have f3 : ¬ x.a ≤ b.a := by omega
              refine wp_region_quiet_below (by kernel_rfl) (by kernel_rfl) ?_
              repeat (go_big_quiet_step (fail))
              refine wpQuiet_nil ?_
              intro _ hw'
              obtain ⟨⟨dq, osq⟩, hw''⟩ := hw'
              subst hw''
              have B2 := Lib.hid (below_step HBW.out (below_regrown wr dq osq))
              dsimp only at B2 ⊢
              generalize grow (redrawn wr dq) osq = w2 at *
              clear hc1 z0
              go_wp2_with fail
              go_roundw
              case rel => first | exact ⟨1, by omega, rfl, HN.out, B2.out⟩ | exact ⟨_, _, _, _, ⟨1, by omega, rfl, HN.out, B2.out⟩, rfl, rfl, rfl, rfl⟩
              case measure => simp [intOf]
        · by_cases t1 : (n : Int) ≤ b.y
          · have HE := Lib.hid (HBAD.out 1 (by omega) (fun hw => by have h1 := hw.2.1; have := HL.out; simp only [Br.to] at h1; omega))
            go_wp2_with fail
            refine wp_region_quiet_below (by kernel_rfl) (by kernel_rfl) ?_
            repeat (go_big_quiet_step (fail))
            refine wpQuiet_nil ?_
            intro _ hw'
            obtain ⟨⟨dq, osq⟩, hw''⟩ := hw'
            subst hw''
            have B2 := Lib.hid (below_step HBW.out (below_regrown wr dq osq))
            dsimp only at B2 ⊢
            generalize grow (redrawn wr dq) osq = w2 at *
            clear hc1 z0
            go_wp2_with fail
            go_ret2
            exact Madeq.same H0.out (below_step B0.out B2.out) HE.out
          by_cases t2 : b.y < -1048576
          · have HE := Lib.hid (HBAD.out 1 (by omega) (fun hw => by have h1 := hw.1; simp only [Br.to] at h1; omega))
            go_wp2_with fail
            have f1 : ¬ (n : Int) ≤ b.y := by omega
            refine wp_region_quiet_below (by kernel_rfl) (by kernel_rfl) ?_
            repeat (go_big_quiet_step (fail))
            refine wpQuiet_nil ?_
            intro _ hw'
            obtain ⟨⟨dq, osq⟩, hw''⟩ := hw'
            subst hw''
            have B2 := Lib.hid (below_step HBW.out (below_regrown wr dq osq))
            dsimp only at B2 ⊢
            generalize grow (redrawn wr dq) osq = w2 at *
            clear hc1 z0
            go_wp2_with fail
            go_ret2
            exact Madeq.same H0.out (below_step B0.out B2.out) HE.out
          by_cases t3 : b.y < 0
          · have HN := Lib.hid (HMORE.out 1 (by omega) HA.out ⟨by simp only [Br.to]; omega, by simp only [Br.to]; omega, fun h => by simp only [Br.to] at h; omega⟩)
            have t4 : ¬ 0 ≤ b.y := by omega
            clear t3
            go_wp2_with fail
            have f1 : ¬ (n : Int) ≤ b.y := by omega
            have f2 : ¬ b.y < -1048576 := by omega
            have f3 : ¬ 0 ≤ b.y := by omega
            refine wp_region_quiet_below (by kernel_rfl) (by kernel_rfl) ?_
            repeat (go_big_quiet_step (fail))
            refine wpQuiet_nil ?_
            intro _ hw'
            obtain ⟨⟨dq, osq⟩, hw''⟩ := hw'
            subst hw''
            have B2 := Lib.hid (below_step HBW.out (below_regrown wr dq osq))
            dsimp only at B2 ⊢
            generalize grow (redrawn wr dq) osq = w2 at *
            clear hc1 z0
            go_wp2_with fail
            go_roundw
            case rel => first | exact ⟨2, by omega, rfl, HN.out, B2.out⟩ | exact ⟨_, _, _, _, ⟨2, by omega, rfl, HN.out, B2.out⟩, rfl, rfl, rfl, rfl⟩
            case measure => simp [intOf]
          · have t4 : 0 ≤ b.y := by omega
            clear t3
            obtain ⟨p, hp⟩ : ∃ p : Nat, b.y = (p : Int) := ⟨b.y.toNat, by omega⟩
            obtain ⟨bb, o, x, hAx, hbl, hx, hok, x0, x1, x2, x3⟩ := H1.out.at_ (k := p) (by omega)
            subst hAx
            have HAT : Hid (atomD l (b.to 1) = x.a) := by show _ = _; exact atomD_at (by simp only [Br.to]; rw [hp, Int.toNat_natCast]; exact hx)
            have hpn : (p : Int) < (n : Int) := by omega
            have x0 := fun d os => cell_regrown x0 d os
            clear x1 x2 x3
            have HP := Lib.hid hp
            clear hx hok
            by_cases t5 : x.a ≤ b.a
            · have HE := Lib.hid (HBAD.out 1 (by omega) (fun hw => by have h1 := hw.2.2 (by simp only [Br.to]; omega); rw [HAT.out] at h1; omega))
              go_wp2_with fail
              have f1 : ¬ (n : Int) ≤ (p : Int) := by omega
              have f2 : ¬ (p : Int) < -1048576 := by omega
              refine wp_region_quiet_below (by kernel_rfl) (by kernel_rfl) ?_
              repeat (go_big_quiet_step (fail))
              refine wpQuiet_nil ?_
              intro _ hw'
              obtain ⟨⟨dq, osq⟩, hw''⟩ := hw'
              subst hw''
              have B2 := Lib.hid (below_step HBW.out (below_regrown wr dq osq))
              dsimp only at B2 ⊢
              generalize grow (redrawn wr dq) osq = w2 at *
              clear hc1 z0
              go_wp2_with fail
              go_ret2
              exact Madeq.same H0.out (below_step B0.out B2.out) HE.out
            · have HN := Lib.hid (HMORE.out 1 (by omega) HA.out ⟨by simp only [Br.to]; omega, by simp only [Br.to]; have := HL.out; omega, fun h => by rw [HAT.out]; omega⟩)
              go_wp2_with fail
              have f1 : ¬ (n : Int) ≤ (p : Int) := by omega
              have f2 : ¬ (p : Int) < -1048576 := by omega
              have f3 : ¬ x.a ≤ b.a := by omega
              refine wp_region_quiet_below (by kernel_rfl) (by kernel_rfl) ?_
              repeat (go_big_quiet_step (fail))
              refine wpQuiet_nil ?_
              intro _ hw'
              obtain ⟨⟨dq, osq⟩, hw''⟩ := hw'
              subst hw''
              have B2 := Lib.hid (below_step HBW.out (below_regrown wr dq osq))
              dsimp only at B2 ⊢
              generalize grow (redrawn wr dq) osq = w2 at *
              clear hc1 z0
              go_wp2_with fail
              go_roundw
              case rel => first | exact ⟨2, by omega, rfl, HN.out, B2.out⟩ | exact ⟨_, _, _, _, ⟨2, by omega, rfl, HN.out, B2.out⟩, rfl, rfl, rfl, rfl⟩
              case measure => simp [intOf]
        · by_cases t1 : (n : Int) ≤ b.z
          · have HE := Lib.hid (HBAD.out 2 (by omega) (fun hw => by have h1 := hw.2.1; have := HL.out; simp only [Br.to] at h1; omega))
            go_wp2_with fail
            refine wp_region_quiet_below (by kernel_rfl) (by kernel_rfl) ?_
            repeat (go_big_quiet_step (fail))
            refine wpQuiet_nil ?_
            intro _ hw'
            obtain ⟨⟨dq, osq⟩, hw''⟩ := hw'
            subst hw''
            have B2 := Lib.hid (below_step HBW.out (below_regrown wr dq osq))
            dsimp only at B2 ⊢
            generalize grow (redrawn wr dq) osq = w2 at *
            clear hc1 z0
            go_wp2_with fail
            go_ret2
            exact Madeq.same H0.out (below_step B0.out B2.out) HE.out
          by_cases t2 : b.z < -1048576
          · have HE := Lib.hid (HBAD.out 2 (by omega) (fun hw => by have h1 := hw.1; simp only [Br.to] at h1; omega))
            go_wp2_with fail
            have f1 : ¬ (n : Int) ≤ b.z := by omega
            refine wp_region_quiet_below (by kernel_rfl) (by kernel_rfl) ?_
            repeat (go_big_quiet_step (fail))
            refine wpQuiet_nil ?_
            intro _ hw'
            obtain ⟨⟨dq, osq⟩, hw''⟩ := hw'
            subst hw''
            have B2 := Lib.hid (below_step HBW.out (below_regrown wr dq osq))
            dsimp only at B2 ⊢
            generalize grow (redrawn wr dq) osq = w2 at *
            clear hc1 z0
            go_wp2_with fail
            go_ret2
            exact Madeq.same H0.out (below_step B0.out B2.out) HE.out
          by_cases t3 : b.z < 0
          · have HN := Lib.hid (HMORE.out 2 (by omega) HA.out ⟨by simp only [Br.to]; omega, by simp only [Br.to]; omega, fun h => by simp only [Br.to] at h; omega⟩)
            have t4 : ¬ 0 ≤ b.z := by omega
            clear t3
            go_wp2_with fail
            have f1 : ¬ (n : Int) ≤ b.z := by omega
            have f2 : ¬ b.z < -1048576 := by omega
            have f3 : ¬ 0 ≤ b.z := by omega
            refine wp_region_quiet_below (by kernel_rfl) (by kernel_rfl) ?_
            repeat (go_big_quiet_step (fail))
            refine wpQuiet_nil ?_
            intro _ hw'
            obtain ⟨⟨dq, osq⟩, hw''⟩ := hw'
            subst hw''
            have B2 := Lib.hid (below_step HBW.out (below_regrown wr dq osq))
            dsimp only at B2 ⊢
            generalize grow (redrawn wr dq) osq = w2 at *
            clear hc1 z0
            go_wp2_with fail
            go_roundw
            case rel => first | exact ⟨3, by omega, rfl, HN.out, B2.out⟩ | exact ⟨_, _, _, _, ⟨3, by omega, rfl, HN.out, B2.out⟩, rfl, rfl, rfl, rfl⟩
            case measure => simp [intOf]
          · have t4 : 0 ≤ b.z := by omega
            clear t3
            obtain ⟨p, hp⟩ : ∃ p : Nat, b.z = (p : Int) := ⟨b.z.toNat, by omega⟩
            obtain ⟨bb, o, x, hAx, hbl, hx, hok, x0, x1, x2, x3⟩ := H1.out.at_ (k := p) (by omega)
            subst hAx
            have HAT : Hid (atomD l (b.to 2) = x.a) := by show _ = _; exact atomD_at (by simp only [Br.to]; rw [hp, Int.toNat_natCast]; exact hx)
            have hpn : (p : Int) < (n : Int) := by omega
            have x0 := fun d os => cell_regrown x0 d os
            clear x1 x2 x3
            have HP := Lib.hid hp
            clear hx hok
            by_cases t5 : x.a ≤ b.a
            · have HE := Lib.hid (HBAD.out 2 (by omega) (fun hw => by have h1 := hw.2.2 (by simp only [Br.to]; omega); rw [HAT.out] at h1; omega))
              go_wp2_with fail
              have f1 : ¬ (n : Int) ≤ (p : Int) := by omega
              have f2 : ¬ (p : Int) < -1048576 := by omega
              refine wp_region_quiet_below (by kernel_rfl) (by kernel_rfl) ?_
              repeat (go_big_quiet_step (fail))
              refine wpQuiet_nil ?_
              intro _ hw'
              obtain ⟨⟨dq, osq⟩, hw''⟩ := hw'
              subst hw''
              have B2 := Lib.hid (below_step HBW.out (below_regrown wr dq osq))
              dsimp only at B2 ⊢
              generalize grow (redrawn wr dq) osq = w2 at *
              clear hc1 z0
              go_wp2_with fail
              go_ret2
              exact Madeq.same H0.out (below_step B0.out B2.out) HE.out
            · have HN := Lib.hid (HMORE.out 2 (by omega) HA.out ⟨by simp only [Br.to]; omega, by simp only [Br.to]; have := HL.out; omega, fun h => by rw [HAT.out]; omega⟩)
              go_wp2_with fail
              have f1 : ¬ (n : Int) ≤ (p : Int) := by omega
              have f2 : ¬ (p : Int) < -1048576 := by omega
              have f3 : ¬ x.a ≤ b.a := by omega
              refine wp_region_quiet_below (by kernel_rfl) (by kernel_rfl) ?_
              repeat (go_big_quiet_step (fail))
              refine wpQuiet_nil ?_
              intro _ hw'
              obtain ⟨⟨dq, osq⟩, hw''⟩ := hw'
              subst hw''
              have B2 := Lib.hid (below_step HBW.out (below_regrown wr dq osq))
              dsimp only at B2 ⊢
              generalize grow (redrawn wr dq) osq = w2 at *
              clear hc1 z0
              go_wp2_with fail
              go_roundw
              case rel => first | exact ⟨3, by omega, rfl, HN.out, B2.out⟩ | exact ⟨_, _, _, _, ⟨3, by omega, rfl, HN.out, B2.out⟩, rfl, rfl, rfl, rfl⟩
              case measure => simp [intOf]
  case rest =>
    obtain ⟨wx, hwx⟩ : ∃ wx, Below W0.heap.size W0 wx ∧ wx = _ := ⟨_, hcut.2, rfl⟩
    obtain ⟨hok, hbw⟩ := hcut
    replace hbw := hwx.1
    rw [← hwx.2]
    clear hwx
    have HOK := Lib.hid hok
    have B1 := Lib.hid (below_step B0.out hbw)
    have H1 := Lib.hid (H.out.below hbw)
    have O1 := Lib.hid (O0.out.below hbw O0.out.lt)
    obtain ⟨w1, hw1⟩ : ∃ w1, w1 = wx := ⟨_, rfl⟩
    rw [← hw1] at B1 H1 O1 ⊢
    clear hw1 hok hbw hc0 hc1 z0 z1 z2 z3
    have z0 := O1.out.cell 0
    have z1 := O1.out.cell 1
    have z2 := O1.out.cell 2
    have z3 := O1.out.cell 3
    simp at z0 z1 z2 z3
    by_cases hs : b.x = b.y ∧ b.y = b.z
    · have HE := Lib.hid (makeD_same (most := most) HOK.out hs)
      obtain ⟨s1, s2⟩ := hs
      have e1 : (b.x == b.y) = true := by simpa using s1
      have e2 : (b.y == b.z) = true := by simpa using s2
      clear s1 s2
      go_wp2_with fail
      go_ret2
      exact Madeq.same H0.out B1.out HE.out
    have HS := Lib.hid hs
    clear hs
    go_upto_region 9 with fail
    go_cut [66] from 51 to 66 (fun s wx => s = .bool false ∧ wx = w1)
    case first =>
      by_cases s1 : b.x = b.y
      · have s2 : ¬ b.y = b.z := fun e => HS.out ⟨s1, e⟩
        have e1 : (b.x == b.y) = true := by simpa using s1
        have e2 : (b.y == b.z) = false := by simpa using s2
        clear s1 s2
        go_wp2_with fail
        go_meet
        exact ⟨rfl, rfl⟩
      · have e1 : (b.x == b.y) = false := by simpa using s1
        clear s1
        go_wp2_with fail
        go_meet
        exact ⟨rfl, rfl⟩
    case rest =>
    obtain ⟨rfl, hwx⟩ := hcut
    rw [hwx]
    clear hwx
    obtain ⟨c0, c1⟩ := H1.out.cells
    go_wp2_with fail
    go_loopw [75] (fun i wr => ∃ k : Nat, k ≤ n ∧ i = .int .i64 k ∧ (∀ j x, j < k → l[j]? = some x → x ≠ b) ∧ ∃ q, wr = w1.drewN q) (fun i _ => n - (intOf i).toNat)
    case atStart => exact ⟨0, Nat.zero_le _, rfl, fun j _ hj => by omega, 0, rfl⟩
    case round =>
      obtain ⟨k, hk, rfl, hall, q, rfl⟩ := hrel
      have HA := Lib.hid hall
      clear hall
      by_cases hlt : k < n
      · obtain ⟨bb, o, x, hAx, hbl, hx, _, x0, x1, x2, x3⟩ := H1.out.at_ hlt
        rw [hAx] at c1
        clear hAx
        have HX := Lib.hid hx
        have hve := br_eq x b
        have hkI : (k : Int) < (n : Int) := by omega
        by_cases hxy : x = b
        · have HP := Lib.hid (placeD_at (b := b) (by rw [HX.out, hxy]) HA.out)
          have HE := Lib.hid (makeD_old (most := most) HOK.out HS.out HP.out.1)
          simp only [hxy, decide_true] at hve x0 x1 x2 x3
          clear hx hxy
          go_wp2_with fail
          go_quiet (fail)
          go_wp2
          go_ret2
          exact Madeq.same H0.out (below_drewN (below_drewN B1.out _) _) (by rw [HE.out, HP.out.2])
        · have HNE : Hid (∀ j y, j < k + 1 → l[j]? = some y → y ≠ b) := fun j y hj hy => by
            by_cases e : j = k
            · subst e
              rw [HX.out] at hy
              injection hy with hy
              subst hy
              exact hxy
            · exact HA.out j y (by omega) hy
          simp only [decide_eq_false hxy] at hve
          clear hx hxy
          go_wp2_with fail
          go_quiet (fail)
          go_wp2
          go_roundw
          case rel => exact ⟨k + 1, by omega, by go_num, HNE.out, _, rfl⟩
          case measure => simp [intOf]; omega
      · obtain rfl : n = k := by omega
        have HN : Hid (b ∉ l) := fun hm => by
          obtain ⟨j, hj, e⟩ := List.getElem_of_mem hm
          exact HA.out j _ (by rw [← HL.out]; exact hj) (List.getElem?_eq_getElem hj) e
        go_upto_region 17 with fail
        go_quiet (fail)
        have B3 := Lib.hid (below_drewN (below_drewN B1.out q) nq)
        have H3 := Lib.hid ((H1.out.below (below_drewN (Below.refl _ _) q)).below (below_drewN (Below.refl _ _) nq))
        have O3 : Hid (Ob ((w1.drewN q).drewN nq) gb 30 _) := O1.out.keep rfl
        clear B1 H1 O1 z0 z1 z2 z3 c0 c1 HA
        generalize (w1.drewN q).drewN nq = W at *
        by_cases hfull : most ≤ (n : Int)
        · have HE := Lib.hid (makeD_full (most := most) HOK.out HS.out HN.out (by have := HL.out; omega))
          go_wp2_with fail
          go_ret2
          exact Madeq.same H0.out B3.out HE.out
        have HE := Lib.hid (makeD_new (most := most) HOK.out HS.out HN.out (by have := HL.out; omega))
        have HDG : Hid (Dg (l ++ [b])) := by
          have := HM.out.make most b
          rw [HE.out] at this
          exact this
        have hlt : Hid ((n : Int) < most) := by show _ < _; omega
        have e1 : ¬ most ≤ (n : Int) := hfull
        clear hfull
        go_upto_region 19 with fail
        obtain ⟨A', c', w3, hrun, ho, hg⟩ := push_br b (w := W.drewN 1) (H3.out.below (below_drewN (Below.refl _ _) 1)).2.1 (by omega) (H3.out.below (below_drewN (Below.refl _ _) 1)).2.2.1.2
        obtain ⟨p1, p2⟩ := DgAt.pushed (H3.out.below (below_drewN (Below.refl _ _) 1)) ho hg hlt.out HDG.out
        have hgo : some gb ≠ (Value.slice A n c).ownBlock := fun e => by
          have := (H0.out.lt gb (.inr e)).2
          have := HGBE.out
          omega
        have S1 : Hid (Kept (fun b => b = g ∨ b = gb) W ((W.drewN 1).alloc (.cells #[.int .i64 b.a, .int .i64 b.x, .int .i64 b.y, .int .i64 b.z] 30))) := Kept.all (below_step (below_drewN (Below.refl _ W) 1) (below1 (W.drewN 1) _)) _
        have S2 : Hid (Kept (fun b => b = g ∨ b = gb) W w3) := (Kept.all (below_drewN (Below.refl _ _) 1) _).trans (hg.kept (fun k hk => by
          rcases hk with rfl | rfl
          · exact H0.out.2.2.2.1
          · exact hgo))
        have CG := Lib.hid (fun V (hV : Kept (fun b => b = g ∨ b = gb) W V) => (World.cell?_of_block (hV.2 g (.inl rfl) H3.out.glt)).trans H3.out.cells.2)
        have CB := Lib.hid (fun V (hV : Kept (fun b => b = g ∨ b = gb) W V) => (show Ob V gb 30 #[.int .i64 b.a, .int .i64 b.x, .int .i64 b.y, .int .i64 b.z] from O3.out.keep (hV.2 gb (.inr rfl) O3.out.lt)))
        have CB := Lib.hid (fun V hV => (⟨(CB.out V hV).cell 0, (CB.out V hV).cell 1, (CB.out V hV).cell 2, (CB.out V hV).cell 3⟩ : _ ∧ _ ∧ _ ∧ _))
        have G3 := Lib.hid (show w3.cell? ⟨g, 1, none⟩ = some (.slice A n c) ∧ w3.frozen? ⟨g, 1, none⟩ = false from ⟨CG.out _ S2.out, ((H3.out.1.keep (S2.out.2 g (.inl rfl) H3.out.glt))).frozen 1⟩)
        have P1 := Lib.hid p1
        have P2 := Lib.hid ((Mkd.of_below (below_step B3.out (below_drewN (Below.refl _ W) 1))).trans p2)
        have R1 := Lib.hid hrun
        clear hrun ho hg p1 p2 hgo e1
        have S0 : Hid (Kept (fun b => b = g ∨ b = gb) W W) := Kept.refl _ _
        refine wp_region_held_tail (fun w' => Kept (fun b => b = g ∨ b = gb) W w') 8 (by kernel_rfl) (by kernel_rfl) ?_
        intro G
        change HeadW _ _ _ _ _ _ _ _ _ _ (W.drewN 1)
        have S : Hid (Kept (fun b => b = g ∨ b = gb) W (W.drewN 1)) := S0.out
        refine HeadW_take (i := 0) (v := ?_) G rfl (by kernel_rfl) (by kernel_rfl) (by kernel_rfl) (fun _ _ _ h => h) (Or.inl ⟨by rfl, ?_⟩) S.out ?_
        rotate_left
        · intro wz hS
          go_simp
          try with_reducible rfl
        refine HeadW_take (i := 1) (v := ?_) G rfl (by kernel_rfl) (by kernel_rfl) (by kernel_rfl) (fun _ _ _ h => h) (Or.inl ⟨by rfl, ?_⟩) S.out ?_
        rotate_left
        · intro wz hS
          go_simp
          try with_reducible rfl
        refine HeadW_take (i := 2) (v := ?_) G rfl (by kernel_rfl) (by kernel_rfl) (by kernel_rfl) (fun _ _ _ h => h) (Or.inl ⟨by rfl, ?_⟩) S.out ?_
        rotate_left
        · intro wz hS
          go_simp
          try with_reducible rfl
        refine HeadW_take (i := 3) (v := ?_) G rfl (by kernel_rfl) (by kernel_rfl) (by kernel_rfl) (fun _ _ _ h => h) (Or.inl ⟨by rfl, ?_⟩) S.out ?_
        rotate_left
        · intro wz hS
          go_simp
          try with_reducible rfl
        refine HeadW_take (i := 4) (v := ?_) G rfl (by kernel_rfl) (by kernel_rfl) (by kernel_rfl) (fun _ _ _ h => h) (Or.inl ⟨by rfl, ?_⟩) S.out ?_
        rotate_left
        · intro wz hS
          have k1 := CG.out _ hS
          go_simp
          try with_reducible rfl
        refine HeadW_take (i := 5) (v := ?_) G rfl (by kernel_rfl) (by kernel_rfl) (by kernel_rfl) (fun _ _ _ h => h) (Or.inl ⟨by rfl, ?_⟩) S.out ?_
        rotate_left
        · intro wz hS
          obtain ⟨k0, k1, k2, k3⟩ := CB.out _ hS
          go_simp
          try with_reducible rfl
        refine HeadW_ready (rs := [6]) (by kernel_rfl) rfl rfl ?_
        refine AllW.cons rfl (fun K hK => ?_) AllW.nil
        go_simp
        refine hK _ _ S1.out ?_
        clear hK K
        refine HeadW_ready (rs := [7]) (by kernel_rfl) rfl rfl ?_
        refine AllW.cons rfl (fun K hK => ?_) AllW.nil
        refine oper_append (.tmp 103) (.tmp 105) 39 39 rfl rfl rfl R1.out ?_
        refine hK _ _ S2.out ?_
        clear hK K
        intro _
        refine ⟨by kernel_rfl, ?_⟩
        simp only [List.drop_succ_cons, List.drop_zero]
        obtain ⟨q0, q1⟩ := G3.out
        go_wp2_with fail
        go_ret2
        exact ⟨A', n + 1, c', by rw [HE.out, HL.out]; rfl, by rw [HE.out]; exact P1.out, P2.out⟩
end
end Go.Proofs.Ytipeefehhaffkaa
