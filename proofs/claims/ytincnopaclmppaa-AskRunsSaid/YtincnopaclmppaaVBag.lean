/- Bag: the project's and the reference's. -/
import Derived.Test.YtincnopaclmppaaVals
namespace Go.Proofs.Ytincnopaclmppaa
set_option linter.unusedVariables false
open Go.RowKit Go.Sort

set_option maxHeartbeats 1600000 in
theorem vbag_any {w : World} {B n c : Nat} {A : Option Addr} {l : List Vl} (h : Vs w B A n c l) (hB : B ≤ w.heap.size) :
    Calls Try.prog 58 #[.slice A n c] w fun e w' => e = .returned (.bool (bagB l)) ∧ Below w.heap.size w w' := by
  have hlen := h.1
  have hcap := h.2.2.1
  have hle := h.2.1
  unfold maxLen at hcap
  have HV := Lib.hid h
  have HL := Lib.hid hlen
  clear h hlen
  by_cases hn16 : 16 < n
  · go_enter Try.func58, Try.ntmps58
    go_wp2_with fail
    go_ret
    exact ⟨ret_bool (bag_long (by have := HL.out; omega)).symm, Below.refl _ _⟩
  go_enter Try.func58, Try.ntmps58
  go_wp2_with fail
  go_loopw [10] (fun i wr => ∃ k : Nat, k ≤ n ∧ k ≤ 16 ∧ i = .int .i64 k ∧ BagTo l k ∧ Below w.heap.size w wr) (fun i _ => n - (intOf i).toNat)
  case atStart => exact ⟨0, Nat.zero_le _, by omega, rfl, fun j x _ hj => by omega, Below.refl _ _⟩
  case round =>
    obtain ⟨k, hk, hk16, rfl, ht, hb⟩ := hrel
    have HT := Lib.hid ht
    have HB := Lib.hid hb
    by_cases hlt : k < n
    · obtain ⟨b, o, x, rfl, hbB, hx, hok, x0, x1, x2⟩ := (HV.out.below (hb.mono hB)).at_ hlt
      obtain ⟨b', o', y, hA, _, hy, _, y0, _, _⟩ := (HV.out.below (hb.mono hB)).at_ (k := 0) (by omega)
      injection hA with hA
      injection hA with hA1 hA2
      subst hA1 hA2
      simp only [Nat.zero_mul, Nat.add_zero] at y0
      obtain ⟨kx, nx, sx⟩ := x
      obtain ⟨ky, ny, sy⟩ := y
      have HX := Lib.hid hx
      have HY := Lib.hid hy
      have qr := fun W d os => Calls.regrown_of (w := W) (d := d) (os := os) (right_any kx nx sx hok.2.2 (grow (redrawn W d) os))
      have hlo : (0 : Int) < (n : Int) := by omega
      have y0' : (wr.alloc (.cells #[.int .i64 kx, .int .i64 nx, .string sx] 57)).cell? ⟨b, o, none⟩ = some (.int .i64 ky) := by
        rw [World.cell?_of_block (Below.heap_alloc wr _ b (by have := hb.size; omega))]; exact y0
      have hbx := Bx.made wr kx nx sx
      have D1 := Lib.hid (hb.alloc hb.size (.cells #[.int .i64 kx, .int .i64 nx, .string sx] 57))
      clear ht hb hx hy hok
      by_cases hr : RightV kx nx sx.data.toList
      · have HR : Hid (Vl.right ⟨kx, nx, sx⟩) := hr
        rw [decide_eq_true hr] at qr
        have QR := Lib.hid qr
        clear qr hr
        by_cases hkk : kx = ky
        · have hne : (kx != ky) = false := by simp [hkk]
          have HK := Lib.hid hkk
          clear hkk
          go_wp2_with fail
          generalize wr.alloc (.cells #[.int .i64 kx, .int .i64 nx, .string sx] 57) = W1 at *
          obtain ⟨g0, g1, g2⟩ := hbx.grown
          have z0 : ∀ d os, (grow (redrawn W1 d) os).cell? ⟨b, o, none⟩ = some (.int .i64 ky) := fun d os => cell_regrown y0' d os
          refine wp_region_quiet_below (by kernel_rfl) (by kernel_rfl) ?_
          repeat (go_big_quiet_step ((go_at_call 69; exact QR.out _ _ _)))
          refine wpQuiet_nil ?_
          intro _ hw'
          obtain ⟨⟨dq, osq⟩, hw''⟩ := hw'
          subst hw''
          have D2 := Lib.hid (below_step D1.out (below_regrown W1 dq osq))
          clear g0 g1 g2 z0
          generalize grow (redrawn W1 dq) osq = W2 at *
          go_wp2_with fail
          go_roundw
          case rel => exact ⟨k + 1, by omega, by omega, by go_num, HT.out.step HX.out HR.out HY.out HK.out, D2.out⟩
          case measure => simp [intOf]; omega
        · have hne : (kx != ky) = true := by rw [bne_iff_ne]; exact hkk
          have HK := Lib.hid hkk
          clear hkk
          go_wp2_with fail
          generalize wr.alloc (.cells #[.int .i64 kx, .int .i64 nx, .string sx] 57) = W1 at *
          obtain ⟨g0, g1, g2⟩ := hbx.grown
          have z0 : ∀ d os, (grow (redrawn W1 d) os).cell? ⟨b, o, none⟩ = some (.int .i64 ky) := fun d os => cell_regrown y0' d os
          refine wp_region_quiet_below (by kernel_rfl) (by kernel_rfl) ?_
          repeat (go_big_quiet_step ((go_at_call 69; exact QR.out _ _ _)))
          refine wpQuiet_nil ?_
          intro _ hw'
          obtain ⟨⟨dq, osq⟩, hw''⟩ := hw'
          subst hw''
          have D2 := Lib.hid (below_step D1.out (below_regrown W1 dq osq))
          clear g0 g1 g2 z0
          generalize grow (redrawn W1 dq) osq = W2 at *
          go_wp2_with fail
          go_ret
          exact ⟨ret_bool (bag_bad HX.out HY.out (.inr HK.out)).symm, D2.out⟩
      · have HR : Hid (¬ Vl.right ⟨kx, nx, sx⟩) := hr
        rw [decide_eq_false hr] at qr
        have QR := Lib.hid qr
        clear qr hr
        go_wp2_with fail
        generalize wr.alloc (.cells #[.int .i64 kx, .int .i64 nx, .string sx] 57) = W1 at *
        obtain ⟨g0, g1, g2⟩ := hbx.grown
        have z0 : ∀ d os, (grow (redrawn W1 d) os).cell? ⟨b, o, none⟩ = some (.int .i64 ky) := fun d os => cell_regrown y0' d os
        refine wp_region_quiet_below (by kernel_rfl) (by kernel_rfl) ?_
        repeat (go_big_quiet_step ((go_at_call 69; exact QR.out _ _ _)))
        refine wpQuiet_nil ?_
        intro _ hw'
        obtain ⟨⟨dq, osq⟩, hw''⟩ := hw'
        subst hw''
        have D2 := Lib.hid (below_step D1.out (below_regrown W1 dq osq))
        clear g0 g1 g2 z0
        generalize grow (redrawn W1 dq) osq = W2 at *
        go_wp2_with fail
        go_ret
        exact ⟨ret_bool (bag_bad HX.out HY.out (.inl HR.out)).symm, D2.out⟩
    · obtain rfl : k = n := by omega
      clear ht hb
      go_wp2_with fail
      go_ret
      exact ⟨ret_bool ((HT.out.all HL.out).trans (decide_eq_true (by omega))).symm, HB.out⟩

set_option maxHeartbeats 1600000 in
theorem vrefbag_any {w : World} {B n c : Nat} {A : Option Addr} {l : List Vl} (h : Vs w B A n c l) (hB : B ≤ w.heap.size) :
    Calls Try.prog 37 #[.slice A n c] w fun e w' => e = .returned (.bool (bagB l)) ∧ Below w.heap.size w w' := by
  have hlen := h.1
  have hcap := h.2.2.1
  have hle := h.2.1
  unfold maxLen at hcap
  have HV := Lib.hid h
  have HL := Lib.hid hlen
  clear h hlen
  go_enter Try.func37, Try.ntmps37
  go_wp2_with fail
  go_loopw [7] (fun i wr => ∃ k : Nat, k ≤ n ∧ k ≤ 16 ∧ i = .int .i64 k ∧ BagTo l k ∧ Below w.heap.size w wr) (fun i _ => n - (intOf i).toNat)
  case atStart => exact ⟨0, Nat.zero_le _, by omega, rfl, fun j x _ hj => by omega, Below.refl _ _⟩
  case round =>
    obtain ⟨k, hk, hk16, rfl, ht, hb⟩ := hrel
    have HT := Lib.hid ht
    have HB := Lib.hid hb
    by_cases hlt : k < n
    · obtain ⟨b, o, x, rfl, hbB, hx, hok, x0, x1, x2⟩ := (HV.out.below (hb.mono hB)).at_ hlt
      obtain ⟨b', o', y, hA, _, hy, _, y0, _, _⟩ := (HV.out.below (hb.mono hB)).at_ (k := 0) (by omega)
      injection hA with hA
      injection hA with hA1 hA2
      subst hA1 hA2
      simp only [Nat.zero_mul, Nat.add_zero] at y0
      obtain ⟨kx, nx, sx⟩ := x
      obtain ⟨ky, ny, sy⟩ := y
      have HX := Lib.hid hx
      have HY := Lib.hid hy
      have qr := fun W d os => Calls.regrown_of (w := W) (d := d) (os := os) (refright_any kx nx sx hok.2.2 (grow (redrawn W d) os))
      have hlo : (0 : Int) < (n : Int) := by omega
      have y0' : (wr.alloc (.cells #[.int .i64 kx, .int .i64 nx, .string sx] 57)).cell? ⟨b, o, none⟩ = some (.int .i64 ky) := by
        rw [World.cell?_of_block (Below.heap_alloc wr _ b (by have := hb.size; omega))]; exact y0
      have hbx := Bx.made wr kx nx sx
      have D1 := Lib.hid (hb.alloc hb.size (.cells #[.int .i64 kx, .int .i64 nx, .string sx] 57))
      clear ht hb hx hy hok
      by_cases hr : RightV kx nx sx.data.toList
      · have HR : Hid (Vl.right ⟨kx, nx, sx⟩) := hr
        rw [decide_eq_true hr] at qr
        have QR := Lib.hid qr
        clear qr hr
        by_cases hkk : kx = ky
        · have hne : (kx != ky) = false := by simp [hkk]
          have HK := Lib.hid hkk
          clear hkk
          by_cases h16 : k = 16
          · subst h16
            go_wp2_with fail
            generalize wr.alloc (.cells #[.int .i64 kx, .int .i64 nx, .string sx] 57) = W1 at *
            obtain ⟨g0, g1, g2⟩ := hbx.grown
            have z0 : ∀ d os, (grow (redrawn W1 d) os).cell? ⟨b, o, none⟩ = some (.int .i64 ky) := fun d os => cell_regrown y0' d os
            refine wp_region_quiet_below (by kernel_rfl) (by kernel_rfl) ?_
            repeat (go_big_quiet_step ((go_at_call 56; exact QR.out _ _ _)))
            refine wpQuiet_nil ?_
            intro _ hw'
            obtain ⟨⟨dq, osq⟩, hw''⟩ := hw'
            subst hw''
            have D2 := Lib.hid (below_step D1.out (below_regrown W1 dq osq))
            clear g0 g1 g2 z0
            generalize grow (redrawn W1 dq) osq = W2 at *
            go_wp2_with fail
            go_ret
            exact ⟨ret_bool (bag_long (by have := HL.out; omega)).symm, D2.out⟩
          · have hd16 : decide (16 ≤ (k : Int)) = false := decide_eq_false (by omega)
            have hk15 : k < 16 := by omega
            go_wp2_with fail
            generalize wr.alloc (.cells #[.int .i64 kx, .int .i64 nx, .string sx] 57) = W1 at *
            obtain ⟨g0, g1, g2⟩ := hbx.grown
            have z0 : ∀ d os, (grow (redrawn W1 d) os).cell? ⟨b, o, none⟩ = some (.int .i64 ky) := fun d os => cell_regrown y0' d os
            refine wp_region_quiet_below (by kernel_rfl) (by kernel_rfl) ?_
            repeat (go_big_quiet_step ((go_at_call 56; exact QR.out _ _ _)))
            refine wpQuiet_nil ?_
            intro _ hw'
            obtain ⟨⟨dq, osq⟩, hw''⟩ := hw'
            subst hw''
            have D2 := Lib.hid (below_step D1.out (below_regrown W1 dq osq))
            clear g0 g1 g2 z0
            generalize grow (redrawn W1 dq) osq = W2 at *
            go_wp2_with fail
            go_roundw
            case rel => exact ⟨k + 1, by omega, by omega, by go_num, HT.out.step HX.out HR.out HY.out HK.out, D2.out⟩
            case measure => simp [intOf]; omega
        · have hne : (kx != ky) = true := by rw [bne_iff_ne]; exact hkk
          have HK := Lib.hid hkk
          clear hkk
          go_wp2_with fail
          generalize wr.alloc (.cells #[.int .i64 kx, .int .i64 nx, .string sx] 57) = W1 at *
          obtain ⟨g0, g1, g2⟩ := hbx.grown
          have z0 : ∀ d os, (grow (redrawn W1 d) os).cell? ⟨b, o, none⟩ = some (.int .i64 ky) := fun d os => cell_regrown y0' d os
          refine wp_region_quiet_below (by kernel_rfl) (by kernel_rfl) ?_
          repeat (go_big_quiet_step ((go_at_call 56; exact QR.out _ _ _)))
          refine wpQuiet_nil ?_
          intro _ hw'
          obtain ⟨⟨dq, osq⟩, hw''⟩ := hw'
          subst hw''
          have D2 := Lib.hid (below_step D1.out (below_regrown W1 dq osq))
          clear g0 g1 g2 z0
          generalize grow (redrawn W1 dq) osq = W2 at *
          go_wp2_with fail
          go_ret
          exact ⟨ret_bool (bag_bad HX.out HY.out (.inr HK.out)).symm, D2.out⟩
      · have HR : Hid (¬ Vl.right ⟨kx, nx, sx⟩) := hr
        rw [decide_eq_false hr] at qr
        have QR := Lib.hid qr
        clear qr hr
        go_wp2_with fail
        generalize wr.alloc (.cells #[.int .i64 kx, .int .i64 nx, .string sx] 57) = W1 at *
        obtain ⟨g0, g1, g2⟩ := hbx.grown
        have z0 : ∀ d os, (grow (redrawn W1 d) os).cell? ⟨b, o, none⟩ = some (.int .i64 ky) := fun d os => cell_regrown y0' d os
        refine wp_region_quiet_below (by kernel_rfl) (by kernel_rfl) ?_
        repeat (go_big_quiet_step ((go_at_call 56; exact QR.out _ _ _)))
        refine wpQuiet_nil ?_
        intro _ hw'
        obtain ⟨⟨dq, osq⟩, hw''⟩ := hw'
        subst hw''
        have D2 := Lib.hid (below_step D1.out (below_regrown W1 dq osq))
        clear g0 g1 g2 z0
        generalize grow (redrawn W1 dq) osq = W2 at *
        go_wp2_with fail
        go_ret
        exact ⟨ret_bool (bag_bad HX.out HY.out (.inl HR.out)).symm, D2.out⟩
    · obtain rfl : k = n := by omega
      clear ht hb
      go_wp2_with fail
      go_ret
      exact ⟨ret_bool ((HT.out.all HL.out).trans (decide_eq_true (by omega))).symm, HB.out⟩

end Go.Proofs.Ytincnopaclmppaa
