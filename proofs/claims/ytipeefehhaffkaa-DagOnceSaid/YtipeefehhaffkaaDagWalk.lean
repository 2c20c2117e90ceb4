/- The diagram's Walk: by goto (gen16walk.py). -/
import Derived.Test.YtipeefehhaffkaaDagW2
import Derived.ScopeJumps
import Derived.WalkMore
namespace Go.Proofs.Ytipeefehhaffkaa
set_option linter.unusedVariables false
open Go.RowKit Go.Sort

theorem neg_wrap {x : Int} (h0 : x < 0) (h1 : -9223372036854775808 ≤ x) : IntKind.i64.wrap (-1 - x) = -1 - x := by
  rw [IntKind.wrap_i64]; omega
section
variable {w : World} {base g : Nat} {most : Int} {A : Option Addr} {n c : Nat} {l : List Br}
set_option maxRecDepth 100000 in
set_option maxHeartbeats 3200000 in
theorem walk_any (h : DgAt 57 w base g most A n c l) (r : Int) (hr : InI r) {B n2 c2 : Nat} {A2 : Option Addr} {s : List Int} (hs : Sl w B A2 n2 c2 (nv s)) (hB : B ≤ w.heap.size) : Calls Try.prog 11 #[.pointer (some ⟨g, 0, none⟩), .int .i64 r, .slice A2 n2 c2] w fun e w' => e = .returned (.int .i64 (walkD l r s)) ∧ Below w.heap.size w w' := by
  unfold InI at hr
  have hf := h.few
  have hlen := h.len
  obtain ⟨c0, c1⟩ := h.cells
  have hgl := h.glt
  by_cases hbig : (n : Int) ≤ r
  · have HE : Hid (walkD l r s = -1) := by show _ = _; unfold walkD; rw [if_pos (by omega)]
    clear h hs
    go_enter Try.func11, Try.ntmps11
    go_wp2_with fail
    go_step3
    go_wp2_with fail
    try rw [Exit.noGoto_ret]
    go_ret
    exact ⟨ret_int HE.out.symm, Below.refl _ _⟩
  · have HE : Hid (walkD l r s = endG l (ansD s) r) := by show _ = _; unfold walkD; rw [if_neg (by omega)]
    have H := Lib.hid h
    have HS := Lib.hid hs
    clear h hs
    go_enter Try.func11, Try.ntmps11
    go_wp2_with fail
    refine wp_scope_jumps 0 (fun a' w' => Below w.heap.size w w' ∧ ∃ (y : Int) (u3 u4 u5 u8 u9 u10 u11 u12 u13 u14 u15 u16 u17 u18 u19 u20 u21 u22 u23 u24 u25 u26 u27 u28 u29 u30 u31 u32 u33 u34 : Value), a' = { tmps := #[.pointer (some ⟨g, 0, none⟩), .int .i64 r, .slice A2 n2 c2, u3, u4, u5, .int .i64 0, .int .i64 y, u8, u9, u10, u11, u12, u13, u14, u15, u16, u17, u18, u19, u20, u21, u22, u23, u24, u25, u26, u27, u28, u29, u30, u31, u32, u33, u34], defers := [] } ∧ (-9223372036854775808 ≤ y ∧ y < (n : Int)) ∧ endG l (ansD s) y = endG l (ansD s) r) (fun a' _ => (intOf (a'.tmps.getD 7 undef) + 1).toNat) rfl ?_ ?_
    · go_wp2_with fail
      go_step3
      have HB : Hid (Below w.heap.size w w) := Below.refl _ _
      obtain ⟨y, rfl⟩ : ∃ y, y = r := ⟨_, rfl⟩
      have HEQ : Hid (endG l (ansD s) y = endG l (ansD s) y) := rfl
      have HEQ2 := HEQ
      have hy0 := hr.1
      have hy1 : y < (n : Int) := by omega
      have hneg' : ¬ y < 0 → 0 ≤ y := by omega
      by_cases hneg : y < 0
      · have hw := neg_wrap hneg hy0
        have HV : Hid (-1 - y = walkD l y s) := by show _ = _; rw [HE.out, endG_neg hneg]
        go_wp2_with fail
        try go_step3
        try go_wp2_with fail
        try simp only [Exit.jump]
        go_ret
        exact ⟨ret_int HV.out, HB.out⟩
      · obtain ⟨k, rfl⟩ : ∃ k : Nat, y = (k : Int) := ⟨y.toNat, by omega⟩
        have H1 := Lib.hid (H.out.below HB.out)
        obtain ⟨d0, d1⟩ := H1.out.cells
        obtain ⟨b, o, x, rfl, hbl, hx, hok, x0, x1, x2, x3⟩ := H1.out.at_ (k := k) (by omega)
        have hgl := H1.out.glt
        obtain ⟨xa, xx, xy, xz⟩ := x
        simp only at x0 x1 x2 x3
        have hkn : (k : Int) < (n : Int) := hy1
        have hk0 : ¬ (k : Int) < 0 := hneg
        obtain ⟨ka, hka⟩ : ∃ ka : Nat, xa = (ka : Int) := ⟨xa.toNat, by have h1 := hok.1.1; simp only at h1; omega⟩
        subst hka
        have HST : Hid (endG l (ansD s) (k : Int) = endG l (ansD s) ((⟨(ka : Int), xx, xy, xz⟩ : Br).to (ansD s (ka : Int)))) := endG_step H.out.dg (by omega) (by rw [Int.toNat_natCast]; exact hx)
        have HKID := Lib.hid hok.2.1
        clear hok
        have B1 := Lib.hid (below_step HB.out (below1 w (.cells #[.int .i64 (ka : Int), .int .i64 xx, .int .i64 xy, .int .i64 xz] 30)))
        have HC := Lib.hid (answer_any (HS.out.below (B1.out.mono hB)) ka)
        obtain ⟨q, hq⟩ : ∃ q, ansD s (ka : Int) = q := ⟨_, rfl⟩
        have hq2 : q ≤ 2 := by rw [← hq]; exact ansD_two s _
        rw [hq] at HC HST
        clear hq hx HEQ2
        rcases (show q = 0 ∨ q = 1 ∨ q = 2 by omega) with rfl | rfl | rfl
        · have hkid := HKID.out 0
          have HST : Hid (endG l (ansD s) (k : Int) = endG l (ansD s) xx) := HST.out
          simp only [Br.to] at hkid
          obtain ⟨e0, e1, _⟩ := hkid
          go_wp2_with fail
          refine HC.out.mono ?_
          rintro e w2 ⟨rfl, hww⟩
          rw [← hww]
          clear hww
          go_wp2_with fail
          try go_step3
          refine ⟨rfl, B1.out, xx, _, _, _, _, _, _, _, _, _, _, _, _, _, _, _, _, _, _, _, _, _, _, _, _, _, _, _, _, _, _, rfl, ⟨by omega, by omega⟩, by rw [HST.out]⟩
        · have hkid := HKID.out 1
          have HST : Hid (endG l (ansD s) (k : Int) = endG l (ansD s) xy) := HST.out
          simp only [Br.to] at hkid
          obtain ⟨e0, e1, _⟩ := hkid
          go_wp2_with fail
          refine HC.out.mono ?_
          rintro e w2 ⟨rfl, hww⟩
          rw [← hww]
          clear hww
          go_wp2_with fail
          try go_step3
          refine ⟨rfl, B1.out, xy, _, _, _, _, _, _, _, _, _, _, _, _, _, _, _, _, _, _, _, _, _, _, _, _, _, _, _, _, _, _, rfl, ⟨by omega, by omega⟩, by rw [HST.out]⟩
        · have hkid := HKID.out 2
          have HST : Hid (endG l (ansD s) (k : Int) = endG l (ansD s) xz) := HST.out
          simp only [Br.to] at hkid
          obtain ⟨e0, e1, _⟩ := hkid
          go_wp2_with fail
          refine HC.out.mono ?_
          rintro e w2 ⟨rfl, hww⟩
          rw [← hww]
          clear hww
          go_wp2_with fail
          try go_step3
          refine ⟨rfl, B1.out, xz, _, _, _, _, _, _, _, _, _, _, _, _, _, _, _, _, _, _, _, _, _, _, _, _, _, _, _, _, _, _, rfl, ⟨by omega, by omega⟩, by rw [HST.out]⟩
    · rintro a' w1 ⟨hb, y, u3, u4, u5, u8, u9, u10, u11, u12, u13, u14, u15, u16, u17, u18, u19, u20, u21, u22, u23, u24, u25, u26, u27, u28, u29, u30, u31, u32, u33, u34, rfl, ⟨hy0, hy1⟩, heq⟩
      have HB := Lib.hid hb
      have HEQ := Lib.hid heq
      have HEQ2 := HEQ
      have hneg' : ¬ y < 0 → 0 ≤ y := by omega
      clear hb heq c0 c1
      by_cases hneg : y < 0
      · have hw := neg_wrap hneg hy0
        have HV : Hid (-1 - y = walkD l r s) := by show _ = _; rw [HE.out, ← HEQ.out, endG_neg hneg]
        go_wp2_with fail
        try go_step3
        try go_wp2_with fail
        try simp only [Exit.jump]
        go_ret
        exact ⟨ret_int HV.out, HB.out⟩
      · obtain ⟨k, rfl⟩ : ∃ k : Nat, y = (k : Int) := ⟨y.toNat, by omega⟩
        have H1 := Lib.hid (H.out.below HB.out)
        obtain ⟨d0, d1⟩ := H1.out.cells
        obtain ⟨b, o, x, rfl, hbl, hx, hok, x0, x1, x2, x3⟩ := H1.out.at_ (k := k) (by omega)
        have hgl := H1.out.glt
        obtain ⟨xa, xx, xy, xz⟩ := x
        simp only at x0 x1 x2 x3
        have hkn : (k : Int) < (n : Int) := hy1
        have hk0 : ¬ (k : Int) < 0 := hneg
        obtain ⟨ka, hka⟩ : ∃ ka : Nat, xa = (ka : Int) := ⟨xa.toNat, by have h1 := hok.1.1; simp only at h1; omega⟩
        subst hka
        have HST : Hid (endG l (ansD s) (k : Int) = endG l (ansD s) ((⟨(ka : Int), xx, xy, xz⟩ : Br).to (ansD s (ka : Int)))) := endG_step H.out.dg (by omega) (by rw [Int.toNat_natCast]; exact hx)
        have HKID := Lib.hid hok.2.1
        clear hok
        have B1 := Lib.hid (below_step HB.out (below1 w1 (.cells #[.int .i64 (ka : Int), .int .i64 xx, .int .i64 xy, .int .i64 xz] 30)))
        have HC := Lib.hid (answer_any (HS.out.below (B1.out.mono hB)) ka)
        obtain ⟨q, hq⟩ : ∃ q, ansD s (ka : Int) = q := ⟨_, rfl⟩
        have hq2 : q ≤ 2 := by rw [← hq]; exact ansD_two s _
        rw [hq] at HC HST
        clear hq hx HEQ2
        rcases (show q = 0 ∨ q = 1 ∨ q = 2 by omega) with rfl | rfl | rfl
        · have hkid := HKID.out 0
          have HST : Hid (endG l (ansD s) (k : Int) = endG l (ansD s) xx) := HST.out
          simp only [Br.to] at hkid
          obtain ⟨e0, e1, _⟩ := hkid
          go_wp2_with fail
          refine HC.out.mono ?_
          rintro e w2 ⟨rfl, hww⟩
          rw [← hww]
          clear hww
          go_wp2_with fail
          try go_step3
          refine ⟨rfl, ⟨B1.out, xx, _, _, _, _, _, _, _, _, _, _, _, _, _, _, _, _, _, _, _, _, _, _, _, _, _, _, _, _, _, _, rfl, ⟨by omega, by omega⟩, by rw [← HEQ.out, HST.out]⟩, ?_⟩
          simp [intOf]
          omega
        · have hkid := HKID.out 1
          have HST : Hid (endG l (ansD s) (k : Int) = endG l (ansD s) xy) := HST.out
          simp only [Br.to] at hkid
          obtain ⟨e0, e1, _⟩ := hkid
          go_wp2_with fail
          refine HC.out.mono ?_
          rintro e w2 ⟨rfl, hww⟩
          rw [← hww]
          clear hww
          go_wp2_with fail
          try go_step3
          refine ⟨rfl, ⟨B1.out, xy, _, _, _, _, _, _, _, _, _, _, _, _, _, _, _, _, _, _, _, _, _, _, _, _, _, _, _, _, _, _, rfl, ⟨by omega, by omega⟩, by rw [← HEQ.out, HST.out]⟩, ?_⟩
          simp [intOf]
          omega
        · have hkid := HKID.out 2
          have HST : Hid (endG l (ansD s) (k : Int) = endG l (ansD s) xz) := HST.out
          simp only [Br.to] at hkid
          obtain ⟨e0, e1, _⟩ := hkid
          go_wp2_with fail
          refine HC.out.mono ?_
          rintro e w2 ⟨rfl, hww⟩
          rw [← hww]
          clear hww
          go_wp2_with fail
          try go_step3
          refine ⟨rfl, ⟨B1.out, xz, _, _, _, _, _, _, _, _, _, _, _, _, _, _, _, _, _, _, _, _, _, _, _, _, _, _, _, _, _, _, rfl, ⟨by omega, by omega⟩, by rw [← HEQ.out, HST.out]⟩, ?_⟩
          simp [intOf]
          omega
end
end Go.Proofs.Ytipeefehhaffkaa
