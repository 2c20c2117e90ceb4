/- The reference's Walk (gen16rwalk.py). -/
import Derived.Test.YtipeefehhaffkaaDagWalk
namespace Go.Proofs.Ytipeefehhaffkaa
set_option linter.unusedVariables false
open Go.RowKit Go.Sort

section
variable {w : World} {base g : Nat} {most : Int} {A : Option Addr} {n c : Nat} {l : List Br}
set_option maxRecDepth 100000 in
set_option maxHeartbeats 6400000 in
theorem rwalk_any (h : DgAt 41 w base g most A n c l) (r : Int) (hr : InI r) {B n2 c2 : Nat} {A2 : Option Addr} {s : List Int} (hs : Sl w B A2 n2 c2 (nv s)) (hB : B ≤ w.heap.size) : Calls Try.prog 16 #[.pointer (some ⟨g, 0, none⟩), .int .i64 r, .slice A2 n2 c2] w fun e w' => e = .returned (.int .i64 (walkD l r s)) ∧ Below w.heap.size w w' := by
  unfold InI at hr
  have hf := h.few
  have hlen := h.len
  have hle2 := hs.le
  have hcap2 := hs.cap
  unfold maxLen at hcap2
  obtain ⟨c0, c1⟩ := h.cells
  have hgl := h.glt
  by_cases hbig : (n : Int) ≤ r
  · have HE : Hid (walkD l r s = -1) := by show _ = _; unfold walkD; rw [if_pos (by omega)]
    clear h hs
    go_enter Try.func16, Try.ntmps16
    go_wp2_with fail
    go_ret
    exact ⟨ret_int HE.out.symm, Below.refl _ _⟩
  · have HE : Hid (walkD l r s = endG l (ansD s) r) := by show _ = _; unfold walkD; rw [if_neg (by omega)]
    have H := Lib.hid h
    have HS := Lib.hid hs
    clear h hs
    go_enter Try.func16, Try.ntmps16
    go_wp2_with fail
    go_loopw [1] (fun i wr => ∃ y : Int, i = .int .i64 y ∧ (-9223372036854775808 ≤ y ∧ y < (n : Int)) ∧ endG l (ansD s) y = endG l (ansD s) r ∧ Below w.heap.size w wr) (fun i _ => (intOf i + 1).toNat)
    case atStart => exact ⟨r, rfl, ⟨hr.1, by omega⟩, rfl, Below.refl _ _⟩
    case round =>
      clear c0 c1
      obtain ⟨w1, hw1⟩ : ∃ w1, w1 = wr := ⟨wr, rfl⟩
      subst hw1
      obtain ⟨y, rfl, ⟨hy0, hy1⟩, heq, hb⟩ := hrel
      have HEQ := Lib.hid heq
      have HB := Lib.hid hb
      clear heq hb
      by_cases hneg : y < 0
      · have hw := neg_wrap hneg hy0
        have HV : Hid (-1 - y = walkD l r s) := by show _ = _; rw [HE.out, ← HEQ.out, endG_neg hneg]
        have hn0 : ¬ 0 ≤ y := by omega
        go_wp2_with fail
        go_ret
        exact ⟨ret_int HV.out, HB.out⟩
      · obtain ⟨k, rfl⟩ : ∃ k : Nat, y = (k : Int) := ⟨y.toNat, by omega⟩
        have H1 := Lib.hid (H.out.below HB.out)
        obtain ⟨d0, d1⟩ := H1.out.cells
        obtain ⟨b, o, x, hA, hbl, hx, hok, x0, x1, x2, x3⟩ := H1.out.at_ (k := k) (by omega)
        subst hA
        have hgl1 := H1.out.glt
        obtain ⟨xa, xx, xy, xz⟩ := x
        simp only at x0 x1 x2 x3
        have hkn : (k : Int) < (n : Int) := hy1
        obtain ⟨ka, hka⟩ : ∃ ka : Nat, xa = (ka : Int) := ⟨xa.toNat, by have h1 := hok.1.1; simp only at h1; omega⟩
        subst hka
        have HST : Hid (endG l (ansD s) (k : Int) = endG l (ansD s) ((⟨(ka : Int), xx, xy, xz⟩ : Br).to (ansD s (ka : Int)))) := endG_step H.out.dg (by omega) (by rw [Int.toNat_natCast]; exact hx)
        have HKID := Lib.hid hok.2.1
        have B1 := Lib.hid (below_step HB.out (below1 w1 (.cells #[.int .i64 (ka : Int), .int .i64 xx, .int .i64 xy, .int .i64 xz] 30)))
        obtain ⟨q, hq⟩ : ∃ q, ansD s (ka : Int) = q := ⟨_, rfl⟩
        have hq2 : q ≤ 2 := by rw [← hq]; exact ansD_two s _
        rw [hq] at HST
        have HQ := Lib.hid hq
        clear hx hok hq hneg
        by_cases hin : ka < n2
        · obtain ⟨b2, o2, v, hA2, hb2, hv, v0⟩ := (HS.out.below (HB.out.mono hB)).num hin
          have hbl2 : b2 < w1.heap.size := by have := HB.out.size; omega
          subst hA2
          have HA := Lib.hid (ansD_in hv)
          rw [HQ.out] at HA
          clear hv
          have hinI : (ka : Int) < (n2 : Int) := by omega
          by_cases h0 : v < 0
          · obtain rfl : q = 1 := by have := HA.out; rw [if_neg (by omega)] at this; omega
            have h0' : ¬ 0 ≤ v := by omega
            clear h0 hq2
            obtain ⟨e0, e1, _⟩ := HKID.out 1
            simp only [Br.to] at e0 e1
            have HST : Hid (endG l (ansD s) (k : Int) = endG l (ansD s) xy) := HST.out
            go_wp2_with fail
            go_roundw
            case rel => exact ⟨_, rfl, ⟨by omega, by omega⟩, by rw [← HST.out, HEQ.out], B1.out⟩
            case measure => simp [intOf]; omega
          by_cases h2 : 2 < v
          · obtain rfl : q = 1 := by have := HA.out; rw [if_neg (by omega)] at this; omega
            have h2' : ¬ v ≤ 2 := by omega
            have h0' : 0 ≤ v := by omega
            clear h2 h0 hq2
            obtain ⟨e0, e1, _⟩ := HKID.out 1
            simp only [Br.to] at e0 e1
            have HST : Hid (endG l (ansD s) (k : Int) = endG l (ansD s) xy) := HST.out
            go_wp2_with fail
            go_roundw
            case rel => exact ⟨_, rfl, ⟨by omega, by omega⟩, by rw [← HST.out, HEQ.out], B1.out⟩
            case measure => simp [intOf]; omega
          · have hvq : v = (q : Int) := by have := HA.out; rw [if_pos (by omega)] at this; omega
            subst hvq
            clear h0 h2
            rcases (show q = 0 ∨ q = 1 ∨ q = 2 by omega) with rfl | rfl | rfl
            · obtain ⟨e0, e1, _⟩ := HKID.out 0
              simp only [Br.to] at e0 e1
              have HST : Hid (endG l (ansD s) (k : Int) = endG l (ansD s) xx) := HST.out
              go_wp2_with fail
              go_roundw
              case rel => exact ⟨_, rfl, ⟨by omega, by omega⟩, by rw [← HST.out, HEQ.out], B1.out⟩
              case measure => simp [intOf]; omega
            · obtain ⟨e0, e1, _⟩ := HKID.out 1
              simp only [Br.to] at e0 e1
              have HST : Hid (endG l (ansD s) (k : Int) = endG l (ansD s) xy) := HST.out
              go_wp2_with fail
              go_roundw
              case rel => exact ⟨_, rfl, ⟨by omega, by omega⟩, by rw [← HST.out, HEQ.out], B1.out⟩
              case measure => simp [intOf]; omega
            · obtain ⟨e0, e1, _⟩ := HKID.out 2
              simp only [Br.to] at e0 e1
              have HST : Hid (endG l (ansD s) (k : Int) = endG l (ansD s) xz) := HST.out
              go_wp2_with fail
              go_roundw
              case rel => exact ⟨_, rfl, ⟨by omega, by omega⟩, by rw [← HST.out, HEQ.out], B1.out⟩
              case measure => simp [intOf]; omega
        · obtain rfl : q = 1 := by
            have h1 := ansD_out (s := s) (k := ka) (by have := HS.out.nlen; omega)
            rw [HQ.out] at h1
            omega
          have hinI : ¬ (ka : Int) < (n2 : Int) := by omega
          clear hin hq2
          obtain ⟨e0, e1, _⟩ := HKID.out 1
          simp only [Br.to] at e0 e1
          have HST : Hid (endG l (ansD s) (k : Int) = endG l (ansD s) xy) := HST.out
          go_wp2_with fail
          go_roundw
          case rel => exact ⟨_, rfl, ⟨by omega, by omega⟩, by rw [← HST.out, HEQ.out], B1.out⟩
          case measure => simp [intOf]; omega
end
end Go.Proofs.Ytipeefehhaffkaa
