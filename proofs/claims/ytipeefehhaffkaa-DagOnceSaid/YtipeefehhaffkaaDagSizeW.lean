/- Size, by marks from the root downward (gen16size.py ours). -/
import Derived.Test.YtipeefehhaffkaaDagW2
import Derived.Test.YtipeefehhaffkaaDagSizeM
import Derived.Test.YtipeefehhaffkaaBools
import Derived.Deep.CutRange
namespace Go.Proofs.Ytipeefehhaffkaa
set_option linter.unusedVariables false
open Go.RowKit Go.Sort

section
variable {w : World} {base g : Nat} {most : Int} {A : Option Addr} {n c : Nat} {l : List Br}
set_option maxRecDepth 100000 in
set_option maxHeartbeats 6400000 in
theorem size_any (h : DgAt 57 w base g most A n c l) (z : Int) (hz : InI z) : Calls Try.prog 12 #[.pointer (some ⟨g, 0, none⟩), .int .i64 z] w fun e w' => e = .returned (.int .i64 (sizeD l z)) ∧ Below w.heap.size w w' := by
  unfold InI at hz
  have hf := h.few
  have hlen := h.len
  have hgl := h.glt
  obtain ⟨c0, c1⟩ := h.cells
  have HB := Lib.hid (branch_any h z hz)
  by_cases hin : 0 ≤ z ∧ z < n
  case neg =>
    have HR := Lib.hid (brD_out (l := l) (i := z) (by rw [hlen]; exact hin))
    have HE : Hid (sizeD l z = 0) := by
      show _ = _
      by_cases h0 : z < 0
      · exact size_neg h0
      · exact size_big (by omega)
    rw [HR.out.1, HR.out.2] at HB
    clear h hlen hin
    go_enter Try.func12, Try.ntmps12
    go_wp2_with fail
    refine HB.out.mono ?_
    rintro e w1 ⟨rfl, hb⟩
    simp only [Br.val]
    have HX := Lib.hid hb
    clear hb
    go_wp2_with fail
    go_ret
    exact ⟨ret_int (by rw [HE.out]; rfl), below_step HX.out (below1 _ _)⟩
  obtain ⟨r, rfl⟩ : ∃ r : Nat, z = (r : Int) := ⟨z.toNat, by omega⟩
  have hrn : r < n := by omega
  have HL := Lib.hid hlen
  have HD := Lib.hid h.dg
  have hmk := make_bools (r + 1) (by omega)
  have hrI : (r : Int) < (n : Int) := by omega
  have hr0 : ¬ (r : Int) < 0 := by omega
  obtain ⟨x, hx⟩ : ∃ x, l[r]? = some x := ⟨_, List.getElem?_eq_getElem (by omega)⟩
  rw [(brD_in hx).1, (brD_in hx).2] at HB
  have hp1 : ((r : Int) + 1) = ((r + 1 : Nat) : Int) := by omega
  rw [show ((r + 1 : Nat) : Int) = (r : Int) + 1 by omega] at hmk
  have H := Lib.hid h
  obtain ⟨ba, bx, bY, bz⟩ := x
  clear h hlen hin hx hp1
  go_enter Try.func12, Try.ntmps12
  go_wp2_with fail
  refine HB.out.mono ?_
  rintro e w1 ⟨rfl, hb⟩
  simp only [Br.val]
  have HX := Lib.hid (below_step hb (below1 w1 (.cells #[.int .i64 ba, .int .i64 bx, .int .i64 bY, .int .i64 bz] 30)))
  obtain ⟨W1, hW1⟩ : ∃ W, w1.alloc (.cells #[.int .i64 ba, .int .i64 bx, .int .i64 bY, .int .i64 bz] 30) = W := ⟨_, rfl⟩
  rw [hW1] at HX
  clear hb c0 c1
  go_upto_region 4 with fail
  try rw [hW1]
  clear hW1
  have HM : Hid (Ob (W1.alloc (.cells (bb (List.replicate (r + 1) false)) 4)) W1.heap.size 4 (bb (List.replicate (r + 1) false))) := Ob.made _ _ _
  have HX2 := Lib.hid (below_step HX.out (below1 W1 (.cells (bb (List.replicate (r + 1) false)) 4)))
  have HW2 := Lib.hid (below1 W1 (.cells (bb (List.replicate (r + 1) false)) 4))
  obtain ⟨W, hW⟩ : ∃ W, W1.alloc (.cells (bb (List.replicate (r + 1) false)) 4) = W := ⟨_, rfl⟩
  obtain ⟨gm, hgm⟩ : ∃ gm, W1.heap.size = gm := ⟨_, rfl⟩
  rw [hW] at HM HX2 HW2
  have HG : Hid (w.heap.size ≤ gm) := by show _ ≤ _; rw [← hgm]; exact HX.out.size
  rw [hgm] at HM HW2
  have HWE := Lib.hid hW
  have HGE := Lib.hid hgm
  clear hW hgm
  go_upto_region 5 with fail
  rw [HWE.out, HGE.out]
  have hcr : W.cell? ⟨gm, r, none⟩ = some (.bool false) := bb_at HM.out (by rw [List.getElem?_replicate, if_pos (by omega)])
  have hfr := HM.out.frozen r
  have H2 := Lib.hid (H.out.below HX2.out)
  have M0 := Lib.hid (bb_put HM.out r)
  have HMF := Lib.hid (MarkF.start (L := (r + 1)) HD.out (show r < (r + 1) by omega))
  clear hmk HWE HGE
  have hrL : (r : Int) < (((r + 1) : Nat) : Int) := by omega
  go_wp2_with fail
  have ON := Lib.hid (Only.refl.setCell (w := W) (r := gm) (p := ⟨gm, r, none⟩) rfl (.bool true))
  obtain ⟨V, hV⟩ : ∃ V, W.setCell ⟨gm, r, none⟩ (.bool true) = V := ⟨_, rfl⟩
  rw [hV] at M0 ON
  try rw [hV]
  clear hV hcr hfr
  have HGA : Hid (∀ V, Only gm W V → DgAt 57 V base g most A n c l) := fun V hV => H2.out.keep ⟨hV.le, fun b hb hl => hV.heap hl (fun e => by
    have h1 := (H.out.lt b hb).2
    have := HG.out
    omega)⟩

  go_loopw [8, 9] (fun m i wr => ∃ (k : Nat) (q : Int) (f : List Bool), i = .int .i64 q ∧ q + 1 = (k : Int) ∧ k ≤ r + 1 ∧ m = .int .i64 (cntD l (r : Int) k) ∧ MarkF l r k f (r + 1) ∧ Ob wr gm 4 (bb f) ∧ Only gm W wr) (fun _ i _ => (intOf i + 1).toNat)
  case atStart => exact ⟨r + 1, (r : Int), _, rfl, by omega, Nat.le_refl _, by rw [cnt_top HD.out (by omega)]; rfl, HMF.out, M0.out, ON.out⟩
  case round =>
    clear HMF M0 ON
    obtain ⟨k, q, f, rfl, hq, hk, rfl, hm, ho, hon⟩ := hrel
    have HMF := Lib.hid hm
    have O := Lib.hid ho
    have ON := Lib.hid hon
    clear hm ho hon
    match k, hq, hk, HMF with
    | 0, hq, hk, HMF =>
      obtain rfl : q = -1 := by omega
      have HE : Hid ((cntD l (r : Int) 0 : Int) = (sizeD l (r : Int) : Int)) := by show _ = _; rw [cnt_zero]
      go_wp2_with fail
      go_ret
      exact ⟨ret_int HE.out, HX2.out.trans (ON.out.below (HX2.out.size) HG.out)⟩
    | k + 1, hq, hk, HMF =>
      obtain rfl : q = (k : Int) := by omega
      have hkn : k < n := by omega
      have hkL : k < (r + 1) := by omega
      have hkLI : (k : Int) < (((r + 1) : Nat) : Int) := by omega
      have HT := Lib.hid (HMF.out.turn HD.out hkL (by have := HL.out; omega) (by have := HL.out; omega))
      have hck := bb_at O.out HT.out
      have hdec : IntKind.i64.wrap ((k : Int) - 1) = (k : Int) - 1 := by rw [IntKind.wrap_i64]; omega
      obtain ⟨q, hqr⟩ : ∃ q, rch l (r : Int) k = q := ⟨_, rfl⟩
      have HQR := Lib.hid hqr
      rw [hqr] at hck
      clear hqr
      cases q
      · obtain ⟨s1, s2⟩ := HMF.out.skip (by have := HL.out; omega) HQR.out
        have S1 := Lib.hid s1
        have S2 := Lib.hid s2
        clear s1 s2
        go_wp2_with fail
        go_roundw
        case rel => exact ⟨k, (k : Int) - 1, f, rfl, by omega, by omega, by rw [S2.out], S1.out, O.out, ON.out⟩
        case measure => simp [intOf]
      · have H3 := Lib.hid (HGA.out _ ON.out)
        obtain ⟨b, o, x, hA, hbl, hx, hok, x0, x1, x2, x3⟩ := H3.out.at_ hkn
        subst hA
        obtain ⟨s1, s2⟩ := HMF.out.take hx HQR.out
        have S1 := Lib.hid s1
        have S2 := Lib.hid s2
        have HK := Lib.hid hok.2.1
        obtain ⟨xa, xx, xy, xz⟩ := x
        simp only at x0 x1 x2 x3
        obtain ⟨d0, d1⟩ := H3.out.cells
        have hcw : IntKind.i64.wrap ((cntD l (r : Int) (k + 1) : Int) + 1) = (cntD l (r : Int) k : Int) := by
          rw [IntKind.wrap_i64, s2]
          have h1 : cntD l (r : Int) (k + 1) ≤ l.length := by
            have := List.countP_le_length (p := fun j => decide (k + 1 ≤ j) && rch l (r : Int) j) (l := List.range l.length)
            rw [List.length_range] at this
            exact this
          have := HL.out
          omega
        clear s1 s2 hx hok
        have hkI : (k : Int) < (n : Int) := by omega
        obtain ⟨U, hU⟩ : ∃ U, U = wr := ⟨wr, rfl⟩
        subst hU
        go_wp2_with fail
        clear hcw hck x0 x1 x2 x3 d0 d1
        have i0 := ix_x xx xy xz
        have i1 := ix_y xx xy xz
        have i2 := ix_z xx xy xz
        go_loopw [46] (fun i wr => ∃ t : Nat, t ≤ 3 ∧ i = .int .i64 t ∧ Ob wr gm 4 (bb (mkN f ⟨xa, xx, xy, xz⟩ t)) ∧ Only gm W wr) (fun i _ => 3 - (intOf i).toNat)
        case atStart => exact ⟨0, by omega, rfl, O.out, ON.out⟩
        case round =>
          obtain ⟨t, ht, rfl, ho, hon⟩ := hrel
          have HKT := Lib.hid (HK.out t)
          have O2 := Lib.hid ho
          have ON2 := Lib.hid hon
          clear ho hon
          by_cases h3 : t = 3
          · subst h3
            go_wp2_with fail
            go_roundw
            case rel => exact ⟨k, (k : Int) - 1, _, rfl, by omega, by omega, rfl, S1.out, O2.out, ON2.out⟩
            case measure => simp [intOf]
          · have HLN : Hid ((mkN f ⟨xa, xx, xy, xz⟩ t).length = (r + 1)) := by show _ = _; rw [mkN_len]; exact HMF.out.1
            rcases (show t = 0 ∨ t = 1 ∨ t = 2 by omega) with rfl | rfl | rfl
            · obtain ⟨e0, e1, _⟩ := HKT.out
              simp only [Br.to] at e0 e1
              have HST : Hid (mkN f ⟨xa, xx, xy, xz⟩ 1 = mk1 (mkN f ⟨xa, xx, xy, xz⟩ 0) xx) := rfl
              by_cases hneg : xx < 0
              · have HST2 : Hid (mkN f ⟨xa, xx, xy, xz⟩ 1 = mkN f ⟨xa, xx, xy, xz⟩ 0) := by show _ = _; rw [HST.out]; unfold mk1; rw [if_neg (by omega)]
                go_wp2_with fail
                go_roundw
                case rel => exact ⟨1, by omega, rfl, by rw [HST2.out]; exact O2.out, ON2.out⟩
                case measure => simp [intOf]
              · obtain ⟨p, hp⟩ : ∃ p : Nat, xx = (p : Int) := ⟨xx.toNat, by omega⟩
                subst hp
                have hpL : (p : Int) < (((r + 1) : Nat) : Int) := by omega
                have HST2 : Hid (mkN f ⟨xa, (p : Int), xy, xz⟩ 1 = (mkN f ⟨xa, (p : Int), xy, xz⟩ 0).set p true) := by show _ = _; rw [HST.out]; unfold mk1; rw [if_pos (by omega), Int.toNat_natCast]
                obtain ⟨fb, hfb⟩ : ∃ fb, (mkN f ⟨xa, (p : Int), xy, xz⟩ 0)[p]? = some fb := ⟨_, List.getElem?_eq_getElem (by have := HLN.out; omega)⟩
                have hcp := bb_at O2.out hfb
                have hfp := O2.out.frozen p
                have O3 := Lib.hid (bb_put O2.out p)
                have ON3 := Lib.hid (ON2.out.setCell (p := ⟨gm, p, none⟩) rfl (.bool true))
                clear hfb
                go_wp2_with fail
                go_roundw
                case rel => exact ⟨1, by omega, rfl, by rw [HST2.out]; exact O3.out, ON3.out⟩
                case measure => simp [intOf]
            · obtain ⟨e0, e1, _⟩ := HKT.out
              simp only [Br.to] at e0 e1
              have HST : Hid (mkN f ⟨xa, xx, xy, xz⟩ 2 = mk1 (mkN f ⟨xa, xx, xy, xz⟩ 1) xy) := rfl
              by_cases hneg : xy < 0
              · have HST2 : Hid (mkN f ⟨xa, xx, xy, xz⟩ 2 = mkN f ⟨xa, xx, xy, xz⟩ 1) := by show _ = _; rw [HST.out]; unfold mk1; rw [if_neg (by omega)]
                go_wp2_with fail
                go_roundw
                case rel => exact ⟨2, by omega, rfl, by rw [HST2.out]; exact O2.out, ON2.out⟩
                case measure => simp [intOf]
              · obtain ⟨p, hp⟩ : ∃ p : Nat, xy = (p : Int) := ⟨xy.toNat, by omega⟩
                subst hp
                have hpL : (p : Int) < (((r + 1) : Nat) : Int) := by omega
                have HST2 : Hid (mkN f ⟨xa, xx, (p : Int), xz⟩ 2 = (mkN f ⟨xa, xx, (p : Int), xz⟩ 1).set p true) := by show _ = _; rw [HST.out]; unfold mk1; rw [if_pos (by omega), Int.toNat_natCast]
                obtain ⟨fb, hfb⟩ : ∃ fb, (mkN f ⟨xa, xx, (p : Int), xz⟩ 1)[p]? = some fb := ⟨_, List.getElem?_eq_getElem (by have := HLN.out; omega)⟩
                have hcp := bb_at O2.out hfb
                have hfp := O2.out.frozen p
                have O3 := Lib.hid (bb_put O2.out p)
                have ON3 := Lib.hid (ON2.out.setCell (p := ⟨gm, p, none⟩) rfl (.bool true))
                clear hfb
                go_wp2_with fail
                go_roundw
                case rel => exact ⟨2, by omega, rfl, by rw [HST2.out]; exact O3.out, ON3.out⟩
                case measure => simp [intOf]
            · obtain ⟨e0, e1, _⟩ := HKT.out
              simp only [Br.to] at e0 e1
              have HST : Hid (mkN f ⟨xa, xx, xy, xz⟩ 3 = mk1 (mkN f ⟨xa, xx, xy, xz⟩ 2) xz) := rfl
              by_cases hneg : xz < 0
              · have HST2 : Hid (mkN f ⟨xa, xx, xy, xz⟩ 3 = mkN f ⟨xa, xx, xy, xz⟩ 2) := by show _ = _; rw [HST.out]; unfold mk1; rw [if_neg (by omega)]
                go_wp2_with fail
                go_roundw
                case rel => exact ⟨3, by omega, rfl, by rw [HST2.out]; exact O2.out, ON2.out⟩
                case measure => simp [intOf]
              · obtain ⟨p, hp⟩ : ∃ p : Nat, xz = (p : Int) := ⟨xz.toNat, by omega⟩
                subst hp
                have hpL : (p : Int) < (((r + 1) : Nat) : Int) := by omega
                have HST2 : Hid (mkN f ⟨xa, xx, xy, (p : Int)⟩ 3 = (mkN f ⟨xa, xx, xy, (p : Int)⟩ 2).set p true) := by show _ = _; rw [HST.out]; unfold mk1; rw [if_pos (by omega), Int.toNat_natCast]
                obtain ⟨fb, hfb⟩ : ∃ fb, (mkN f ⟨xa, xx, xy, (p : Int)⟩ 2)[p]? = some fb := ⟨_, List.getElem?_eq_getElem (by have := HLN.out; omega)⟩
                have hcp := bb_at O2.out hfb
                have hfp := O2.out.frozen p
                have O3 := Lib.hid (bb_put O2.out p)
                have ON3 := Lib.hid (ON2.out.setCell (p := ⟨gm, p, none⟩) rfl (.bool true))
                clear hfb
                go_wp2_with fail
                go_roundw
                case rel => exact ⟨3, by omega, rfl, by rw [HST2.out]; exact O3.out, ON3.out⟩
                case measure => simp [intOf]
end
end Go.Proofs.Ytipeefehhaffkaa
