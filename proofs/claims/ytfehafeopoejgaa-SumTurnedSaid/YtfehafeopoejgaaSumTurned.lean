/- SumTurned: the walk. -/
import Derived.Test.YtfehafeopoejgaaSumRuns
import Derived.Test.YtfehafeopoejgaaTurnMath
import Derived.Test.YtfehafeopoejgaaWithin
import Derived.Test.YtfehafeopoejgaaOpen
import Derived.Test.YtfehafeopoejgaaArr4
import Derived.Deep.DeepCutAuto
import Derived.StillTailTactics
namespace Go.Proofs.Ytfehafeopoejgaa
set_option linter.unusedVariables false
open Go.RowKit

theorem u8_xor_t (a b : UInt8) : bits .xor .u8 (a.toNat : Int) (b.toNat : Int) = ((a ^^^ b).toNat : Int) := by
  rw [u8_xor_nat _ _ a.toNat_lt b.toNat_lt, UInt8.toNat_xor]

/-- The four turns, as cells. -/
def arrCells (t0 t1 t2 t3 : UInt8) : Array Value := #[.int .u8 (t0.toNat : Int), .int .u8 (t1.toNat : Int), .int .u8 (t2.toNat : Int), .int .u8 (t3.toNat : Int)]
theorem arr_get (t0 t1 t2 t3 : UInt8) {j : Nat} (hj : j < 4) : ∃ h : j < [t0, t1, t2, t3].length, (arrCells t0 t1 t2 t3)[j]? = some (.int .u8 ([t0, t1, t2, t3][j].toNat : Int)) := by
  refine ⟨hj, ?_⟩
  match j, hj with
  | 0, _ => rfl
  | 1, _ => rfl
  | 2, _ => rfl
  | 3, _ => rfl

/-- A row that lies in a known block. -/
theorem ob_sl {w : World} {g n c : Nat} {t : TypeId} {cur : Array Value} {xs : List Value} (h : Ob w g t cur) (hx : cur.toList.take n = xs) (hn : n ≤ cur.size) (hc : n ≤ c) (hm : c ≤ maxLen) : Sl w (g + 1) (some ⟨g, 0, none⟩) n c xs := by
  refine ⟨by rw [← hx, List.length_take, Array.length_toList]; omega, hc, hm, .inr ⟨g, 0, rfl, by omega, fun j u hu => ?_⟩⟩
  rw [Nat.zero_add, h.cell j]
  rw [← hx, List.getElem?_take] at hu
  split at hu
  · simpa using hu
  · cases hu

/-- What the copy of the row is: a block of the call's own. -/
structure Copy (w wx : World) (arr : Array Value) (l : List UInt8) (m g c3 : Nat) (cur : Array Value) : Prop where
  ob : Ob wx g 5 cur
  row : cur.toList.take m = bv l
  size : cur.size = c3
  fits : m ≤ c3
  cap : c3 ≤ maxLen
  fresh : w.heap.size + 1 ≤ g
  below : Below w.heap.size w wx
  arr : Ob wx w.heap.size 31 arr

theorem copy_of {w wx : World} {X : Obj} {arr : Array Value} {l : List UInt8} {m c3 : Nat} {A : Option Addr} (hX : X = .cells arr 31) (hm : 1 ≤ m) (h : wx.ownsRow (w.alloc X).heap.size 5 1 (.slice A m c3) m (bv l)) (hb : Below (w.alloc X).heap.size (w.alloc X) wx) :
    ∃ g cur, A = some ⟨g, 0, none⟩ ∧ Copy w wx arr l m g c3 cur := by
  rcases h.2 with ⟨_, h0⟩ | ⟨g, cap, cur, hv, hge, hg, hnc, hcm, hcs, ht⟩
  · omega
  · injection hv with e1 e2 e3
    subst e1 e3
    refine ⟨g, cur, rfl, ⟨hg, by simpa using ht, by simpa using hcs, hnc, hcm, by simpa using hge, ?_, ?_⟩⟩
    · exact ((Below.refl _ w).alloc (Nat.le_refl _) X).trans (hb.mono (by simp))
    · subst hX
      exact (Ob.made w _ arr).below hb (by simp)

/-- What the loop holds: how many places were turned, and whether all turns were nought. -/
def TurnRel (w2 : World) (l : List UInt8) (k m g c3 : Nat) (ts : List UInt8) (s i : Value) (wr : World) : Prop :=
  ∃ (j : Nat) (cur : Array Value), i = .int .i64 (j : Int) ∧ s = .bool (noughtTo l k ts j) ∧ j ≤ 4 ∧ k + j ≤ m ∧ Ob wr g 5 cur ∧ cur.size = c3 ∧ cur.toList.take m = bv (turnedTo l k ts j) ∧ Only g w2 wr

theorem row_get {cr : Array Value} {m q : Nat} {l : List UInt8} {x : UInt8} (h : cr.toList.take m = bv l) (hq : q < m) (hx : l[q]? = some x) : cr[q]? = some (.int .u8 (x.toNat : Int)) := by
  have e : (cr.toList.take m)[q]? = cr.toList[q]? := by rw [List.getElem?_take, if_pos hq]
  rw [← Array.getElem?_toList, ← e, h, bv, List.getElem?_map, hx]
  rfl
theorem row_set {cr : Array Value} {m q : Nat} {l l' : List UInt8} {x : UInt8} (h : cr.toList.take m = bv l) (hq : q < m) (hx : l.set q x = l') : (cr.setIfInBounds q (.int .u8 (x.toNat : Int))).toList.take m = bv l' := by
  rw [Array.toList_setIfInBounds, List.take_set, h, ← hx, bv, bv, List.map_set]
theorem byte_zero (y : UInt8) : ((y.toNat : Int) == 0) = (y == 0) := by
  rw [Bool.eq_iff_iff, beq_iff_eq, beq_iff_eq]
  constructor
  · intro h; exact UInt8.toNat_inj.1 (by show y.toNat = 0; omega)
  · intro h; rw [h]; rfl

/-- Within's number, for a place of a row. -/
theorem within_place {a : Int} {m : Nat} (h : 1 ≤ m) (hm : m ≤ 200) : ∃ k : Nat, k < m ∧ ∀ w : World, Calls Try.prog 14 #[.int .i64 a, .int .i64 0, .int .i64 ((m : Int) - 1)] w fun e w' => e = .returned (.int .i64 (k : Int)) ∧ w = w' := by
  obtain ⟨h1, h2⟩ := within_le (n := a) (lo := 0) (hi := (m : Int) - 1) (by omega)
  refine ⟨(withinOf a 0 ((m : Int) - 1)).toNat, by omega, fun w => (within_any (by omega) (by omega) (by omega)).mono fun _ _ ⟨he, hw⟩ => ⟨?_, hw⟩⟩
  rw [he]
  exact ret_int (by omega)

set_option maxHeartbeats 6400000 in
theorem sumTurned_walk (w : World) (A : Option Addr) (n c : Nat) (hl : ∃ l, Sl w w.heap.size A n c (bv l)) (a : Int) (ha : (Lit.int .i64 a).wf = true) (t0 t1 t2 t3 : UInt8) :
    Calls Try.prog 5 #[.slice A n c, .int .i64 a, .agg #[.int .u8 (t0.toNat : Int), .int .u8 (t1.toNat : Int), .int .u8 (t2.toNat : Int), .int .u8 (t3.toNat : Int)]] w fun e w' => e = .returned (.bool true) ∧ Below w.heap.size w w' := by
  obtain ⟨i, hi, hz0, hz1, hz2⟩ := info_parts u8info
  obtain ⟨l0, hl0⟩ := hl
  have hnc := hl0.le
  have hcap := hl0.cap
  unfold maxLen at hcap
  have HL0 := Lib.hid hl0
  clear hl0
  have heq := fun W => arr_eq t0 t1 t2 t3 W
  generalize hz : allNought [0, 0, 0, 0] [t0, t1, t2, t3] = z at heq
  have HZ := Lib.hid hz
  clear hz
  go_enter Try.func5, Try.ntmps5
  go_upto_region 1 with fail
  go_cut [0] (fun u wx => ∃ m l, u = .slice A m c ∧ Hid (Sl w w.heap.size A m c (bv l)) ∧ m ≤ 200 ∧ m ≤ c ∧ wx = w.alloc (.cells #[.int .u8 (t0.toNat : Int), .int .u8 (t1.toNat : Int), .int .u8 (t2.toNat : Int), .int .u8 (t3.toNat : Int)] 31))
  case first =>
    by_cases h200 : n ≤ 200
    · go_wp2_with fail
      go_meet
      exact ⟨n, l0, rfl, HL0.out, h200, hnc, rfl⟩
    · go_wp2_with fail
      go_meet
      exact ⟨200, l0.take 200, rfl, by show Sl _ _ _ _ _ _; rw [bv_take]; exact HL0.out.take (by omega), by omega, by omega, rfl⟩
  case rest =>
    obtain ⟨m, l, rfl, HL, hm, hmc, rfl⟩ := hcut
    have B0 : Hid (Below w.heap.size w (w.alloc (.cells #[.int .u8 (t0.toNat : Int), .int .u8 (t1.toNat : Int), .int .u8 (t2.toNat : Int), .int .u8 (t3.toNat : Int)] 31))) := (Below.refl _ w).alloc (Nat.le_refl _) _
    by_cases h0 : m = 0
    · have hm0 : ((m : Int) == 0) = true := by rw [beq_iff_eq]; omega
      clear h0
      go_wp2_with fail
      refine (runs_any _).mono ?_
      rintro e w1 ⟨rfl, hb1⟩
      have B1 := Lib.hid (below_step B0.out hb1)
      clear hb1
      go_wp2_with fail
      go_ret
      exact ⟨rfl, B1.out⟩
    · have hm0 : ((m : Int) == 0) = false := by rw [beq_eq_false_iff_ne]; omega
      have h1 : 1 ≤ m := by omega
      clear h0
      cases z with
      | true =>
        go_wp2_with fail
        refine (runs_any _).mono ?_
        rintro e w1 ⟨rfl, hb1⟩
        have B1 := Lib.hid (below_step B0.out hb1)
        clear hb1
        go_wp2_with fail
        go_ret
        exact ⟨rfl, B1.out⟩
      | false =>
        have hs : (w.alloc (.cells #[.int .u8 (t0.toNat : Int), .int .u8 (t1.toNat : Int), .int .u8 (t2.toNat : Int), .int .u8 (t3.toNat : Int)] 31)).heap.size = w.heap.size + 1 := by simp
        obtain ⟨A3, c3, w3, hap, hown3, hb3⟩ := append_row (P := Try.prog) (ty := 24) Try.underlying24 hi hz0 hz1 hz2 (own_empty (w.alloc (.cells #[.int .u8 (t0.toNat : Int), .int .u8 (t1.toNat : Int), .int .u8 (t2.toNat : Int), .int .u8 (t3.toNat : Int)] 31)) (w.alloc (.cells #[.int .u8 (t0.toNat : Int), .int .u8 (t1.toNat : Int), .int .u8 (t2.toNat : Int), .int .u8 (t3.toNat : Int)] 31)).heap.size 5 (Nat.le_refl _)) ((HL.out.lit_keep (Nat.le_refl _) _).lit_keep (by simp) (.cells #[] 5)) one_bv (by omega) (by simp)
        simp only [Nat.zero_add, List.nil_append] at hap hown3
        obtain ⟨g, cur, rfl, hcp⟩ := copy_of rfl h1 hown3 (((Below.refl _ _).alloc (Nat.le_refl _) (.cells #[] 5)).trans hb3)
        rw [hs] at hap
        have HAP := Lib.hid hap
        have HCP := Lib.hid hcp
        clear hap hown3 hb3 hs hcp B0
        obtain ⟨k, hk, hkc⟩ := within_place (a := a) h1 hm
        have HK := Lib.hid hkc
        clear hkc
        go_wp2_with (at_builtin; first | (refine wpList_append_run (o := ⟨some 27, _, _, _, _, _⟩) rfl _ _ _ _ rfl rfl rfl HAP.out ?_))
        clear heq
        refine (HK.out _).mono ?_
        rintro e w4 ⟨rfl, rfl⟩
        have HSTART : Hid (TurnRel w3 l k m g c3 [t0, t1, t2, t3] (.bool true) (.int .i64 0) w3) :=
          ⟨0, cur, rfl, by rw [noughtTo_zero], by omega, by omega, HCP.out.ob, HCP.out.size, by rw [turnedTo_zero]; exact HCP.out.row, Only.refl⟩
        have q1 : m ≤ c3 := HCP.out.fits
        have q2 : c3 ≤ 9223372036854775807 := HCP.out.cap
        have HLEN : Hid (l.length = m) := by show _ = _; rw [← bv_len]; exact HL.out.len
        go_wp2_with fail
        go_loopw [9, 10] (fun s i wr => TurnRel w3 l k m g c3 [t0, t1, t2, t3] s i wr) (fun _ i _ => 4 - (intOf i).toNat)
        case atStart => exact HSTART.out
        case round =>
          obtain ⟨j, cr, rfl, rfl, hj, hkj, ho, hsz, hrow, honly⟩ := hrel
          by_cases hc : j < 4 ∧ k + j < m
          · obtain ⟨hj4, hkm⟩ := hc
            have hlen := HLEN.out
            obtain ⟨_, hts⟩ := arr_get t0 t1 t2 t3 hj4
            obtain ⟨e1, e2, e3⟩ := turn_step (l := l) (k := k) (ts := [t0, t1, t2, t3]) (i := j) hj4 (by omega)
            have hbox : Ob wr w.heap.size 31 (arrCells t0 t1 t2 t3) := HCP.out.arr.keep (honly.heap HCP.out.arr.lt (by have := HCP.out.fresh; omega))
            have hc1 : wr.cell? ⟨g, k + j, none⟩ = some (.int .u8 (l[k + j].toNat : Int)) := by
              rw [ho.cell]
              exact row_get hrow hkm e1
            have hc2 : wr.cell? ⟨w.heap.size, j, none⟩ = some (.int .u8 ([t0, t1, t2, t3][j].toNat : Int)) := (hbox.cell j).trans hts
            have hfr := ho.frozen (k + j)
            have hx := u8_xor_t l[k + j] [t0, t1, t2, t3][j]
            have hcr : k + j < cr.size := by omega
            have HROW : Hid ((cr.setIfInBounds (k + j) (.int .u8 ((l[k + j] ^^^ [t0, t1, t2, t3][j]).toNat : Int))).toList.take m = bv (turnedTo l k [t0, t1, t2, t3] (j + 1))) := row_set hrow hkm e2
            have HSZ : Hid ((cr.setIfInBounds (k + j) (.int .u8 ((l[k + j] ^^^ [t0, t1, t2, t3][j]).toNat : Int))).size = c3) := by show _ = _; rw [Array.size_setIfInBounds]; exact hsz
            have HE := Lib.hid e3
            have HO := Lib.hid ho
            have HON := Lib.hid honly
            clear e1 e2 e3 hbox ho honly hrow hts hsz hcr
            generalize l[k + j] ^^^ [t0, t1, t2, t3][j] = z at *
            generalize l[k + j] = x at *
            have hb0 : (([t0, t1, t2, t3][j].toNat : Int) == 0) = ([t0, t1, t2, t3][j] == 0) := byte_zero _
            generalize [t0, t1, t2, t3][j] = y at *
            generalize noughtTo l k [t0, t1, t2, t3] j = f at *
            clear hlen
            have i1 : (k : Int) + (j : Int) < (m : Int) := by omega
            have i2 : (0 : Int) ≤ (k : Int) + (j : Int) := by omega
            have i3 : (j : Int) < 4 := by omega
            have i4 : (0 : Int) ≤ (j : Int) := by omega
            have i5 : ((k : Int) + (j : Int)).toNat = k + j := by omega
            have hne : w.heap.size ≠ g := by have := HCP.out.fresh; omega
            have hc3 : ((wr.drewN 1).setCell ⟨g, k + j, none⟩ (.int .u8 (z.toNat : Int))).cell? ⟨w.heap.size, j, none⟩ = some (.int .u8 (y.toNat : Int)) :=
              (World.cell?_of_block (Below.heap_setCell (wr.drewN 1) ⟨g, k + j, none⟩ (.int .u8 (z.toNat : Int)) w.heap.size hne)).trans hc2
            have HO2 := Lib.hid ((HO.out.keep (w' := wr.drewN 1) rfl).put (k + j) (.int .u8 (z.toNat : Int)))
            have HON2 := Lib.hid ((HON.out.drewN 1).setCell (p := ⟨g, k + j, none⟩) rfl (.int .u8 (z.toNat : Int)))
            have hcell2 : (wr.drewN 1).cell? ⟨g, k + j, none⟩ = _ := hc1
            have hfr2 : (wr.drewN 1).frozen? ⟨g, k + j, none⟩ = _ := hfr
            clear HO HON
            cases f with
            | false =>
              clear hb0
              go_wp2_with fail
              have hd1 : World.cell? { heap := wr.heap, tape := wr.tape, drawn := wr.drawn + 1, os := wr.os, output := wr.output } ⟨g, k + j, none⟩ = _ := hc1
              have hd2 : World.cell? { heap := wr.heap, tape := wr.tape, drawn := wr.drawn + 1, os := wr.os, output := wr.output } ⟨w.heap.size, j, none⟩ = _ := hc2
              have hw : IntKind.i64.wrap ((k : Int) + (j : Int)) = (k : Int) + (j : Int) := IntWalk.i64_in _ (by omega)
              go_still_tail 11, (by kernel_rfl)
              clear hd1 hd2 hx hw hfr hc1 hc2
              change wpList _ _ _ _ _ (wr.drewN 1)
              generalize wr.drewN 1 = w2 at *
              go_wp2_with fail
              go_roundw
              case rel => exact ⟨j + 1, _, by go_num, by rw [HE.out]; rfl, by omega, by omega, HO2.out, HSZ.out, HROW.out, HON2.out⟩
              case measure => simp [intOf]; omega
            | true =>
              cases hy : (y == 0) with
              | false =>
                rw [hy] at hb0
                have HE2 : Hid (noughtTo l k [t0, t1, t2, t3] (j + 1) = false) := by show _ = _; rw [HE.out, hy]; rfl
                clear hy
                go_wp2_with fail
                have hd1 : World.cell? { heap := wr.heap, tape := wr.tape, drawn := wr.drawn + 1, os := wr.os, output := wr.output } ⟨g, k + j, none⟩ = _ := hc1
                have hd2 : World.cell? { heap := wr.heap, tape := wr.tape, drawn := wr.drawn + 1, os := wr.os, output := wr.output } ⟨w.heap.size, j, none⟩ = _ := hc2
                have hw : IntKind.i64.wrap ((k : Int) + (j : Int)) = (k : Int) + (j : Int) := IntWalk.i64_in _ (by omega)
                go_still_tail 11, (by kernel_rfl)
                clear hd1 hd2 hx hw hfr hc1 hc2
                change wpList _ _ _ _ _ (wr.drewN 1)
                generalize wr.drewN 1 = w2 at *
                go_wp2_with fail
                go_roundw
                case rel => exact ⟨j + 1, _, by go_num, by rw [HE2.out], by omega, by omega, HO2.out, HSZ.out, HROW.out, HON2.out⟩
                case measure => simp [intOf]; omega
              | true =>
                rw [hy] at hb0
                have HE2 : Hid (noughtTo l k [t0, t1, t2, t3] (j + 1) = true) := by show _ = _; rw [HE.out, hy]; rfl
                clear hy
                go_wp2_with fail
                have hd1 : World.cell? { heap := wr.heap, tape := wr.tape, drawn := wr.drawn + 1, os := wr.os, output := wr.output } ⟨g, k + j, none⟩ = _ := hc1
                have hd2 : World.cell? { heap := wr.heap, tape := wr.tape, drawn := wr.drawn + 1, os := wr.os, output := wr.output } ⟨w.heap.size, j, none⟩ = _ := hc2
                have hw : IntKind.i64.wrap ((k : Int) + (j : Int)) = (k : Int) + (j : Int) := IntWalk.i64_in _ (by omega)
                go_still_tail 11, (by kernel_rfl)
                clear hd1 hd2 hx hw hfr hc1 hc2
                change wpList _ _ _ _ _ (wr.drewN 1)
                generalize wr.drewN 1 = w2 at *
                go_wp2_with fail
                go_roundw
                case rel => exact ⟨j + 1, _, by go_num, by rw [HE2.out], by omega, by omega, HO2.out, HSZ.out, HROW.out, HON2.out⟩
                case measure => simp [intOf]; omega
          · have hend : j = 4 ∨ k + j = l.length := by have := HLEN.out; omega
            have hte := turn_end (l := l) (k := k) (ts := [t0, t1, t2, t3]) (i := j) rfl hend
            have hfresh := HCP.out.fresh
            have SB := Lib.hid ((HL.out.below HCP.out.below).keep (w' := wr) fun q hq => honly.heap (Nat.lt_of_lt_of_le hq HCP.out.below.size) (by omega))
            have SC := Lib.hid (ob_sl (c := c3) ho hrow (by omega) (by omega) HCP.out.cap)
            have BE := Lib.hid (only_step HCP.out.below honly (by omega))
            clear honly ho hrow hsz
            have CC := sum_any SC.out
            have CB := sum_any SB.out
            unfold sv at CC CB
            have hcmp : (((crcOf (turnedTo l k [t0, t1, t2, t3] j)).toNat : Int) == ((crcOf l).toNat : Int)) = noughtTo l k [t0, t1, t2, t3] j := by
              rw [Bool.eq_iff_iff, ← hte, beq_iff_eq]
              constructor
              · intro h; exact BitVec.eq_of_toNat_eq (by omega)
              · intro h; rw [h]
            have HCC := Lib.hid CC
            have HCB := Lib.hid CB
            clear CC CB hte hend hfresh
            generalize (crcOf (turnedTo l k [t0, t1, t2, t3] j)).toNat = s1 at *
            generalize (crcOf l).toNat = s2 at *
            generalize noughtTo l k [t0, t1, t2, t3] j = f at *
            by_cases hj4 : j < 4
            all_goals
              try (have hkm : ¬ (k + j < m) := fun h => hc ⟨hj4, h⟩)
              clear hc
              cases f with
              | _ =>
                go_wp2_with fail
                refine HCC.out.mono ?_
                rintro e w5 ⟨rfl, rfl⟩
                go_wp2_with fail
                refine HCB.out.mono ?_
                rintro e w5 ⟨rfl, rfl⟩
                go_wp2_with fail
                refine (runs_any _).mono ?_
                rintro e w5 ⟨rfl, hb5⟩
                have B5 := Lib.hid (below_step BE.out hb5)
                clear hb5
                go_wp2_with fail
                go_ret
                exact ⟨rfl, B5.out⟩
end Go.Proofs.Ytfehafeopoejgaa
