/- Several texts in one: AskRight, EvalOnlyL, Laid10E, Door10E, Open, OpenRows, OpenAtr. -/
import Derived.Test.YtmoglaknmlhpgaaGreatDoorOnlI
import Derived.Test.YtmoglaknmlhpgaaGreatDoorOnlC
import Derived.Test.YtmoglaknmlhpgaaGreatDoorOnlB
import Derived.Test.YtmoglaknmlhpgaaGreatDoorOnld
import Derived.Test.YtmoglaknmlhpgaaGreatDoorOnlf
import Derived.Test.YtmoglaknmlhpgaaGreatDoorOnli
import Derived.Test.YtmoglaknmlhpgaaGreatDoorOnlj
import Derived.Test.YtmoglaknmlhpgaaGreatDoorOnlX
import Derived.ProofKit
import Derived.LaidMore
import Derived.OpenShut
import Derived.Stop.Joined
import Derived.Test.YtmoglaknmlhpgaaGreatDoorOnlA
import Derived.ChangeSlices
import Derived.Deep.Slices
import Derived.Deep.Fields
import Derived.Lib.SmallJoins
import Derived.SizedLaws
/- wrong, Right: the first thing that is wrong with a request. -/
namespace Go.Proofs.YtmoglaknmlhpgaaGreatDoor
set_option linter.unusedVariables false
open Go.RowKit Go.Sort

set_option maxHeartbeats 800000 in
theorem wrong_any {w : World} {R R1 : Nat → Prop} {A A1 : Option Addr} {n c n1 c1 : Nat} {l : List Giv} (g : Giv) (hok : g.ok) (h : Gvs w R A n c l) (hb : Vls w R1 A1 n1 c1 g.bag) :
  Calls Tryz.prog 16 #[.slice A n c, .agg #[.int .i64 g.cat, .string g.name, .slice A1 n1 c1]] w fun e w' => e = .returned (.int .i64 (wrongA l g)) ∧ Below w.heap.size w w' := by
 obtain ⟨gc, gn, gb⟩ := g
 have HA := Lib.hid (attr_any ⟨gc, gn, false⟩ ⟨hok.1, hok.2⟩)
 have HP := Lib.hid (fun W (hW : Below w.heap.size w W) => place_any gc gn (h.keep (Kept.all hW R) (fun _ h _ => h)))
 have HV := Lib.hid (fun W (hW : Below w.heap.size w W) => vbag_any (hb.keep (Kept.all hW R1) (fun _ h _ => h)).vs (Nat.le_refl _))
 have HE : Hid (wrongA l ⟨gc, gn, gb⟩ = if attrB ⟨gc, gn, false⟩ = true ∧ bagB gb = true then (if idxA l gc gn < l.length then 11 else 0) else 1) := rfl
 have HI : Hid (placeI l gc gn = if idxA l gc gn < l.length then (idxA l gc gn : Int) else -1) := rfl
 clear h hb hok
 simp only at HA HP HV HE HI ⊢
 generalize wrongA l ⟨gc, gn, gb⟩ = r at *
 generalize attrB ⟨gc, gn, false⟩ = ab at *
 generalize bagB gb = bb at *
 generalize hpi : placeI l gc gn = pi at *
 clear hpi
 have HB0 := Lib.hid ((Below.refl w.heap.size w).alloc (Nat.le_refl _) (.cells #[.int .i64 gc, .string gn, .slice A1 n1 c1] 34))
 cases ab
 ·go_enter Tryz.func16, Tryz.ntmps16
  go_wp2_with (go_at_call 28; refine (HA.out _).mono ?_; rintro e w1 ⟨rfl, hb1⟩; have B1 := Lib.hid (Below.lit hb1))
  go_ret
  exact ⟨ret_int (by rw [HE.out]; simp), B1.out⟩
 cases bb
 ·go_enter Tryz.func16, Tryz.ntmps16
  go_wp2_with (first
   | (go_at_call 28; refine (HA.out _).mono ?_; rintro e w1 ⟨rfl, hb1⟩; have B1 := Lib.hid (Below.lit hb1); have c1 := (Ob.below (Ob.made _ _ _) hb1 (by simp)).cell 2)
   | (go_at_call 29; refine (HV.out _ B1.out).mono ?_; rintro e w2 ⟨rfl, hb2⟩; have B2 := Lib.hid (below_step B1.out hb2)))
  go_ret
  exact ⟨ret_int (by rw [HE.out]; simp), B2.out⟩
 by_cases hi : idxA l gc gn < l.length
 ·have hpi : ((pi : Int) ≥ 0) := by rw [HI.out, if_pos hi]; omega
  have HE2 : Hid (r = 11) := by show r = 11; rw [HE.out, if_pos ⟨rfl, rfl⟩, if_pos hi]
  clear HE HI hi
  go_enter Tryz.func16, Tryz.ntmps16
  go_wp2_with (first
   | (go_at_call 28; refine (HA.out _).mono ?_; rintro e w1 ⟨rfl, hb1⟩; have B1 := Lib.hid (Below.lit hb1); have OB := Lib.hid (Ob.below (Ob.made _ _ _) hb1 (by simp)); have c1 := OB.out.cell 2)
   | (go_at_call 29; refine (HV.out _ B1.out).mono ?_; rintro e w2 ⟨rfl, hb2⟩; have B2 := Lib.hid (below_step B1.out hb2); have OB2 := Lib.hid (Ob.below OB.out hb2 (Ob.lt OB.out)); have c2 := OB2.out.cell 0; have c3 := OB2.out.cell 1)
   | (go_at_call 24; refine (HP.out _ B2.out).mono ?_; rintro e w3 ⟨rfl, hb3⟩; have B3 := Lib.hid (below_step B2.out hb3)))
  go_ret
  exact ⟨ret_int HE2.out.symm, B3.out⟩
 ·have hpi : ¬ ((pi : Int) ≥ 0) := by rw [HI.out, if_neg hi]; omega
  have HE2 : Hid (r = 0) := by show r = 0; rw [HE.out, if_pos ⟨rfl, rfl⟩, if_neg hi]
  clear HE HI hi
  go_enter Tryz.func16, Tryz.ntmps16
  go_wp2_with (first
   | (go_at_call 28; refine (HA.out _).mono ?_; rintro e w1 ⟨rfl, hb1⟩; have B1 := Lib.hid (Below.lit hb1); have OB := Lib.hid (Ob.below (Ob.made _ _ _) hb1 (by simp)); have c1 := OB.out.cell 2)
   | (go_at_call 29; refine (HV.out _ B1.out).mono ?_; rintro e w2 ⟨rfl, hb2⟩; have B2 := Lib.hid (below_step B1.out hb2); have OB2 := Lib.hid (Ob.below OB.out hb2 (Ob.lt OB.out)); have c2 := OB2.out.cell 0; have c3 := OB2.out.cell 1)
   | (go_at_call 24; refine (HP.out _ B2.out).mono ?_; rintro e w3 ⟨rfl, hb3⟩; have B3 := Lib.hid (below_step B2.out hb3)))
  go_ret
  exact ⟨ret_int HE2.out.symm, B3.out⟩

theorem Ob.grown3 {w : World} {g : Nat} {t : TypeId} {a b c : Value} (h : Ob w g t #[a, b, c]) : (∀ d os, (grow (redrawn w d) os).cell? ⟨g, 0, none⟩ = some a) ∧ (∀ d os, (grow (redrawn w d) os).cell? ⟨g, 1, none⟩ = some b) ∧ ∀ d os, (grow (redrawn w d) os).cell? ⟨g, 2, none⟩ = some c :=
 ⟨fun d os => cell_regrown (h.cell 0) d os, fun d os => cell_regrown (h.cell 1) d os, fun d os => cell_regrown (h.cell 2) d os⟩
set_option maxHeartbeats 1600000 in
theorem aright_any {w : World} {R : Nat → Prop} {A : Option Addr} {n c : Nat} {l : List Giv} (h : Gvs w R A n c l) :
  Calls Tryz.prog 6 #[.slice A n c] w fun e w' => e = .returned (.int .i64 (rightA l)) ∧ Below w.heap.size w w' := by
 have hle := Rw.le h
 have hcap := Rw.cap h
 have HL := Lib.hid (Rw.len h)
 unfold maxLen at hcap
 have H := Lib.hid h
 clear h
 by_cases h64 : 64 < n
 ·have h64' : (64 : Int) < (n : Int) := by omega
  have HE : Hid (rightA l = 6) := by show rightA l = 6; unfold rightA; rw [if_pos (by have := HL.out; omega)]
  clear h64
  go_enter Tryz.func6, Tryz.ntmps6
  go_wp2_with fail
  go_ret
  exact ⟨ret_int HE.out.symm, Below.refl _ _⟩
 have h64' : ¬ (64 : Int) < (n : Int) := by omega
 have HE : Hid (rightA l = rightL [] l) := by show rightA l = _; unfold rightA; rw [if_neg (by have := HL.out; omega)]
 generalize rightA l = r at *
 go_enter Tryz.func6, Tryz.ntmps6
 go_wp2_with fail
 go_loopw [11] (fun i wr => ∃ k : Nat, k ≤ n ∧ i = .int .i64 k ∧ rightL [] l = rightL (l.take k) (l.drop k) ∧ Below w.heap.size w wr) (fun i _ => n - (intOf i).toNat)
 case atStart => exact ⟨0, Nat.zero_le _, rfl, by simp, Below.refl _ _⟩
 case round =>
  obtain ⟨k, hk, rfl, hf, hb⟩ := hrel
  have HF := Lib.hid hf
  have HB := Lib.hid hb
  have hb' := hb
  clear hf hb
  by_cases hlt : k < n
  ·have HGV := Lib.hid (H.out.keep (Kept.all HB.out R) (fun _ h _ => h))
   obtain ⟨b, o, x, A', n', c', rfl, hRb, hbl, hx, hok, ⟨c0, c1, c2⟩, hin⟩ := HGV.out.at_ hlt
   have HX := Lib.hid (rightL_step hx)
   have hal := (Below.refl wr.heap.size wr).alloc (Nat.le_refl _) (.cells #[.int .i64 x.cat, .string x.name, .slice A' n' c'] 34)
   have qr := fun W (hW : Below wr.heap.size wr W) => wrong_any x hok (Rw.take (HGV.out.keep (Kept.all hW R) (fun _ h _ => h)) (Nat.le_of_lt hlt)) (hin.keep (Kept.all hW R) (fun _ h _ => h))
   have HAL := Lib.hid hal
   have hbx := Ob.made wr 34 #[.int .i64 x.cat, .string x.name, .slice A' n' c']
   have D1 := Lib.hid (hb'.alloc hb'.size (.cells #[.int .i64 x.cat, .string x.name, .slice A' n' c'] 34))
   have hk0 : (0 : Int) ≤ (k : Int) := by omega
   have hkc : (k : Int) ≤ (c : Int) := by omega
   have hw : ∀ W d os, Below wr.heap.size wr W → Calls Tryz.prog 16 #[.slice (some ⟨b, o, none⟩) k c, .agg #[.int .i64 x.cat, .string x.name, .slice A' n' c']] (grow (redrawn W d) os) fun e w' => e = .returned (.int .i64 (wrongA (l.take k) x)) ∧ ∃ p : Regrown, w' = grow (redrawn W p.d) p.os := fun W d os hW => Calls.regrown_of (w := W) (d := d) (os := os) (qr _ (hW.trans ((below_regrown W d os).mono hW.size)))
   clear hx hok hin qr hal
   go_wp2_with fail
   have hW1 := HAL.out
   generalize wr.alloc (.cells #[.int .i64 x.cat, .string x.name, .slice A' n' c'] 34) = W1 at *
   obtain ⟨g0, g1, g2⟩ := Ob.grown3 hbx
   have QR := Lib.hid (fun d os => hw W1 d os hW1)
   clear hw hW1
   by_cases hz : wrongA (l.take k) x = 0
   ·rw [hz] at QR
    have HZ := Lib.hid hz
    clear hz
    refine wp_region_quiet_below (by kernel_rfl) (by kernel_rfl) ?_
    repeat (go_big_quiet_step ((go_at_call 16; exact QR.out _ _)))
    refine wpQuiet_nil ?_
    intro _ hw'
    obtain ⟨⟨dq, osq⟩, hw''⟩ := hw'
    subst hw''
    have D2 := Lib.hid (below_step D1.out (below_regrown W1 dq osq))
    clear g0 g1 g2
    generalize grow (redrawn W1 dq) osq = W2 at *
    go_wp2_with fail
    go_roundw
    case rel => exact ⟨k + 1, by omega, by go_num, by rw [HF.out, HX.out, if_neg (by rw [HZ.out]; simp)], D2.out⟩
    case measure => simp [intOf]; omega
   ·have HZ := Lib.hid hz
    obtain ⟨ee, he⟩ : ∃ ee, ee = wrongA (l.take k) x := ⟨_, rfl⟩
    have HEE := Lib.hid he
    rw [← he] at hz QR
    have hne : (ee != 0) = true := by simpa using hz
    clear he
    refine wp_region_quiet_below (by kernel_rfl) (by kernel_rfl) ?_
    repeat (go_big_quiet_step ((go_at_call 16; exact QR.out _ _)))
    refine wpQuiet_nil ?_
    intro _ hw'
    obtain ⟨⟨dq, osq⟩, hw''⟩ := hw'
    subst hw''
    have D2 := Lib.hid (below_step D1.out (below_regrown W1 dq osq))
    clear g0 g1 g2
    generalize grow (redrawn W1 dq) osq = W2 at *
    go_wp2_with fail
    go_ret
    exact ⟨ret_int (by rw [HE.out, HF.out, HX.out, if_pos HZ.out]; exact HEE.out), D2.out⟩
  ·obtain rfl : k = n := by omega
   go_wp2
   go_ret
   exact ⟨ret_int (by rw [HE.out, HF.out]; exact (rightL_end (by have := HL.out; omega)).symm), HB.out⟩
end Go.Proofs.YtmoglaknmlhpgaaGreatDoor
/- What EvalOnly calls, in any later world. -/
namespace Go.Proofs.YtmoglaknmlhpgaaGreatDoor
set_option linter.unusedVariables false
open Go.RowKit

section
variable {w : World} {R : Nat → Prop} {p : Pol} {A1 A2 A3 A4 : Option Addr} {n1 k1 n2 k2 n3 k3 n4 k4 : Nat}
theorem onsmall (h : PolIn w R p A1 n1 k1 A2 n2 k2 A3 n3 k3 A4 n4 k4) : ∃ b : Bool, ∀ V, Below w.heap.size w V →
  Calls Tryz.prog 4 #[.agg #[.string p.id, .bool p.set, .int .i64 p.alg, .slice A1 n1 k1, .slice A2 n2 k2, .slice A3 n3 k3, .slice A4 n4 k4]] V fun e w' => e = .returned (.bool b) ∧ Below V.heap.size V w' := by
 obtain ⟨h0, h1, h2, ⟨m, h3⟩, h4⟩ := h
 refine ⟨decide (polC (m + 1) p ≤ 3000), fun V hV => ?_⟩
 have hk := Kept.all hV R
 exact small_pol h0.1 (h1.keep hk (fun _ h _ => h)) (h2.keep hk (fun _ h _ => h)) (h3.keep hk (fun _ h _ => h)) (h4.keep hk (fun _ h _ => h))
theorem onright (h : PolIn w R p A1 n1 k1 A2 n2 k2 A3 n3 k3 A4 n4 k4) {r : Int} (hr : rightE p = r) (V : World) (hV : Below w.heap.size w V) :
  Calls Tryz.prog 7 #[.agg #[.string p.id, .bool p.set, .int .i64 p.alg, .slice A1 n1 k1, .slice A2 n2 k2, .slice A3 n3 k3, .slice A4 n4 k4]] V fun e w' => e = .returned (.int .i64 r) ∧ Below V.heap.size V w' := by
 have := right_pol (h.then_ hV)
 rwa [hr] at this
theorem onshow (h : PolIn w R p A1 n1 k1 A2 n2 k2 A3 n3 k3 A4 n4 k4) (ht : Tbl w) {x : ByteArray} (hx : (⟨(showP p).toArray⟩ : ByteArray) = x) (V : World) (hV : Below w.heap.size w V) :
  Calls Tryz.prog 10 #[.agg #[.string p.id, .bool p.set, .int .i64 p.alg, .slice A1 n1 k1, .slice A2 n2 k2, .slice A3 n3 k3, .slice A4 n4 k4]] V fun e w' => e = .returned (.string x) ∧ Below V.heap.size V w' := by
 have := show_pol (h.then_ hV) (ht.then_ hV)
 rwa [hx] at this
theorem onev {R2 : Nat → Prop} {A : Option Addr} {n c : Nat} {ask : List Giv} {vp vd : Fin 5} {vob : List Dut} (h : PolIn w R p A1 n1 k1 A2 n2 k2 A3 n3 k3 A4 n4 k4) (hr : rightE p = 0) (hG : ShortG ask) (hv : evV ask p = ⟨(vp, vd), vob⟩) (V : World) (hV : Below w.heap.size w V) (hA : Gvs V R2 A n c ask) :
  Calls Tryz.prog 9 #[.agg #[.string p.id, .bool p.set, .int .i64 p.alg, .slice A1 n1 k1, .slice A2 n2 k2, .slice A3 n3 k3, .slice A4 n4 k4], .slice A n c] V
   fun e w' => ∃ A' n' c', e = .returned (.tuple #[.agg #[.complex .f64 (fl vp) (fl vd), .slice A' n' c'], .int .i64 0]) ∧ Below V.heap.size V w' ∧ Dus w' (fun b => V.heap.size ≤ b) A' n' c' vob :=
 evpol_is hv hr (h.then_ hV) hA hG
theorem show_size (h : PolIn w R p A1 n1 k1 A2 n2 k2 A3 n3 k3 A4 n4 k4) (hr : rightE p = 0) : (showP p).length ≤ 1000000000000 := by
 rw [showP_right hr]
 exact polT_len hr (h.oks 4)
end
section
variable {w : World} {R : Nat → Prop} {A : Option Addr} {n c : Nat} {ask : List Giv}
theorem onfew (hA : Gvs w R A n c ask) : ∃ b : Bool, (b = true → fewC ask ≤ 1200) ∧ ∀ V, Below w.heap.size w V →
  Calls Tryz.prog 5 #[.slice A n c] V fun e w' => e = .returned (.bool b) ∧ Below V.heap.size V w' :=
 ⟨_, fun h => of_decide_eq_true h, fun V hV => few_any (hA.keep (Kept.all hV R) (fun _ h _ => h))⟩
theorem onask (hA : Gvs w R A n c ask) {r : Int} (hr : rightA ask = r) (V : World) (hV : Below w.heap.size w V) :
  Calls Tryz.prog 6 #[.slice A n c] V fun e w' => e = .returned (.int .i64 r) ∧ Below V.heap.size V w' := by
 have := aright_any (hA.keep (Kept.all hV R) (fun _ h _ => h))
 rwa [hr] at this
end
def zzB : ByteArray := ⟨#[122, 122, 95, 110, 111, 119, 104, 101, 114, 101]⟩
def zzL : List UInt8 := [122, 122, 95, 110, 111, 119, 104, 101, 114, 101]
theorem zz_beq (s : ByteArray) : (s.toList == ([122, 122, 95, 110, 111, 119, 104, 101, 114, 101] : List UInt8)) = decide (bl s = zzL) := by
 rw [Bool.eq_iff_iff, beq_iff_eq, decide_eq_true_iff, ByteArray.toList_eq]
 exact Iff.rfl
theorem zz_at (x : ByteArray) (k : Nat) : bl (x.extract k (k + 10)) = ((bl x).drop k).take zzL.length := by
 unfold bl
 rw [ext_mid, Nat.add_sub_cancel_left]
 rfl
def gZ (v : Vl) : Giv := ⟨4, zzB, [v]⟩
theorem gz_ok (v : Vl) : (gZ v).ok := ⟨(by decide : InI 4), (by decide : zzB.size ≤ maxLen)⟩
theorem Ob.c7o {w : World} {g : Nat} {t : TypeId} {a b c d e f h : Value} (H : Ob w g t #[a, b, c, d, e, f, h]) :
  w.cell? ⟨g, 0, none⟩ = some a ∧ w.cell? ⟨g, 1, none⟩ = some b ∧ w.cell? ⟨g, 2, none⟩ = some c ∧ w.cell? ⟨g, 3, none⟩ = some d ∧ w.cell? ⟨g, 4, none⟩ = some e ∧ w.cell? ⟨g, 5, none⟩ = some f ∧ w.cell? ⟨g, 6, none⟩ = some h :=
 ⟨H.cell 0, H.cell 1, H.cell 2, H.cell 3, H.cell 4, H.cell 5, H.cell 6⟩
theorem Ob.c3o {w : World} {g : Nat} {t : TypeId} {a b c : Value} (H : Ob w g t #[a, b, c]) : w.cell? ⟨g, 0, none⟩ = some a ∧ w.cell? ⟨g, 1, none⟩ = some b ∧ w.cell? ⟨g, 2, none⟩ = some c := ⟨H.cell 0, H.cell 1, H.cell 2⟩
theorem Ob.c2o {w : World} {g : Nat} {t : TypeId} {a b : Value} (H : Ob w g t #[a, b]) : w.cell? ⟨g, 0, none⟩ = some a ∧ w.cell? ⟨g, 1, none⟩ = some b := ⟨H.cell 0, H.cell 1⟩
end Go.Proofs.YtmoglaknmlhpgaaGreatDoor
/- What the rows of stage 10 lay: strconv's table and the words of package show. -/
namespace Go.Proofs.YtmoglaknmlhpgaaGreatDoor
set_option linter.unusedVariables false
open Go.RowKit

theorem cells_of_words {H : Type} {enc : TypeId × Value → H} {P : Program} {w : World} {base : Nat} {sp : Nat → Bool} {held : Bool} {fuel : Nat} {t e : TypeId} {n : Nat} {cs : List Value} {zs : List (List UInt8)} {p : List MemPlace}
  (ht : P.underlying t = some (.array n e)) (he : P.underlying e = some .string) (hce : P.cellsOf e = 1) (hct : P.cellsOf t = n)
  (h : DataW.trod enc P w base sp held fuel t cs = some (.agg (zs.map fun z => (DataW.lit (.string z) : DataW H)), p)) : cs = zs.map fun l => Value.string ⟨l.toArray⟩ := by
 cases fuel with
 | zero => simp [DataW.trod] at h
 | succ fuel =>
  simp only [DataW.trod, ht, hce, hct, Nat.mul_one] at h
  split at h
  ·rename_i hl
   obtain ⟨xs, hm, hx⟩ := Option.map_eq_some_iff.1 h
   have hxs : xs.map (·.1) = zs.map fun z => (DataW.lit (.string z) : DataW H) := by
    have := congrArg Prod.fst hx
    simpa using this
   have hxl : xs.length = n := by simpa using Lib.mapM_length hm
   have hzl : zs.length = n := by
    have := congrArg List.length hxs
    simp at this
    omega
   apply List.ext_getElem?
   intro i
   by_cases hi : i < n
   ·obtain ⟨b, hb, hf⟩ := Lib.mapM_at hm i i (by simp [hi])
    obtain ⟨s, hc, hx2, _⟩ := DataW.trod_string he hf
    have h1 : cs[i]? = some (.string s) := by
     have := congrArg (·[0]?) hc
     simpa [List.getElem?_take, List.getElem?_drop] using this
    have h2 : (xs.map (·.1))[i]? = some (DataW.lit (.string s.data.toList) : DataW H) := by
     rw [List.getElem?_map, hb, hx2]
     rfl
    rw [hxs] at h2
    simp only [List.getElem?_map, Option.map_eq_some_iff] at h2
    obtain ⟨z', hz', hzz⟩ := h2
    injection hzz with hzz
    injection hzz with hzz
    rw [h1, List.getElem?_map, hz', hzz]
    show some (Value.string s) = some (Value.string ⟨(bl s).toArray⟩)
    obtain ⟨⟨l⟩⟩ := s
    rfl
   ·rw [List.getElem?_eq_none (by omega), List.getElem?_eq_none (by simp; omega)]
  ·cases h
theorem tbl_of_laid {W : World} (h : laidMetH Tryz.prog Rows.evalOnlyRow.laid W) : Tbl W := by
 rw [MakeChecks.laidMetH_plain _ _ _ (by kernel_rfl)] at h
 obtain ⟨ps, ⟨g0, t0, cs0, f0, p0, q0, hg0, ht0, hv0, hd0, ⟨g1, t1, cs1, f1, p1, q1, hg1, ht1, hv1, hd1, ⟨g2, t2, cs2, f2, p2, q2, hg2, ht2, hv2, hd2, ⟨g3, t3, cs3, f3, p3, q3, hg3, ht3, hv3, hd3, ⟨g4, t4, cs4, f4, p4, q4, hg4, ht4, hv4, hd4, ⟨g5, t5, cs5, f5, p5, q5, hg5, ht5, hv5, hd5, ⟨g6, t6, cs6, f6, p6, q6, hg6, ht6, hv6, hd6, ⟨g7, t7, cs7, f7, p7, q7, hg7, ht7, hv7, hd7, _, _⟩, _⟩, _⟩, _⟩, _⟩, _⟩, _⟩, _⟩, _, _⟩ := h
 obtain rfl := Option.some.inj ((show Tryz.prog.globalNamed "internal/strconv.uint64pow10" = some 6 by kernel_rfl).symm.trans hg2)
 obtain rfl := Option.some.inj ((show (Tryz.prog.globals[6]?).map (·.type) = some 260 by kernel_rfl).symm.trans ht2)
 have hc := Lib.cells_of_tab (k := .u64) (zs := Lib.pow10Tab) (n := 20) (e := 253) Tryz.underlying260 Tryz.underlying253 (by kernel_rfl) (by kernel_rfl) hd2
 obtain rfl := Option.some.inj ((show Tryz.prog.globalNamed "bailiff/show.algorithms" = some 0 by kernel_rfl).symm.trans hg3)
 obtain rfl := Option.some.inj ((show (Tryz.prog.globals[0]?).map (·.type) = some 104 by kernel_rfl).symm.trans ht3)
 have hc3 := cells_of_words (zs := algL) (n := 7) (e := 9) Tryz.underlying104 Tryz.underlying9 (by kernel_rfl) (by kernel_rfl) hd3
 obtain rfl := Option.some.inj ((show Tryz.prog.globalNamed "bailiff/show.categories" = some 5 by kernel_rfl).symm.trans hg4)
 obtain rfl := Option.some.inj ((show (Tryz.prog.globals[5]?).map (·.type) = some 142 by kernel_rfl).symm.trans ht4)
 have hc4 := cells_of_words (zs := catL) (n := 5) (e := 9) Tryz.underlying142 Tryz.underlying9 (by kernel_rfl) (by kernel_rfl) hd4
 obtain rfl := Option.some.inj ((show Tryz.prog.globalNamed "bailiff/show.functions" = some 3 by kernel_rfl).symm.trans hg5)
 obtain rfl := Option.some.inj ((show (Tryz.prog.globals[3]?).map (·.type) = some 207 by kernel_rfl).symm.trans ht5)
 have hc5 := cells_of_words (zs := fnL) (n := 14) (e := 9) Tryz.underlying207 Tryz.underlying9 (by kernel_rfl) (by kernel_rfl) hd5
 obtain rfl := Option.some.inj ((show Tryz.prog.globalNamed "bailiff/show.comparisons" = some 4 by kernel_rfl).symm.trans hg6)
 obtain rfl := Option.some.inj ((show (Tryz.prog.globals[4]?).map (·.type) = some 225 by kernel_rfl).symm.trans ht6)
 have hc6 := cells_of_words (zs := cmpL) (n := 4) (e := 9) Tryz.underlying225 Tryz.underlying9 (by kernel_rfl) (by kernel_rfl) hd6
 obtain rfl := Option.some.inj ((show Tryz.prog.globalNamed "bailiff/show.doings" = some 1 by kernel_rfl).symm.trans hg7)
 obtain rfl := Option.some.inj ((show (Tryz.prog.globals[1]?).map (·.type) = some 142 by kernel_rfl).symm.trans ht7)
 have hc7 := cells_of_words (zs := doL) (n := 5) (e := 9) Tryz.underlying142 Tryz.underlying9 (by kernel_rfl) (by kernel_rfl) hd7
 refine ⟨?_, ?_, ?_, ?_, ?_, ?_⟩
 ·unfold Tab Lib.TabIs
  rw [hv2, ← hc]
 ·unfold WordsIs
  rw [hv3, ← hc3]
 ·unfold WordsIs
  rw [hv4, ← hc4]
 ·unfold WordsIs
  rw [hv5, ← hc5]
 ·unfold WordsIs
  rw [hv6, ← hc6]
 ·unfold WordsIs
  rw [hv7, ← hc7]
end Go.Proofs.YtmoglaknmlhpgaaGreatDoor
/- The rows' condition, met at the program's own start. -/
namespace Go.Proofs.YtmoglaknmlhpgaaGreatDoor
open Go.ChangeShapes Go.WideShapes Go.ChangeAt Go.WideMaps Go.WideElems Go.RowKit

theorem own : ownKnob Tryz.prog.godebug = none := by kernel_rfl
theorem laidOut : laidOutB Tryz.prog = true := by kernel_rfl

theorem door_met (os : Os) (args : Array Value) : laidMetH Tryz.prog Rows.evalOnlyRow.laid ((World.doorLaid Tryz.prog 300 os).forCall (fun _ _ => 0) ⟨#[], args, []⟩).memory :=
 laidMetH_of_parts3 (fuel := 8) (laidMet_of_run' 8 (by kernel_rfl) (by kernel_rfl)) (by kernel_rfl) (by kernel_rfl)
end Go.Proofs.YtmoglaknmlhpgaaGreatDoor
/- Arguments that come in: a slice of bytes as Sl. -/
namespace Go.Proofs.YtmoglaknmlhpgaaGreatDoor
set_option linter.unusedVariables false
open Go.RowKit Go.ChangeShapes Go.WideShapes

theorem cell_lt {w : World} {p : Addr} {v : Value} (h : w.cell? p = some v) : p.block < w.heap.size := by
 rcases Nat.lt_or_ge p.block w.heap.size with hlt | hge
 ·exact hlt
 ·simp [World.cell?, Array.getElem?_eq_none hge] at h

end Go.Proofs.YtmoglaknmlhpgaaGreatDoor
/- Rows of structs that come in: what any of them asks. -/
namespace Go.Proofs.YtmoglaknmlhpgaaGreatDoor
set_option linter.unusedVariables false
open Go.RowKit Go.ChangeShapes Go.WideShapes

section
variable {H : Type} {enc : TypeId × Value → H} {w : World} {base : Nat} {spare : Nat → Bool} {held : Bool}

def Wt (P : Program) (t : TypeId) (d : DataW H) : Prop := (d.weights P t).all (fun x => decide (x ≤ reachBytes)) = true
theorem wt_all {P : Program} {e : TypeId} : ∀ {l : List (DataW H)}, (DataW.weightsAll P e l).all (fun x => decide (x ≤ reachBytes)) = true → ∀ d ∈ l, Wt P e d
 | [], _, d, hd => by cases hd
 | x :: l, h, d, hd => by
  rw [DataW.weightsAll, List.all_append, Bool.and_eq_true] at h
  rcases List.mem_cons.1 hd with rfl | hd
  ·exact h.1
  ·exact wt_all h.2 d hd
theorem wt_slice {P : Program} {t e : TypeId} {a b : List (DataW H)} (ht : P.underlying t = some (.slice e)) (h : Wt P t (.slice a b)) : (a.length + b.length) * P.bytesOf e ≤ reachBytes ∧ ∀ d ∈ a, Wt P e d := by
 unfold Wt at h
 rw [DataW.weights] at h
 simp only [ht] at h
 rw [List.all_cons, List.all_append, Bool.and_eq_true, Bool.and_eq_true] at h
 exact ⟨by simpa using h.1, wt_all h.2.1⟩
theorem wt_each {P : Program} : ∀ {ts : List TypeId} {ds : List (DataW H)}, (DataW.weightsEach P ts ds).all (fun x => decide (x ≤ reachBytes)) = true → ∀ (i : Nat) t d, ts[i]? = some t → ds[i]? = some d → Wt P t d
 | [], _, _, _, _, _, ht, _ => by simp at ht
 | _ :: _, [], _, _, _, _, _, hd => by simp at hd
 | t :: ts, d :: ds, h, 0, t', d', ht, hd => by
  rw [DataW.weightsEach, List.all_append, Bool.and_eq_true] at h
  simp at ht hd
  subst ht hd
  exact h.1
 | t :: ts, d :: ds, h, i + 1, t', d', ht, hd => by
  rw [DataW.weightsEach, List.all_append, Bool.and_eq_true] at h
  exact wt_each h.2 i t' d' (by simpa using ht) (by simpa using hd)
theorem wt_struct {P : Program} {t : TypeId} {fs : Array Field} {parts : List (DataW H)} (ht : P.underlying t = some (.struct fs)) (h : Wt P t (.agg parts)) (i : Nat) (f : Field) (d : DataW H) (hf : fs[i]? = some f) (hd : parts[i]? = some d) : Wt P f.type d := by
 unfold Wt at h
 rw [DataW.weights] at h
 simp only [ht] at h
 exact wt_each h i f.type d (by simp [hf]) hd
theorem open_rows {P : Program} {α : Type} [Inhabited α] {e t : TypeId} {k fuel n c : Nat} {A : Option Addr} {x : DataW H × List MemPlace} {Pn : List Value → α → Prop} (ht : P.underlying t = some (.slice e)) (hC : P.cellsOf e = k) (hk : 0 < k)
  (hby : 0 < P.bytesOf e) (hel : ∀ m cs y, m < fuel → cs.length = k → Wt P e y.1 → DataW.trod enc P w base spare held m e cs = some y → ∃ z, Pn cs z) (hwt : Wt P t x.1) (h : DataW.trod enc P w base spare held fuel t [.slice A n c] = some x) : ∃ l, Rw k Pn w (fun _ => True) A n c l := by
 rcases DataW.trod_slice ht h with ⟨hcs, _⟩ | ⟨a, len, cap, elems, rest, m, hfu, hcs, hxe, hb, hl, hm, hlen, hx, _⟩
 ·simp at hcs
  obtain ⟨rfl, rfl, rfl⟩ := hcs
  exact ⟨[], Rw.nil_ _ _ _ _⟩
 ·simp at hcs
  obtain ⟨rfl, rfl, rfl⟩ := hcs
  subst hxe
  obtain ⟨hw1, hw2⟩ := wt_slice ht hwt
  have hbig : n ≤ 140737488351232 := by
   rw [List.length_map, List.length_map, hlen] at hw1
   have e1 : n * 1 ≤ (n + rest.length) * P.bytesOf e := Nat.mul_le_mul (by omega) hby
   have e2 : reachBytes = 140737488351232 := rfl
   omega
  have hall : ∀ i, i < n → ∃ z : α, ∃ cs : List Value, cs.length = k ∧ (∀ j, j < k → w.cell? ((a.add (i * k)).add j) = cs[j]?) ∧ Pn cs z := fun i hin => by
   have hi := hx i hin
   rw [hC, List.getElem?_eq_getElem (by omega)] at hi
   obtain ⟨cs, hc, hy⟩ := Option.bind_eq_some_iff.1 hi
   obtain ⟨_, hcl, hat⟩ := World.cells?_some hc
   obtain ⟨z, hz⟩ := hel m cs _ (by omega) hcl (hw2 _ (List.mem_map.2 ⟨_, List.getElem_mem (by omega), rfl⟩)) hy
   exact ⟨z, cs, hcl, hat, hz⟩
  obtain ⟨V, hV⟩ := Go.Deep.choose_lt hall
  refine ⟨(List.range n).map V, by simp, hl, ⟨hm, hbig⟩, ?_⟩
  by_cases h0 : n = 0
  ·exact .inl h0
  ·right
   obtain ⟨b, o, spot⟩ := a
   obtain ⟨cs0, hl0, hat0, _⟩ := hV 0 (by omega)
   have h00 := hat0 0 hk
   rw [List.getElem?_eq_getElem (by omega)] at h00
   have hspot : spot = none := by simpa [Addr.add] using World.cell?_spot h00
   subst hspot
   refine ⟨b, o, rfl, trivial, by have := cell_lt h00; simpa [Addr.add] using this, fun j x hj => ?_⟩
   rw [List.getElem?_map, Option.map_eq_some_iff] at hj
   obtain ⟨i, hi', rfl⟩ := hj
   have hjn : j < n := by have := (List.getElem?_eq_some_iff.1 hi').1; simpa using this
   have hij : i = j := by rw [List.getElem?_range hjn] at hi'; exact (Option.some.inj hi').symm
   subst hij
   obtain ⟨cs, hcl, hat, hz⟩ := hV i hjn
   refine ⟨cs, hcl, fun q v hq => ?_, hz⟩
   have hqk : q < k := by have := (List.getElem?_eq_some_iff.1 hq).1; omega
   have add : ∀ i k : Nat, ((⟨b, o, none⟩ : Addr).add i).add k = ⟨b, o + i + k, none⟩ := by
    intro i k
    by_cases hi0 : i = 0 <;> by_cases hk0 : k = 0 <;> simp [Addr.add, hi0, hk0]
   have := hat q hqk
   rw [add] at this
   rw [this, hq]

theorem len3 {α : Type} {cs : List α} (h : cs.length = 3) : ∃ v0 v1 v2, cs = [v0, v1, v2] := by
 match cs, h with
 | [v0, v1, v2], _ => exact ⟨v0, v1, v2, rfl⟩
theorem len5 {α : Type} {cs : List α} (h : cs.length = 5) : ∃ v0 v1 v2 v3 v4, cs = [v0, v1, v2, v3, v4] := by
 match cs, h with
 | [v0, v1, v2, v3, v4], _ => exact ⟨v0, v1, v2, v3, v4, rfl⟩
theorem len7 {α : Type} {cs : List α} (h : cs.length = 7) : ∃ v0 v1 v2 v3 v4 v5 v6, cs = [v0, v1, v2, v3, v4, v5, v6] := by
 match cs, h with
 | [v0, v1, v2, v3, v4, v5, v6], _ => exact ⟨v0, v1, v2, v3, v4, v5, v6, rfl⟩
theorem fields3 {P : Program} {e : TypeId} {f0 f1 f2 : Field} {fuel : Nat} {cs : List Value} {x : DataW H × List MemPlace} (he : P.underlying e = some (.struct #[f0, f1, f2])) (hwt : Wt P e x.1) (h : DataW.trod enc P w base spare held fuel e cs = some x) :
  ∃ m, fuel = m + 1 ∧ cs.length = P.cellsOf e ∧ ∃ y0 y1 y2, (Wt P f0.type y0.1 ∧ Wt P f1.type y1.1 ∧ Wt P f2.type y2.1) ∧ DataW.trod enc P w base spare held m f0.type ((cs.drop f0.offset).take (P.cellsOf f0.type)) = some y0 ∧ DataW.trod enc P w base spare held m f1.type ((cs.drop f1.offset).take (P.cellsOf f1.type)) = some y1 ∧ DataW.trod enc P w base spare held m f2.type ((cs.drop f2.offset).take (P.cellsOf f2.type)) = some y2 := by
 obtain ⟨ys, n', hn', hy, hlen, hyl, hf⟩ := DataW.trod_struct he h
 subst hy
 have hw := fun i f d => wt_struct he hwt i f d
 have ysn : ys.length = 3 := hyl
 match ys, ysn with
 | [y0, y1, y2], _ => exact ⟨n', hn', hlen, y0, y1, y2, ⟨hw 0 _ _ rfl rfl, hw 1 _ _ rfl rfl, hw 2 _ _ rfl rfl⟩, hf 0 _ rfl, hf 1 _ rfl, hf 2 _ rfl⟩
theorem fields5 {P : Program} {e : TypeId} {f0 f1 f2 f3 f4 : Field} {fuel : Nat} {cs : List Value} {x : DataW H × List MemPlace} (he : P.underlying e = some (.struct #[f0, f1, f2, f3, f4])) (hwt : Wt P e x.1) (h : DataW.trod enc P w base spare held fuel e cs = some x) :
  ∃ m, fuel = m + 1 ∧ cs.length = P.cellsOf e ∧ ∃ y0 y1 y2 y3 y4, (Wt P f0.type y0.1 ∧ Wt P f1.type y1.1 ∧ Wt P f2.type y2.1 ∧ Wt P f3.type y3.1 ∧ Wt P f4.type y4.1) ∧ DataW.trod enc P w base spare held m f0.type ((cs.drop f0.offset).take (P.cellsOf f0.type)) = some y0 ∧ DataW.trod enc P w base spare held m f1.type ((cs.drop f1.offset).take (P.cellsOf f1.type)) = some y1 ∧ DataW.trod enc P w base spare held m f2.type ((cs.drop f2.offset).take (P.cellsOf f2.type)) = some y2 ∧ DataW.trod enc P w base spare held m f3.type ((cs.drop f3.offset).take (P.cellsOf f3.type)) = some y3 ∧ DataW.trod enc P w base spare held m f4.type ((cs.drop f4.offset).take (P.cellsOf f4.type)) = some y4 := by
 obtain ⟨ys, n', hn', hy, hlen, hyl, hf⟩ := DataW.trod_struct he h
 subst hy
 have hw := fun i f d => wt_struct he hwt i f d
 have ysn : ys.length = 5 := hyl
 match ys, ysn with
 | [y0, y1, y2, y3, y4], _ => exact ⟨n', hn', hlen, y0, y1, y2, y3, y4, ⟨hw 0 _ _ rfl rfl, hw 1 _ _ rfl rfl, hw 2 _ _ rfl rfl, hw 3 _ _ rfl rfl, hw 4 _ _ rfl rfl⟩, hf 0 _ rfl, hf 1 _ rfl, hf 2 _ rfl, hf 3 _ rfl, hf 4 _ rfl⟩
theorem fields7 {P : Program} {e : TypeId} {f0 f1 f2 f3 f4 f5 f6 : Field} {fuel : Nat} {cs : List Value} {x : DataW H × List MemPlace} (he : P.underlying e = some (.struct #[f0, f1, f2, f3, f4, f5, f6])) (hwt : Wt P e x.1) (h : DataW.trod enc P w base spare held fuel e cs = some x) :
  ∃ m, fuel = m + 1 ∧ cs.length = P.cellsOf e ∧ ∃ y0 y1 y2 y3 y4 y5 y6, (Wt P f0.type y0.1 ∧ Wt P f1.type y1.1 ∧ Wt P f2.type y2.1 ∧ Wt P f3.type y3.1 ∧ Wt P f4.type y4.1 ∧ Wt P f5.type y5.1 ∧ Wt P f6.type y6.1) ∧ DataW.trod enc P w base spare held m f0.type ((cs.drop f0.offset).take (P.cellsOf f0.type)) = some y0 ∧ DataW.trod enc P w base spare held m f1.type ((cs.drop f1.offset).take (P.cellsOf f1.type)) = some y1 ∧ DataW.trod enc P w base spare held m f2.type ((cs.drop f2.offset).take (P.cellsOf f2.type)) = some y2 ∧ DataW.trod enc P w base spare held m f3.type ((cs.drop f3.offset).take (P.cellsOf f3.type)) = some y3 ∧ DataW.trod enc P w base spare held m f4.type ((cs.drop f4.offset).take (P.cellsOf f4.type)) = some y4 ∧ DataW.trod enc P w base spare held m f5.type ((cs.drop f5.offset).take (P.cellsOf f5.type)) = some y5 ∧ DataW.trod enc P w base spare held m f6.type ((cs.drop f6.offset).take (P.cellsOf f6.type)) = some y6 := by
 obtain ⟨ys, n', hn', hy, hlen, hyl, hf⟩ := DataW.trod_struct he h
 subst hy
 have hw := fun i f d => wt_struct he hwt i f d
 have ysn : ys.length = 7 := hyl
 match ys, ysn with
 | [y0, y1, y2, y3, y4, y5, y6], _ => exact ⟨n', hn', hlen, y0, y1, y2, y3, y4, y5, y6, ⟨hw 0 _ _ rfl rfl, hw 1 _ _ rfl rfl, hw 2 _ _ rfl rfl, hw 3 _ _ rfl rfl, hw 4 _ _ rfl rfl, hw 5 _ _ rfl rfl, hw 6 _ _ rfl rfl⟩, hf 0 _ rfl, hf 1 _ rfl, hf 2 _ rfl, hf 3 _ rfl, hf 4 _ rfl, hf 5 _ rfl, hf 6 _ rfl⟩
theorem slice_cells {P : Program} {t e : TypeId} {m : Nat} {v : Value} {y : DataW H × List MemPlace} (ht : P.underlying t = some (.slice e)) (h : DataW.trod enc P w base spare held m t [v] = some y) : ∃ A n c, v = .slice A n c := by
 rcases DataW.trod_slice ht h with ⟨hcs, _⟩ | ⟨a, len, cap, elems, rest, m, hfu, hcs, _⟩
 ·exact ⟨none, 0, 0, by simpa using hcs⟩
 ·exact ⟨some a, len, cap, by simpa using hcs⟩
theorem open_struct {P : Program} {t : TypeId} {fs : Array Field} {r : Reach} {b0 : Nat} {v : Value} {d : DataW H} {p : List MemPlace} (hs : P.underlying t = some (.struct fs)) (hv : Value.okWide P w r b0 t v) (h : DataW.Trod enc P w base spare held t v d p) :
  ∃ (cs : List Value) (m : Nat), v = .agg cs.toArray ∧ DataW.trod enc P w base spare held m t cs = some (d, p) := by
 obtain ⟨cs, rfl, hsz⟩ := WideShapes.okWide_struct hs hv
 obtain ⟨m, hm⟩ := h
 exact ⟨cs.toList, m, by simp, hm⟩
end
end Go.Proofs.YtmoglaknmlhpgaaGreatDoor
/- Values and attributes that come in. -/
namespace Go.Proofs.YtmoglaknmlhpgaaGreatDoor
set_option linter.unusedVariables false
open Go.RowKit Go.ChangeShapes Go.WideShapes

instance : Inhabited Atr := ⟨zeroA⟩
section
variable {H : Type} {enc : TypeId × Value → H} {w : World} {base : Nat} {spare : Nat → Bool} {held : Bool}

theorem open_atr_cells {m : Nat} {cs : List Value} {y : DataW H × List MemPlace} (hwt : Wt Tryz.prog 79 y.1) (h : DataW.trod enc Tryz.prog w base spare held m 79 cs = some y) : ∃ a : Atr, cs = a.cells ∧ a.ok := by
 obtain ⟨m', _, hlen, y0, y1, y2, ⟨q0, q1, q2⟩, g0, g1, g2⟩ := fields3 Tryz.underlying79 hwt h
 obtain ⟨v0, v1, v2, rfl⟩ := len3 (hlen.trans (show Tryz.prog.cellsOf 79 = 3 by kernel_rfl))
 have g0 : DataW.trod enc Tryz.prog w base spare held m' 3 (([v0, v1, v2] : List Value).drop 0 |>.take (Tryz.prog.cellsOf 3)) = some y0 := g0
 rw [show Tryz.prog.cellsOf 3 = 1 by kernel_rfl] at g0
 have g1 : DataW.trod enc Tryz.prog w base spare held m' 9 (([v0, v1, v2] : List Value).drop 1 |>.take (Tryz.prog.cellsOf 9)) = some y1 := g1
 rw [show Tryz.prog.cellsOf 9 = 1 by kernel_rfl] at g1
 have g2 : DataW.trod enc Tryz.prog w base spare held m' 4 (([v0, v1, v2] : List Value).drop 2 |>.take (Tryz.prog.cellsOf 4)) = some y2 := g2
 rw [show Tryz.prog.cellsOf 4 = 1 by kernel_rfl] at g2
 obtain ⟨x0, e0, _, w0⟩ := DataW.trod_int Tryz.underlying3 (show DataW.trod enc Tryz.prog w base spare held m' 3 [v0] = some y0 from g0)
 obtain ⟨x1, e1, _, w1⟩ := DataW.trod_string Tryz.underlying9 (show DataW.trod enc Tryz.prog w base spare held m' 9 [v1] = some y1 from g1)
 obtain ⟨x2, e2, _⟩ := DataW.trod_bool Tryz.underlying4 (show DataW.trod enc Tryz.prog w base spare held m' 4 [v2] = some y2 from g2)
 injection e0 with e0
 injection e1 with e1
 injection e2 with e2
 subst e0 e1 e2
 exact ⟨⟨x0, x1, x2⟩, rfl, wf_bounds w0, w1⟩
theorem open_vl_cells {m : Nat} {cs : List Value} {y : DataW H × List MemPlace} (hwt : Wt Tryz.prog 31 y.1) (h : DataW.trod enc Tryz.prog w base spare held m 31 cs = some y) : ∃ a : Vl, cs = a.cells ∧ a.ok := by
 obtain ⟨m', _, hlen, y0, y1, y2, ⟨q0, q1, q2⟩, g0, g1, g2⟩ := fields3 Tryz.underlying31 hwt h
 obtain ⟨v0, v1, v2, rfl⟩ := len3 (hlen.trans (show Tryz.prog.cellsOf 31 = 3 by kernel_rfl))
 have g0 : DataW.trod enc Tryz.prog w base spare held m' 3 (([v0, v1, v2] : List Value).drop 0 |>.take (Tryz.prog.cellsOf 3)) = some y0 := g0
 rw [show Tryz.prog.cellsOf 3 = 1 by kernel_rfl] at g0
 have g1 : DataW.trod enc Tryz.prog w base spare held m' 3 (([v0, v1, v2] : List Value).drop 1 |>.take (Tryz.prog.cellsOf 3)) = some y1 := g1
 rw [show Tryz.prog.cellsOf 3 = 1 by kernel_rfl] at g1
 have g2 : DataW.trod enc Tryz.prog w base spare held m' 9 (([v0, v1, v2] : List Value).drop 2 |>.take (Tryz.prog.cellsOf 9)) = some y2 := g2
 rw [show Tryz.prog.cellsOf 9 = 1 by kernel_rfl] at g2
 obtain ⟨x0, e0, _, w0⟩ := DataW.trod_int Tryz.underlying3 (show DataW.trod enc Tryz.prog w base spare held m' 3 [v0] = some y0 from g0)
 obtain ⟨x1, e1, _, w1⟩ := DataW.trod_int Tryz.underlying3 (show DataW.trod enc Tryz.prog w base spare held m' 3 [v1] = some y1 from g1)
 obtain ⟨x2, e2, _, w2⟩ := DataW.trod_string Tryz.underlying9 (show DataW.trod enc Tryz.prog w base spare held m' 9 [v2] = some y2 from g2)
 injection e0 with e0
 injection e1 with e1
 injection e2 with e2
 subst e0 e1 e2
 exact ⟨⟨x0, x1, x2⟩, rfl, wf_bounds w0, wf_bounds w1, w2⟩
end
end Go.Proofs.YtmoglaknmlhpgaaGreatDoor
