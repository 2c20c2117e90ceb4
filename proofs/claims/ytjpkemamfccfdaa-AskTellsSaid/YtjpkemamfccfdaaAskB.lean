/- Several texts in one: VBag, AskMath, PolMem, PolLeaf, PolCut, PolEq, PolHolds, PolExpr, PolEach, PolWalk, PolOr, PolRule, PolPol, PolSucc, PolRight, PolLit, PolApp, PolOw, Gr, VApp, AskMem, HTail, AskCmp, AskOrd, AskSort, Make, Num, TextP, VPutV, AskPutW, AskSum, VBoxPut, Clone. -/
import Derived.Test.YtjpkemamfccfdaaAskA
import Derived.Maps.OwnOps
import Derived.Maps.Views
import Derived.Maps.AppendAt
import Derived.Deep.RegionLaw
import Derived.Laws.OwnMore
import Derived.StillTail
import Derived.OrdersHeld
import Derived.RegionTactic
import Derived.Laws.Cover1
import Derived.Lib.Strings
import Derived.Lib.Walk
import Derived.Lib.BufferWrite
import Derived.Lib.UnsafeStr
import Derived.Laws.MakeOwn
/- Bag: the project's and the reference's. -/
namespace Go.Proofs.Ytjpkemamfccfdaa
set_option linter.unusedVariables false
open Go.RowKit Go.Sort

set_option maxHeartbeats 1600000 in
theorem vbag_any {w : World} {B n c : Nat} {A : Option Addr} {l : List Vl} (h : Vs w B A n c l) (hB : B ≤ w.heap.size) :
    Calls Try.prog 59 #[.slice A n c] w fun e w' => e = .returned (.bool (bagB l)) ∧ Below w.heap.size w w' := by
  have hlen := h.1
  have hcap := h.2.2.1
  have hle := h.2.1
  unfold maxLen at hcap
  have HV := Lib.hid h
  have HL := Lib.hid hlen
  clear h hlen
  by_cases hn16 : 16 < n
  · go_enter Try.func59, Try.ntmps59
    go_wp2_with fail
    go_ret
    exact ⟨ret_bool (bag_long (by have := HL.out; omega)).symm, Below.refl _ _⟩
  go_enter Try.func59, Try.ntmps59
  go_wp2_with fail
  go_loopw [10] (fun i wr => ∃ k : Nat, k ≤ n ∧ k ≤ 16 ∧ i = .int .i64 k ∧ BagTo l k ∧ Below w.heap.size w wr) (fun i _ => n - (intOf i).toNat)
  case atStart => exact ⟨0, Nat.zero_le _, by omega, rfl, fun j x _ hj => by omega, Below.refl _ _⟩
  case round =>
    obtain ⟨k, hk, hk16, rfl, ht, hb⟩ := hrel
    have HT := Lib.hid ht
    have HB := Lib.hid hb
    by_cases hlt : k < n
    · obtain ⟨b, o, x, rfl, hbB, hx, hok, x0, x1, x2⟩ := (HV.out.below (hb.mono hB)).at_ hlt
      obtain ⟨b', o', y, hA, _, hy, _, y0, _, _⟩ := (HV.out.below (hb.mono hB)).at_ (k := 0) (by omega)
      injection hA with hA
      injection hA with hA1 hA2
      subst hA1 hA2
      simp only [Nat.zero_mul, Nat.add_zero] at y0
      obtain ⟨kx, nx, sx⟩ := x
      obtain ⟨ky, ny, sy⟩ := y
      have HX := Lib.hid hx
      have HY := Lib.hid hy
      have qr := fun W d os => Calls.regrown_of (w := W) (d := d) (os := os) (right_any kx nx sx hok.2.2 (grow (redrawn W d) os))
      have hlo : (0 : Int) < (n : Int) := by omega
      have y0' : (wr.alloc (.cells #[.int .i64 kx, .int .i64 nx, .string sx] 25)).cell? ⟨b, o, none⟩ = some (.int .i64 ky) := by
        rw [World.cell?_of_block (Below.heap_alloc wr _ b (by have := hb.size; omega))]; exact y0
      have hbx := Bx.made wr kx nx sx
      have D1 := Lib.hid (hb.alloc hb.size (.cells #[.int .i64 kx, .int .i64 nx, .string sx] 25))
      clear ht hb hx hy hok
      by_cases hr : RightV kx nx sx.data.toList
      · have HR : Hid (Vl.right ⟨kx, nx, sx⟩) := hr
        rw [decide_eq_true hr] at qr
        have QR := Lib.hid qr
        clear qr hr
        by_cases hkk : kx = ky
        · have hne : (kx != ky) = false := by simp [hkk]
          have HK := Lib.hid hkk
          clear hkk
          go_wp2_with fail
          generalize wr.alloc (.cells #[.int .i64 kx, .int .i64 nx, .string sx] 25) = W1 at *
          obtain ⟨g0, g1, g2⟩ := hbx.grown
          have z0 : ∀ d os, (grow (redrawn W1 d) os).cell? ⟨b, o, none⟩ = some (.int .i64 ky) := fun d os => cell_regrown y0' d os
          refine wp_region_quiet_below (by kernel_rfl) (by kernel_rfl) ?_
          repeat (go_big_quiet_step ((go_at_call 74; exact QR.out _ _ _)))
          refine wpQuiet_nil ?_
          intro _ hw'
          obtain ⟨⟨dq, osq⟩, hw''⟩ := hw'
          subst hw''
          have D2 := Lib.hid (below_step D1.out (below_regrown W1 dq osq))
          clear g0 g1 g2 z0
          generalize grow (redrawn W1 dq) osq = W2 at *
          go_wp2_with fail
          go_roundw
          case rel => exact ⟨k + 1, by omega, by omega, by go_num, HT.out.step HX.out HR.out HY.out HK.out, D2.out⟩
          case measure => simp [intOf]; omega
        · have hne : (kx != ky) = true := by rw [bne_iff_ne]; exact hkk
          have HK := Lib.hid hkk
          clear hkk
          go_wp2_with fail
          generalize wr.alloc (.cells #[.int .i64 kx, .int .i64 nx, .string sx] 25) = W1 at *
          obtain ⟨g0, g1, g2⟩ := hbx.grown
          have z0 : ∀ d os, (grow (redrawn W1 d) os).cell? ⟨b, o, none⟩ = some (.int .i64 ky) := fun d os => cell_regrown y0' d os
          refine wp_region_quiet_below (by kernel_rfl) (by kernel_rfl) ?_
          repeat (go_big_quiet_step ((go_at_call 74; exact QR.out _ _ _)))
          refine wpQuiet_nil ?_
          intro _ hw'
          obtain ⟨⟨dq, osq⟩, hw''⟩ := hw'
          subst hw''
          have D2 := Lib.hid (below_step D1.out (below_regrown W1 dq osq))
          clear g0 g1 g2 z0
          generalize grow (redrawn W1 dq) osq = W2 at *
          go_wp2_with fail
          go_ret
          exact ⟨ret_bool (bag_bad HX.out HY.out (.inr HK.out)).symm, D2.out⟩
      · have HR : Hid (¬ Vl.right ⟨kx, nx, sx⟩) := hr
        rw [decide_eq_false hr] at qr
        have QR := Lib.hid qr
        clear qr hr
        go_wp2_with fail
        generalize wr.alloc (.cells #[.int .i64 kx, .int .i64 nx, .string sx] 25) = W1 at *
        obtain ⟨g0, g1, g2⟩ := hbx.grown
        have z0 : ∀ d os, (grow (redrawn W1 d) os).cell? ⟨b, o, none⟩ = some (.int .i64 ky) := fun d os => cell_regrown y0' d os
        refine wp_region_quiet_below (by kernel_rfl) (by kernel_rfl) ?_
        repeat (go_big_quiet_step ((go_at_call 74; exact QR.out _ _ _)))
        refine wpQuiet_nil ?_
        intro _ hw'
        obtain ⟨⟨dq, osq⟩, hw''⟩ := hw'
        subst hw''
        have D2 := Lib.hid (below_step D1.out (below_regrown W1 dq osq))
        clear g0 g1 g2 z0
        generalize grow (redrawn W1 dq) osq = W2 at *
        go_wp2_with fail
        go_ret
        exact ⟨ret_bool (bag_bad HX.out HY.out (.inl HR.out)).symm, D2.out⟩
    · obtain rfl : k = n := by omega
      clear ht hb
      go_wp2_with fail
      go_ret
      exact ⟨ret_bool ((HT.out.all HL.out).trans (decide_eq_true (by omega))).symm, HB.out⟩

set_option maxHeartbeats 1600000 in
theorem vrefbag_any {w : World} {B n c : Nat} {A : Option Addr} {l : List Vl} (h : Vs w B A n c l) (hB : B ≤ w.heap.size) :
    Calls Try.prog 46 #[.slice A n c] w fun e w' => e = .returned (.bool (bagB l)) ∧ Below w.heap.size w w' := by
  have hlen := h.1
  have hcap := h.2.2.1
  have hle := h.2.1
  unfold maxLen at hcap
  have HV := Lib.hid h
  have HL := Lib.hid hlen
  clear h hlen
  go_enter Try.func46, Try.ntmps46
  go_wp2_with fail
  go_loopw [7] (fun i wr => ∃ k : Nat, k ≤ n ∧ k ≤ 16 ∧ i = .int .i64 k ∧ BagTo l k ∧ Below w.heap.size w wr) (fun i _ => n - (intOf i).toNat)
  case atStart => exact ⟨0, Nat.zero_le _, by omega, rfl, fun j x _ hj => by omega, Below.refl _ _⟩
  case round =>
    obtain ⟨k, hk, hk16, rfl, ht, hb⟩ := hrel
    have HT := Lib.hid ht
    have HB := Lib.hid hb
    by_cases hlt : k < n
    · obtain ⟨b, o, x, rfl, hbB, hx, hok, x0, x1, x2⟩ := (HV.out.below (hb.mono hB)).at_ hlt
      obtain ⟨b', o', y, hA, _, hy, _, y0, _, _⟩ := (HV.out.below (hb.mono hB)).at_ (k := 0) (by omega)
      injection hA with hA
      injection hA with hA1 hA2
      subst hA1 hA2
      simp only [Nat.zero_mul, Nat.add_zero] at y0
      obtain ⟨kx, nx, sx⟩ := x
      obtain ⟨ky, ny, sy⟩ := y
      have HX := Lib.hid hx
      have HY := Lib.hid hy
      have qr := fun W d os => Calls.regrown_of (w := W) (d := d) (os := os) (refright_any kx nx sx hok.2.2 (grow (redrawn W d) os))
      have hlo : (0 : Int) < (n : Int) := by omega
      have y0' : (wr.alloc (.cells #[.int .i64 kx, .int .i64 nx, .string sx] 25)).cell? ⟨b, o, none⟩ = some (.int .i64 ky) := by
        rw [World.cell?_of_block (Below.heap_alloc wr _ b (by have := hb.size; omega))]; exact y0
      have hbx := Bx.made wr kx nx sx
      have D1 := Lib.hid (hb.alloc hb.size (.cells #[.int .i64 kx, .int .i64 nx, .string sx] 25))
      clear ht hb hx hy hok
      by_cases hr : RightV kx nx sx.data.toList
      · have HR : Hid (Vl.right ⟨kx, nx, sx⟩) := hr
        rw [decide_eq_true hr] at qr
        have QR := Lib.hid qr
        clear qr hr
        by_cases hkk : kx = ky
        · have hne : (kx != ky) = false := by simp [hkk]
          have HK := Lib.hid hkk
          clear hkk
          by_cases h16 : k = 16
          · subst h16
            go_wp2_with fail
            generalize wr.alloc (.cells #[.int .i64 kx, .int .i64 nx, .string sx] 25) = W1 at *
            obtain ⟨g0, g1, g2⟩ := hbx.grown
            have z0 : ∀ d os, (grow (redrawn W1 d) os).cell? ⟨b, o, none⟩ = some (.int .i64 ky) := fun d os => cell_regrown y0' d os
            refine wp_region_quiet_below (by kernel_rfl) (by kernel_rfl) ?_
            repeat (go_big_quiet_step ((go_at_call 57; exact QR.out _ _ _)))
            refine wpQuiet_nil ?_
            intro _ hw'
            obtain ⟨⟨dq, osq⟩, hw''⟩ := hw'
            subst hw''
            have D2 := Lib.hid (below_step D1.out (below_regrown W1 dq osq))
            clear g0 g1 g2 z0
            generalize grow (redrawn W1 dq) osq = W2 at *
            go_wp2_with fail
            go_ret
            exact ⟨ret_bool (bag_long (by have := HL.out; omega)).symm, D2.out⟩
          · have hd16 : decide (16 ≤ (k : Int)) = false := decide_eq_false (by omega)
            have hk15 : k < 16 := by omega
            go_wp2_with fail
            generalize wr.alloc (.cells #[.int .i64 kx, .int .i64 nx, .string sx] 25) = W1 at *
            obtain ⟨g0, g1, g2⟩ := hbx.grown
            have z0 : ∀ d os, (grow (redrawn W1 d) os).cell? ⟨b, o, none⟩ = some (.int .i64 ky) := fun d os => cell_regrown y0' d os
            refine wp_region_quiet_below (by kernel_rfl) (by kernel_rfl) ?_
            repeat (go_big_quiet_step ((go_at_call 57; exact QR.out _ _ _)))
            refine wpQuiet_nil ?_
            intro _ hw'
            obtain ⟨⟨dq, osq⟩, hw''⟩ := hw'
            subst hw''
            have D2 := Lib.hid (below_step D1.out (below_regrown W1 dq osq))
            clear g0 g1 g2 z0
            generalize grow (redrawn W1 dq) osq = W2 at *
            go_wp2_with fail
            go_roundw
            case rel => exact ⟨k + 1, by omega, by omega, by go_num, HT.out.step HX.out HR.out HY.out HK.out, D2.out⟩
            case measure => simp [intOf]; omega
        · have hne : (kx != ky) = true := by rw [bne_iff_ne]; exact hkk
          have HK := Lib.hid hkk
          clear hkk
          go_wp2_with fail
          generalize wr.alloc (.cells #[.int .i64 kx, .int .i64 nx, .string sx] 25) = W1 at *
          obtain ⟨g0, g1, g2⟩ := hbx.grown
          have z0 : ∀ d os, (grow (redrawn W1 d) os).cell? ⟨b, o, none⟩ = some (.int .i64 ky) := fun d os => cell_regrown y0' d os
          refine wp_region_quiet_below (by kernel_rfl) (by kernel_rfl) ?_
          repeat (go_big_quiet_step ((go_at_call 57; exact QR.out _ _ _)))
          refine wpQuiet_nil ?_
          intro _ hw'
          obtain ⟨⟨dq, osq⟩, hw''⟩ := hw'
          subst hw''
          have D2 := Lib.hid (below_step D1.out (below_regrown W1 dq osq))
          clear g0 g1 g2 z0
          generalize grow (redrawn W1 dq) osq = W2 at *
          go_wp2_with fail
          go_ret
          exact ⟨ret_bool (bag_bad HX.out HY.out (.inr HK.out)).symm, D2.out⟩
      · have HR : Hid (¬ Vl.right ⟨kx, nx, sx⟩) := hr
        rw [decide_eq_false hr] at qr
        have QR := Lib.hid qr
        clear qr hr
        go_wp2_with fail
        generalize wr.alloc (.cells #[.int .i64 kx, .int .i64 nx, .string sx] 25) = W1 at *
        obtain ⟨g0, g1, g2⟩ := hbx.grown
        have z0 : ∀ d os, (grow (redrawn W1 d) os).cell? ⟨b, o, none⟩ = some (.int .i64 ky) := fun d os => cell_regrown y0' d os
        refine wp_region_quiet_below (by kernel_rfl) (by kernel_rfl) ?_
        repeat (go_big_quiet_step ((go_at_call 57; exact QR.out _ _ _)))
        refine wpQuiet_nil ?_
        intro _ hw'
        obtain ⟨⟨dq, osq⟩, hw''⟩ := hw'
        subst hw''
        have D2 := Lib.hid (below_step D1.out (below_regrown W1 dq osq))
        clear g0 g1 g2 z0
        generalize grow (redrawn W1 dq) osq = W2 at *
        go_wp2_with fail
        go_ret
        exact ⟨ret_bool (bag_bad HX.out HY.out (.inl HR.out)).symm, D2.out⟩
    · obtain rfl : k = n := by omega
      clear ht hb
      go_wp2_with fail
      go_ret
      exact ⟨ret_bool ((HT.out.all HL.out).trans (decide_eq_true (by omega))).symm, HB.out⟩

end Go.Proofs.Ytjpkemamfccfdaa
/- Requests, plainly (chapter 11): what is given, where it stands, which are right, and with one more. -/
namespace Go.Proofs.Ytjpkemamfccfdaa
set_option linter.unusedVariables false

structure Giv where
  cat : Int
  name : ByteArray
  bag : List Vl
instance : Inhabited Giv := ⟨⟨0, ByteArray.empty, []⟩⟩
def Giv.ok (g : Giv) : Prop := InI g.cat ∧ g.name.size ≤ maxLen
/-- Is it that one? -/
def isG (c : Int) (s : ByteArray) (g : Giv) : Bool := decide (g.cat = c) && decide (g.name = s)
def idxA (l : List Giv) (c : Int) (s : ByteArray) : Nat := l.findIdx (isG c s)
def placeI (l : List Giv) (c : Int) (s : ByteArray) : Int := if idxA l c s < l.length then (idxA l c s : Int) else -1
def bagA (l : List Giv) (c : Int) (s : ByteArray) : List Vl := ((l[idxA l c s]?).map Giv.bag).getD []
/-- P11.2: what is there, and the error. -/
def getB (l : List Giv) (a : Atr) : List Vl := bagA l a.cat a.name
def getE (l : List Giv) (a : Atr) : Int := if a.must = true ∧ getB l a = [] then 4 else 0
def getR (l : List Giv) (a : Atr) : List Vl := if getE l a = 0 then getB l a else []
/-- P11.1. -/
def wrongA (ahead : List Giv) (g : Giv) : Int := if attrB ⟨g.cat, g.name, false⟩ = true ∧ bagB g.bag = true then (if idxA ahead g.cat g.name < ahead.length then 11 else 0) else 1
def rightL : List Giv → List Giv → Int
  | _, [] => 0
  | ah, g :: r => if wrongA ah g ≠ 0 then wrongA ah g else rightL (ah ++ [g]) r
def rightA (l : List Giv) : Int := if 64 < l.length then 6 else rightL [] l
/-- P11.3. -/
def withA (l : List Giv) (g : Giv) : List Giv := if idxA l g.cat g.name < l.length then l.set (idxA l g.cat g.name) g else l ++ [g]

theorem isG_iff {c : Int} {s : ByteArray} {g : Giv} : isG c s g = true ↔ g.cat = c ∧ g.name = s := by simp [isG]
theorem isG_self (g : Giv) : isG g.cat g.name g = true := isG_iff.2 ⟨rfl, rfl⟩
theorem idx_at {l : List Giv} {c : Int} {s : ByteArray} {k : Nat} {g : Giv} (hk : l[k]? = some g) (hg : isG c s g = true) (hf : ∀ (j : Nat) (x : Giv), l[j]? = some x → j < k → isG c s x = false) : idxA l c s = k := by
  obtain ⟨h, rfl⟩ := List.getElem?_eq_some_iff.1 hk
  unfold idxA
  rw [List.findIdx_eq h]
  exact ⟨hg, fun j hj => hf j _ (List.getElem?_eq_getElem (by omega)) hj⟩
theorem idx_none {l : List Giv} {c : Int} {s : ByteArray} (hf : ∀ (j : Nat) (x : Giv), l[j]? = some x → isG c s x = false) : idxA l c s = l.length := by
  unfold idxA
  rw [List.findIdx_eq_length]
  intro x hx
  obtain ⟨j, hj, rfl⟩ := List.getElem_of_mem hx
  exact hf j _ (List.getElem?_eq_getElem hj)
theorem place_at {l : List Giv} {c : Int} {s : ByteArray} {k : Nat} {g : Giv} (hk : l[k]? = some g) (hg : isG c s g = true) (hf : ∀ (j : Nat) (x : Giv), l[j]? = some x → j < k → isG c s x = false) : placeI l c s = k := by
  have e := idx_at hk hg hf
  have h := (List.getElem?_eq_some_iff.1 hk).1
  unfold placeI
  rw [e, if_pos h]
theorem place_none {l : List Giv} {c : Int} {s : ByteArray} (hf : ∀ (j : Nat) (x : Giv), l[j]? = some x → isG c s x = false) : placeI l c s = -1 := by
  unfold placeI
  rw [idx_none hf, if_neg (by omega)]
theorem idx_hit {l : List Giv} {c : Int} {s : ByteArray} (h : idxA l c s < l.length) : ∃ g, l[idxA l c s]? = some g ∧ isG c s g = true ∧ bagA l c s = g.bag := by
  refine ⟨l[idxA l c s], List.getElem?_eq_getElem h, List.findIdx_getElem (w := h), ?_⟩
  unfold bagA
  rw [List.getElem?_eq_getElem h]
  rfl
theorem idx_before {l : List Giv} {c : Int} {s : ByteArray} {j : Nat} {x : Giv} (hx : l[j]? = some x) (h : j < idxA l c s) : isG c s x = false := by
  obtain ⟨hj, rfl⟩ := List.getElem?_eq_some_iff.1 hx
  have := List.not_of_lt_findIdx h
  simpa using this
theorem bag_none {l : List Giv} {c : Int} {s : ByteArray} (h : ¬ idxA l c s < l.length) : bagA l c s = [] := by
  unfold bagA
  rw [List.getElem?_eq_none (by omega)]
  rfl
theorem place_pos {l : List Giv} {c : Int} {s : ByteArray} (h : idxA l c s < l.length) : placeI l c s = idxA l c s := if_pos h
theorem place_neg {l : List Giv} {c : Int} {s : ByteArray} (h : ¬ idxA l c s < l.length) : placeI l c s = -1 := if_neg h

theorem rightL_step {l : List Giv} {k : Nat} {g : Giv} (h : l[k]? = some g) : rightL (l.take k) (l.drop k) = if wrongA (l.take k) g ≠ 0 then wrongA (l.take k) g else rightL (l.take (k + 1)) (l.drop (k + 1)) := by
  obtain ⟨hk, rfl⟩ := List.getElem?_eq_some_iff.1 h
  rw [List.drop_eq_getElem_cons hk, rightL, List.take_succ_eq_append_getElem hk]
theorem rightL_end {l : List Giv} {k : Nat} (h : l.length ≤ k) : rightL (l.take k) (l.drop k) = 0 := by
  rw [List.drop_of_length_le h, rightL]
/-- Right, said of each. -/
theorem rightL_iff {l : List Giv} : ∀ {ah : List Giv}, rightL ah l = 0 ↔ ∀ (k : Nat) (g : Giv), l[k]? = some g → wrongA (ah ++ l.take k) g = 0 := by
  induction l with
  | nil => intro ah; simp [rightL]
  | cons x r ih =>
    intro ah
    rw [rightL]
    by_cases h : wrongA ah x = 0
    · rw [if_neg (by simpa using h), ih]
      constructor
      · intro hh k g hg
        cases k with
        | zero => simp at hg; subst hg; simpa using h
        | succ k => have := hh k g (by simpa using hg); simpa using this
      · intro hh k g hg
        have := hh (k + 1) g (by simpa using hg)
        simpa using this
    · rw [if_pos h]
      constructor
      · intro e; exact absurd e h
      · intro hh; exact absurd (by simpa using hh 0 x rfl) h
theorem rightA_iff {l : List Giv} : rightA l = 0 ↔ l.length ≤ 64 ∧ ∀ (k : Nat) (g : Giv), l[k]? = some g → wrongA (l.take k) g = 0 := by
  unfold rightA
  split
  · rename_i h; constructor
    · intro e; cases e
    · intro e; omega
  · rename_i h
    rw [rightL_iff]
    simp only [List.nil_append]
    exact ⟨fun e => ⟨by omega, e⟩, fun e => e.2⟩
theorem wrongA_iff {ah : List Giv} {g : Giv} : wrongA ah g = 0 ↔ attrB ⟨g.cat, g.name, false⟩ = true ∧ bagB g.bag = true ∧ ∀ (j : Nat) (x : Giv), ah[j]? = some x → isG g.cat g.name x = false := by
  unfold wrongA
  constructor
  · intro h
    split at h
    · rename_i hab
      split at h
      · cases h
      · rename_i hi
        refine ⟨hab.1, hab.2, fun j x hx => ?_⟩
        have hj := (List.getElem?_eq_some_iff.1 hx).1
        exact idx_before hx (by omega)
    · cases h
  · rintro ⟨h1, h2, h3⟩
    rw [if_pos ⟨h1, h2⟩, if_neg (by rw [idx_none h3]; omega)]
/-- A right request, plainly. -/
theorem right_iff {l : List Giv} : rightA l = 0 ↔ l.length ≤ 64 ∧ (∀ g ∈ l, attrB ⟨g.cat, g.name, false⟩ = true ∧ bagB g.bag = true) ∧ ∀ (j k : Nat) x g, l[j]? = some x → l[k]? = some g → j < k → isG g.cat g.name x = false := by
  rw [rightA_iff]
  constructor
  · rintro ⟨h1, h2⟩
    refine ⟨h1, fun g hg => ?_, fun j k x g hx hg hjk => ?_⟩
    · obtain ⟨k, hk, rfl⟩ := List.getElem_of_mem hg
      obtain ⟨a, b, _⟩ := wrongA_iff.1 (h2 k _ (List.getElem?_eq_getElem hk))
      exact ⟨a, b⟩
    · exact (wrongA_iff.1 (h2 k g hg)).2.2 j x (by rw [List.getElem?_take, if_pos hjk]; exact hx)
  · rintro ⟨h1, h2, h3⟩
    refine ⟨h1, fun k g hg => wrongA_iff.2 ⟨(h2 g (List.mem_of_getElem? hg)).1, (h2 g (List.mem_of_getElem? hg)).2, fun j x hx => ?_⟩⟩
    rw [List.getElem?_take] at hx
    split at hx
    · rename_i hjk; exact h3 j k x g hx hg hjk
    · cases hx
/-- What is given is told. -/
theorem right_get {l : List Giv} (h : rightA l = 0) {k : Nat} {g : Giv} (hg : l[k]? = some g) : bagA l g.cat g.name = g.bag ∧ idxA l g.cat g.name = k := by
  have e := idx_at hg (isG_self g) (fun j x hx hj => (right_iff.1 h).2.2 j k x g hx hg hj)
  refine ⟨?_, e⟩
  unfold bagA
  rw [e, hg]
  rfl
theorem attr_cat {c : Int} {s : ByteArray} (h : attrB ⟨c, s, false⟩ = true) : 1 ≤ c ∧ c ≤ 4 := by
  unfold attrB at h
  simp only [Bool.and_eq_true, decide_eq_true_eq] at h
  omega
theorem right_nine {l : List Giv} (h : rightA l = 0) (s : ByteArray) : bagA l 9 s = [] := by
  refine bag_none ?_
  rw [idx_none ?_]
  · omega
  · intro j x hx
    have := attr_cat ((right_iff.1 h).2.1 x (List.mem_of_getElem? hx)).1
    rw [← Bool.not_eq_true]
    intro e
    have := (isG_iff.1 e).1
    omega
theorem rightL_app {g : Giv} : ∀ {r ah : List Giv}, rightL ah r = 0 → rightL ah (r ++ [g]) = wrongA (ah ++ r) g
  | [], ah, _ => by
    simp only [List.nil_append, rightL, List.append_nil]
    split
    · rfl
    · rename_i e; simp at e; exact e.symm
  | x :: r, ah, h => by
    rw [rightL] at h
    by_cases hw : wrongA ah x = 0
    · rw [if_neg (by simpa using hw)] at h
      rw [List.cons_append, rightL, if_neg (by simpa using hw), rightL_app h]
      simp
    · rw [if_pos hw] at h; exact absurd h hw
/-- Given twice it isn't right. -/
theorem right_twice {l : List Giv} (h : rightA l = 0) {k : Nat} {g : Giv} (hg : l[k]? = some g) : rightA (l ++ [g]) = if l.length = 64 then 6 else 11 := by
  have h1 := right_iff.1 h
  have hab := h1.2.1 g (List.mem_of_getElem? hg)
  have hk := (List.getElem?_eq_some_iff.1 hg).1
  unfold rightA
  rw [List.length_append, List.length_singleton]
  by_cases h64 : l.length = 64
  · rw [if_pos (by omega), if_pos h64]
  · rw [if_neg (by have := h1.1; omega), if_neg h64]
    have hr : rightL [] l = 0 := by
      unfold rightA at h
      rwa [if_neg (by have := h1.1; omega)] at h
    rw [rightL_app hr, List.nil_append]
    unfold wrongA
    rw [if_pos hab, (right_get h hg).2, if_pos hk]
/-- With one more, or another one. -/
theorem with_at {l : List Giv} {g : Giv} : ∃ k : Nat, (withA l g)[k]? = some g ∧ ∀ (j : Nat) (x : Giv), (withA l g)[j]? = some x → j < k → isG g.cat g.name x = false := by
  unfold withA
  by_cases h : idxA l g.cat g.name < l.length
  · rw [if_pos h]
    refine ⟨idxA l g.cat g.name, by simp [h], fun j x hx hj => ?_⟩
    rw [List.getElem?_set_ne (by omega)] at hx
    exact idx_before hx hj
  · rw [if_neg h]
    refine ⟨l.length, by simp, fun j x hx hj => ?_⟩
    rw [List.getElem?_append_left hj] at hx
    exact idx_before hx (by omega)
theorem with_idx {l : List Giv} {g : Giv} : idxA (withA l g) g.cat g.name < (withA l g).length ∧ bagA (withA l g) g.cat g.name = g.bag ∧ (withA l g)[idxA (withA l g) g.cat g.name]? = some g := by
  obtain ⟨k, hk, hf⟩ := @with_at l g
  have e := idx_at hk (isG_self g) hf
  have hlt := (List.getElem?_eq_some_iff.1 hk).1
  refine ⟨by rw [e]; exact hlt, ?_, by rw [e]; exact hk⟩
  unfold bagA
  rw [e, hk]
  rfl
theorem withA_pos {l : List Giv} {g : Giv} (h : idxA l g.cat g.name < l.length) : withA l g = l.set (idxA l g.cat g.name) g := if_pos h
theorem with_twice {l : List Giv} {g : Giv} : withA (withA l g) g = withA l g := by
  obtain ⟨h1, _, h3⟩ := @with_idx l g
  have e : ∀ m : List Giv, m = withA l g → withA m g = m := by
    rintro m rfl
    rw [withA_pos h1]
    apply List.ext_getElem?
    intro j
    by_cases hj : j = idxA (withA l g) g.cat g.name
    · subst hj; rw [List.getElem?_set_self h1, h3]
    · rw [List.getElem?_set_ne (fun e => hj e.symm)]
  exact e _ rfl
theorem with_len {l : List Giv} {g : Giv} : (withA l g).length ≤ l.length + 1 := by
  unfold withA
  split <;> simp
theorem with_mem {l : List Giv} {g x : Giv} (h : x ∈ withA l g) : x = g ∨ x ∈ l := by
  unfold withA at h
  split at h
  · exact (List.mem_or_eq_of_mem_set h).symm
  · simpa [or_comm] using h
theorem isG_ne {c c' : Int} {s s' : ByteArray} (h : ¬ (c = c' ∧ s = s')) {g : Giv} (hg : isG c s g = true) : isG c' s' g = false := by
  rw [← Bool.not_eq_true]
  intro e
  obtain ⟨a1, a2⟩ := isG_iff.1 hg
  obtain ⟨b1, b2⟩ := isG_iff.1 e
  exact h ⟨a1.symm.trans b1, a2.symm.trans b2⟩
/-- All else is as it was. -/
theorem with_other {l : List Giv} {g : Giv} {c : Int} {s : ByteArray} (h : ¬ (c = g.cat ∧ s = g.name)) : bagA (withA l g) c s = bagA l c s := by
  have hg : isG c s g = false := by
    rw [← Bool.not_eq_true]
    intro e
    obtain ⟨a, b⟩ := isG_iff.1 e
    exact h ⟨a.symm, b.symm⟩
  by_cases hc : idxA l c s < l.length
  · obtain ⟨x, hx, hxg, hb⟩ := idx_hit hc
    have hk : (withA l g)[idxA l c s]? = some x ∧ ∀ (j : Nat) (y : Giv), (withA l g)[j]? = some y → j < idxA l c s → isG c s y = false := by
      unfold withA
      by_cases hi : idxA l g.cat g.name < l.length
      · rw [if_pos hi]
        have hne : idxA l g.cat g.name ≠ idxA l c s := by
          intro e
          obtain ⟨y, hy, hyg, _⟩ := idx_hit hi
          rw [e, hx] at hy
          injection hy with hy
          subst hy
          rw [isG_ne h hxg] at hyg
          cases hyg
        refine ⟨by rw [List.getElem?_set_ne hne]; exact hx, fun j y hy hj => ?_⟩
        by_cases hj2 : idxA l g.cat g.name = j
        · subst hj2
          rw [List.getElem?_set_self hi] at hy
          injection hy with hy
          subst hy
          exact hg
        · rw [List.getElem?_set_ne hj2] at hy
          exact idx_before hy hj
      · rw [if_neg hi]
        refine ⟨by rw [List.getElem?_append_left hc]; exact hx, fun j y hy hj => ?_⟩
        rw [List.getElem?_append_left (by omega)] at hy
        exact idx_before hy hj
    have e := idx_at hk.1 hxg hk.2
    rw [hb]
    unfold bagA
    rw [e, hk.1]
    rfl
  · rw [bag_none hc]
    refine bag_none ?_
    have hl : idxA l c s = l.length := by
      have := List.findIdx_le_length (p := isG c s) (xs := l)
      unfold idxA at hc ⊢
      omega
    rw [idx_none]
    · omega
    · intro j y hy
      rcases with_mem (List.mem_of_getElem? hy) with rfl | hm
      · exact hg
      · obtain ⟨i, hi, rfl⟩ := List.getElem_of_mem hm
        exact idx_before (List.getElem?_eq_getElem hi) (by omega)
/-- A right one stays right. -/
theorem with_right {l : List Giv} {g : Giv} (h : rightA l = 0) (hg : attrB ⟨g.cat, g.name, false⟩ = true ∧ bagB g.bag = true) (hl : l.length < 64) : rightA (withA l g) = 0 := by
  obtain ⟨h1, h2, h3⟩ := right_iff.1 h
  refine right_iff.2 ⟨by have := @with_len l g; omega, fun x hx => ?_, fun j k x y hx hy hjk => ?_⟩
  · rcases with_mem hx with rfl | hx
    · exact hg
    · exact h2 x hx
  · unfold withA at hx hy
    by_cases hi : idxA l g.cat g.name < l.length
    · rw [if_pos hi] at hx hy
      obtain ⟨z, hz, hzg, _⟩ := idx_hit hi
      obtain ⟨z1, z2⟩ := isG_iff.1 hzg
      by_cases hj : idxA l g.cat g.name = j
      · rw [hj, List.getElem?_set_self (by omega)] at hx
        injection hx with hx
        subst hx
        rw [List.getElem?_set_ne (by omega)] at hy
        have := h3 _ k z y hz hy (by omega)
        unfold isG at this ⊢
        rw [← z1, ← z2]
        exact this
      · rw [List.getElem?_set_ne hj] at hx
        by_cases hk : idxA l g.cat g.name = k
        · rw [hk, List.getElem?_set_self (by omega)] at hy
          injection hy with hy
          subst hy
          exact idx_before hx (by omega)
        · rw [List.getElem?_set_ne hk] at hy
          exact h3 j k x y hx hy hjk
    · rw [if_neg hi] at hx hy
      have hlen : (l ++ [g]).length = l.length + 1 := by simp
      have hk := (List.getElem?_eq_some_iff.1 hy).1
      by_cases hkl : k < l.length
      · rw [List.getElem?_append_left hkl] at hy
        rw [List.getElem?_append_left (by omega)] at hx
        exact h3 j k x y hx hy hjk
      · obtain rfl : k = l.length := by omega
        rw [List.getElem?_append_left (by omega)] at hx
        simp at hy
        subst hy
        exact idx_before hx (by omega)
end Go.Proofs.Ytjpkemamfccfdaa
/- Policies in memory: rows of structs, of lists, of policies. -/
namespace Go.Proofs.Ytjpkemamfccfdaa
set_option linter.unusedVariables false
open Go.RowKit

/-- The slice 'A n c' reads as a row of so many cells each, which say l; they lie in blocks that R lets in. -/
def Rw {α : Type} (k : Nat) (P : List Value → α → Prop) (w : World) (R : Nat → Prop) (A : Option Addr) (n c : Nat) (l : List α) : Prop :=
  l.length = n ∧ n ≤ c ∧ (c ≤ maxLen ∧ n ≤ 140737488351232) ∧ (n = 0 ∨ ∃ b o, A = some ⟨b, o, none⟩ ∧ R b ∧ b < w.heap.size ∧ ∀ j x, l[j]? = some x → ∃ vs : List Value, vs.length = k ∧ (∀ i v, vs[i]? = some v → w.cell? ⟨b, o + j * k + i, none⟩ = some v) ∧ P vs x)

/-- What lies in R is kept. -/
def Kept (R : Nat → Prop) (w w' : World) : Prop := w.heap.size ≤ w'.heap.size ∧ ∀ b, R b → b < w.heap.size → w'.heap[b]? = w.heap[b]?
theorem Kept.refl (R : Nat → Prop) (w : World) : Kept R w w := ⟨Nat.le_refl _, fun _ _ _ => rfl⟩
theorem Kept.below {w w' : World} {B : Nat} (h : Below B w w') {R : Nat → Prop} (hR : ∀ b, R b → b < w.heap.size → b < B) : Kept R w w' := ⟨h.size, fun b hb hlt => h.block b (hR b hb hlt)⟩
theorem Kept.all {w w' : World} (h : Below w.heap.size w w') (R : Nat → Prop) : Kept R w w' := Kept.below h fun _ _ h => h
theorem Kept.trans {R : Nat → Prop} {a b c : World} (h1 : Kept R a b) (h2 : Kept R b c) : Kept R a c :=
  ⟨Nat.le_trans h1.1 h2.1, fun k hk hl => (h2.2 k hk (Nat.lt_of_lt_of_le hl h1.1)).trans (h1.2 k hk hl)⟩

section
variable {α : Type} {k : Nat} {P P' : List Value → α → Prop} {w w' : World} {R R' : Nat → Prop} {A : Option Addr} {n c : Nat} {l : List α}
theorem Rw.len (h : Rw k P w R A n c l) : l.length = n := h.1
theorem Rw.le (h : Rw k P w R A n c l) : n ≤ c := h.2.1
theorem Rw.cap (h : Rw k P w R A n c l) : c ≤ maxLen := h.2.2.1.1
theorem Rw.big (h : Rw k P w R A n c l) : n ≤ 140737488351232 := h.2.2.1.2
theorem Rw.nil_ (k : Nat) (P : List Value → α → Prop) (w : World) (R : Nat → Prop) : Rw k P w R none 0 0 [] := ⟨rfl, Nat.le_refl _, ⟨by simp [maxLen], by omega⟩, .inl rfl⟩
theorem Rw.keep (h : Rw k P w R A n c l) (hk : Kept R w w') (hR : ∀ b, R b → b < w.heap.size → R' b) (hP : ∀ vs x, x ∈ l → P vs x → P' vs x) : Rw k P' w' R' A n c l := by
  obtain ⟨h1, h2, h3, h4⟩ := h
  refine ⟨h1, h2, h3, ?_⟩
  rcases h4 with h4 | ⟨b, o, e, hb, hlt, hc⟩
  · exact .inl h4
  · refine .inr ⟨b, o, e, hR b hb hlt, Nat.lt_of_lt_of_le hlt hk.1, fun j x hx => ?_⟩
    obtain ⟨vs, hl, hv, hp⟩ := hc j x hx
    exact ⟨vs, hl, fun i v hi => (World.cell?_of_block (hk.2 b hb hlt)).trans (hv i v hi), hP vs x (List.mem_of_getElem? hx) hp⟩
theorem Rw.at_ (h : Rw k P w R A n c l) {j : Nat} (hj : j < n) : ∃ b o x vs, A = some ⟨b, o, none⟩ ∧ R b ∧ b < w.heap.size ∧ l[j]? = some x ∧ vs.length = k ∧ (∀ i v, vs[i]? = some v → w.cell? ⟨b, o + j * k + i, none⟩ = some v) ∧ P vs x := by
  obtain ⟨h1, h2, h3, h4⟩ := h
  rcases h4 with h4 | ⟨b, o, e, hb, hlt, hc⟩
  · omega
  · have hl : j < l.length := by omega
    obtain ⟨vs, a1, a2, a3⟩ := hc j l[j] (List.getElem?_eq_getElem hl)
    exact ⟨b, o, l[j], vs, e, hb, hlt, List.getElem?_eq_getElem hl, a1, a2, a3⟩
theorem Rw.take (h : Rw k P w R A n c l) {m : Nat} (hm : m ≤ n) : Rw k P w R A m c (l.take m) := by
  obtain ⟨h1, h2, h3, h4⟩ := h
  refine ⟨by rw [List.length_take]; omega, by omega, ⟨h3.1, by have := h3.2; omega⟩, ?_⟩
  rcases h4 with h4 | ⟨b, o, e, hb, hlt, hc⟩
  · left; omega
  · refine .inr ⟨b, o, e, hb, hlt, fun j x hx => hc j x ?_⟩
    rw [List.getElem?_take] at hx
    split at hx
    · exact hx
    · cases hx
end

def Atr.cells (a : Atr) : List Value := [.int .i64 a.cat, .string a.name, .bool a.must]
def Atr.val (a : Atr) : Value := .agg #[.int .i64 a.cat, .string a.name, .bool a.must]
def Mat.cells (m : Mat) : List Value := [.int .i64 m.a.cat, .string m.a.name, .bool m.a.must, .int .i64 m.op, .int .i64 m.v.k, .int .i64 m.v.n, .string m.v.s]
def Mat.val (m : Mat) : Value := .agg #[.int .i64 m.a.cat, .string m.a.name, .bool m.a.must, .int .i64 m.op, .int .i64 m.v.k, .int .i64 m.v.n, .string m.v.s]
def Nod.cells (m : Nod) : List Value := [.int .i64 m.op, .int .i64 m.v.k, .int .i64 m.v.n, .string m.v.s, .int .i64 m.a.cat, .string m.a.name, .bool m.a.must]
def Nod.val (m : Nod) : Value := .agg #[.int .i64 m.op, .int .i64 m.v.k, .int .i64 m.v.n, .string m.v.s, .int .i64 m.a.cat, .string m.a.name, .bool m.a.must]
def Dut.cells (m : Dut) : List Value := [.int .i64 m.on, .int .i64 m.kind, .string m.arg]
def Dut.val (m : Dut) : Value := .agg #[.int .i64 m.on, .int .i64 m.kind, .string m.arg]

/-- A row of matches, of AllOfs, of AnyOfs; of nodes; of duties. -/
def Ms (w : World) (R : Nat → Prop) := Rw 7 (fun vs (m : Mat) => vs = m.cells ∧ m.ok) w R
def Als (w : World) (R : Nat → Prop) := Rw 1 (fun vs (l : List Mat) => ∃ A n c, vs = [.slice A n c] ∧ Ms w R A n c l) w R
def Tg (w : World) (R : Nat → Prop) := Rw 1 (fun vs (l : List (List Mat)) => ∃ A n c, vs = [.slice A n c] ∧ Als w R A n c l) w R
def Nds (w : World) (R : Nat → Prop) := Rw 7 (fun vs (m : Nod) => vs = m.cells ∧ m.ok) w R
def Dus (w : World) (R : Nat → Prop) := Rw 3 (fun vs (m : Dut) => vs = m.cells ∧ m.ok) w R
/-- A rule's cells. -/
def RulAt (w : World) (R : Nat → Prop) (vs : List Value) (r : Rul) : Prop :=
  ∃ A1 n1 c1 A2 n2 c2 A3 n3 c3, vs = [.string r.id, .bool r.deny, .slice A1 n1 c1, .slice A2 n2 c2, .slice A3 n3 c3] ∧ r.id.size ≤ maxLen ∧ Tg w R A1 n1 c1 r.tg ∧ Nds w R A2 n2 c2 r.cond ∧ Dus w R A3 n3 c3 r.ob
def Rus (w : World) (R : Nat → Prop) := Rw 5 (RulAt w R) w R
/-- A policy's cells, of no more than so many depths. -/
def PolAt (w : World) (R : Nat → Prop) : Nat → List Value → Pol → Prop
  | 0, _, _ => False
  | d + 1, vs, p => ∃ A1 n1 c1 A2 n2 c2 A3 n3 c3 A4 n4 c4, vs = [.string p.id, .bool p.set, .int .i64 p.alg, .slice A1 n1 c1, .slice A2 n2 c2, .slice A3 n3 c3, .slice A4 n4 c4] ∧ p.id.size ≤ maxLen ∧ InI p.alg ∧
      Tg w R A1 n1 c1 p.tg ∧ Rus w R A2 n2 c2 p.rules ∧ Rw 7 (PolAt w R d) w R A3 n3 c3 p.kids ∧ Dus w R A4 n4 c4 p.ob
def Pls (w : World) (R : Nat → Prop) (d : Nat) := Rw 7 (PolAt w R d) w R

section
variable {w w' : World} {R R' : Nat → Prop} {A : Option Addr} {n c : Nat}
theorem Ms.keep {l : List Mat} (h : Ms w R A n c l) (hk : Kept R w w') (hR : ∀ b, R b → b < w.heap.size → R' b) : Ms w' R' A n c l := Rw.keep h hk hR fun _ _ _ h => h
theorem Nds.keep {l : List Nod} (h : Nds w R A n c l) (hk : Kept R w w') (hR : ∀ b, R b → b < w.heap.size → R' b) : Nds w' R' A n c l := Rw.keep h hk hR fun _ _ _ h => h
theorem Dus.keep {l : List Dut} (h : Dus w R A n c l) (hk : Kept R w w') (hR : ∀ b, R b → b < w.heap.size → R' b) : Dus w' R' A n c l := Rw.keep h hk hR fun _ _ _ h => h
theorem Als.keep {l : List (List Mat)} (h : Als w R A n c l) (hk : Kept R w w') (hR : ∀ b, R b → b < w.heap.size → R' b) : Als w' R' A n c l :=
  Rw.keep h hk hR fun _ _ _ ⟨a, b, c, e, h⟩ => ⟨a, b, c, e, h.keep hk hR⟩
theorem Tg.keep {l : Tgt} (h : Tg w R A n c l) (hk : Kept R w w') (hR : ∀ b, R b → b < w.heap.size → R' b) : Tg w' R' A n c l :=
  Rw.keep h hk hR fun _ _ _ ⟨a, b, c, e, h⟩ => ⟨a, b, c, e, h.keep hk hR⟩
theorem RulAt.keep {vs : List Value} {r : Rul} (h : RulAt w R vs r) (hk : Kept R w w') (hR : ∀ b, R b → b < w.heap.size → R' b) : RulAt w' R' vs r := by
  obtain ⟨A1, n1, c1, A2, n2, c2, A3, n3, c3, e, h0, h1, h2, h3⟩ := h
  exact ⟨A1, n1, c1, A2, n2, c2, A3, n3, c3, e, h0, h1.keep hk hR, h2.keep hk hR, h3.keep hk hR⟩
theorem Rus.keep {l : List Rul} (h : Rus w R A n c l) (hk : Kept R w w') (hR : ∀ b, R b → b < w.heap.size → R' b) : Rus w' R' A n c l := Rw.keep h hk hR fun _ _ _ h => h.keep hk hR
theorem PolAt.keep (hk : Kept R w w') (hR : ∀ b, R b → b < w.heap.size → R' b) : ∀ {d : Nat} {vs : List Value} {p : Pol}, PolAt w R d vs p → PolAt w' R' d vs p
  | 0, _, _, h => h
  | d + 1, _, _, ⟨A1, n1, c1, A2, n2, c2, A3, n3, c3, A4, n4, c4, e, h0, h00, h1, h2, h3, h4⟩ =>
    ⟨A1, n1, c1, A2, n2, c2, A3, n3, c3, A4, n4, c4, e, h0, h00, h1.keep hk hR, h2.keep hk hR, Rw.keep h3 hk hR fun _ _ _ h => PolAt.keep hk hR h, h4.keep hk hR⟩
theorem Pls.keep {d : Nat} {l : List Pol} (h : Pls w R d A n c l) (hk : Kept R w w') (hR : ∀ b, R b → b < w.heap.size → R' b) : Pls w' R' d A n c l := Rw.keep h hk hR fun _ _ _ h => PolAt.keep hk hR h
theorem PolAt.more : ∀ {d d' : Nat} {vs : List Value} {p : Pol}, d ≤ d' → PolAt w R d vs p → PolAt w R d' vs p
  | 0, _, _, _, _, h => h.elim
  | d + 1, 0, _, _, hd, _ => by omega
  | d + 1, d' + 1, _, _, hd, ⟨A1, n1, c1, A2, n2, c2, A3, n3, c3, A4, n4, c4, e, h0, h00, h1, h2, h3, h4⟩ =>
    ⟨A1, n1, c1, A2, n2, c2, A3, n3, c3, A4, n4, c4, e, h0, h00, h1, h2, Rw.keep h3 (Kept.refl _ _) (fun _ h _ => h) fun _ _ _ h => PolAt.more (by omega) h, h4⟩

theorem Ms.at_ {l : List Mat} (h : Ms w R A n c l) {j : Nat} (hj : j < n) : ∃ b o m, A = some ⟨b, o, none⟩ ∧ R b ∧ b < w.heap.size ∧ l[j]? = some m ∧ m.ok ∧
    (w.cell? ⟨b, o + j * 7, none⟩ = some (.int .i64 m.a.cat) ∧ w.cell? ⟨b, o + j * 7 + 1, none⟩ = some (.string m.a.name) ∧ w.cell? ⟨b, o + j * 7 + 2, none⟩ = some (.bool m.a.must) ∧ w.cell? ⟨b, o + j * 7 + 3, none⟩ = some (.int .i64 m.op) ∧
      w.cell? ⟨b, o + j * 7 + 4, none⟩ = some (.int .i64 m.v.k) ∧ w.cell? ⟨b, o + j * 7 + 5, none⟩ = some (.int .i64 m.v.n) ∧ w.cell? ⟨b, o + j * 7 + 6, none⟩ = some (.string m.v.s)) := by
  obtain ⟨b, o, m, vs, e, hb, hlt, hm, hl, hv, rfl, hok⟩ := Rw.at_ h hj
  exact ⟨b, o, m, e, hb, hlt, hm, hok, hv 0 _ rfl, hv 1 _ rfl, hv 2 _ rfl, hv 3 _ rfl, hv 4 _ rfl, hv 5 _ rfl, hv 6 _ rfl⟩
theorem Nds.at_ {l : List Nod} (h : Nds w R A n c l) {j : Nat} (hj : j < n) : ∃ b o m, A = some ⟨b, o, none⟩ ∧ R b ∧ b < w.heap.size ∧ l[j]? = some m ∧ m.ok ∧
    (w.cell? ⟨b, o + j * 7, none⟩ = some (.int .i64 m.op) ∧ w.cell? ⟨b, o + j * 7 + 1, none⟩ = some (.int .i64 m.v.k) ∧ w.cell? ⟨b, o + j * 7 + 2, none⟩ = some (.int .i64 m.v.n) ∧ w.cell? ⟨b, o + j * 7 + 3, none⟩ = some (.string m.v.s) ∧
      w.cell? ⟨b, o + j * 7 + 4, none⟩ = some (.int .i64 m.a.cat) ∧ w.cell? ⟨b, o + j * 7 + 5, none⟩ = some (.string m.a.name) ∧ w.cell? ⟨b, o + j * 7 + 6, none⟩ = some (.bool m.a.must)) := by
  obtain ⟨b, o, m, vs, e, hb, hlt, hm, hl, hv, rfl, hok⟩ := Rw.at_ h hj
  exact ⟨b, o, m, e, hb, hlt, hm, hok, hv 0 _ rfl, hv 1 _ rfl, hv 2 _ rfl, hv 3 _ rfl, hv 4 _ rfl, hv 5 _ rfl, hv 6 _ rfl⟩
theorem Dus.at_ {l : List Dut} (h : Dus w R A n c l) {j : Nat} (hj : j < n) : ∃ b o m, A = some ⟨b, o, none⟩ ∧ R b ∧ b < w.heap.size ∧ l[j]? = some m ∧ m.ok ∧
    (w.cell? ⟨b, o + j * 3, none⟩ = some (.int .i64 m.on) ∧ w.cell? ⟨b, o + j * 3 + 1, none⟩ = some (.int .i64 m.kind) ∧ w.cell? ⟨b, o + j * 3 + 2, none⟩ = some (.string m.arg)) := by
  obtain ⟨b, o, m, vs, e, hb, hlt, hm, hl, hv, rfl, hok⟩ := Rw.at_ h hj
  exact ⟨b, o, m, e, hb, hlt, hm, hok, hv 0 _ rfl, hv 1 _ rfl, hv 2 _ rfl⟩
theorem Als.at_ {l : List (List Mat)} (h : Als w R A n c l) {j : Nat} (hj : j < n) : ∃ b o x A' n' c', A = some ⟨b, o, none⟩ ∧ R b ∧ b < w.heap.size ∧ l[j]? = some x ∧ w.cell? ⟨b, o + j, none⟩ = some (.slice A' n' c') ∧ Ms w R A' n' c' x := by
  obtain ⟨b, o, x, vs, e, hb, hlt, hm, hl, hv, A', n', c', rfl, h'⟩ := Rw.at_ h hj
  have := hv 0 _ rfl
  rw [Nat.mul_one] at this
  exact ⟨b, o, x, A', n', c', e, hb, hlt, hm, this, h'⟩
theorem Tg.at_ {l : Tgt} (h : Tg w R A n c l) {j : Nat} (hj : j < n) : ∃ b o x A' n' c', A = some ⟨b, o, none⟩ ∧ R b ∧ b < w.heap.size ∧ l[j]? = some x ∧ w.cell? ⟨b, o + j, none⟩ = some (.slice A' n' c') ∧ Als w R A' n' c' x := by
  obtain ⟨b, o, x, vs, e, hb, hlt, hm, hl, hv, A', n', c', rfl, h'⟩ := Rw.at_ h hj
  have := hv 0 _ rfl
  rw [Nat.mul_one] at this
  exact ⟨b, o, x, A', n', c', e, hb, hlt, hm, this, h'⟩
theorem Rus.at_ {l : List Rul} (h : Rus w R A n c l) {j : Nat} (hj : j < n) : ∃ b o r A1 n1 c1 A2 n2 c2 A3 n3 c3, A = some ⟨b, o, none⟩ ∧ R b ∧ b < w.heap.size ∧ l[j]? = some r ∧ r.id.size ≤ maxLen ∧
    (w.cell? ⟨b, o + j * 5, none⟩ = some (.string r.id) ∧ w.cell? ⟨b, o + j * 5 + 1, none⟩ = some (.bool r.deny) ∧ w.cell? ⟨b, o + j * 5 + 2, none⟩ = some (.slice A1 n1 c1) ∧ w.cell? ⟨b, o + j * 5 + 3, none⟩ = some (.slice A2 n2 c2) ∧ w.cell? ⟨b, o + j * 5 + 4, none⟩ = some (.slice A3 n3 c3)) ∧
    Tg w R A1 n1 c1 r.tg ∧ Nds w R A2 n2 c2 r.cond ∧ Dus w R A3 n3 c3 r.ob := by
  obtain ⟨b, o, r, vs, e, hb, hlt, hm, hl, hv, A1, n1, c1, A2, n2, c2, A3, n3, c3, rfl, h0, h1, h2, h3⟩ := Rw.at_ h hj
  exact ⟨b, o, r, A1, n1, c1, A2, n2, c2, A3, n3, c3, e, hb, hlt, hm, h0, ⟨hv 0 _ rfl, hv 1 _ rfl, hv 2 _ rfl, hv 3 _ rfl, hv 4 _ rfl⟩, h1, h2, h3⟩
theorem Pls.at_ {d : Nat} {l : List Pol} (h : Pls w R d A n c l) {j : Nat} (hj : j < n) : ∃ b o p d' A1 n1 c1 A2 n2 c2 A3 n3 c3 A4 n4 c4, A = some ⟨b, o, none⟩ ∧ R b ∧ b < w.heap.size ∧ l[j]? = some p ∧ d = d' + 1 ∧ (p.id.size ≤ maxLen ∧ InI p.alg) ∧
    (w.cell? ⟨b, o + j * 7, none⟩ = some (.string p.id) ∧ w.cell? ⟨b, o + j * 7 + 1, none⟩ = some (.bool p.set) ∧ w.cell? ⟨b, o + j * 7 + 2, none⟩ = some (.int .i64 p.alg) ∧ w.cell? ⟨b, o + j * 7 + 3, none⟩ = some (.slice A1 n1 c1) ∧
      w.cell? ⟨b, o + j * 7 + 4, none⟩ = some (.slice A2 n2 c2) ∧ w.cell? ⟨b, o + j * 7 + 5, none⟩ = some (.slice A3 n3 c3) ∧ w.cell? ⟨b, o + j * 7 + 6, none⟩ = some (.slice A4 n4 c4)) ∧
    Tg w R A1 n1 c1 p.tg ∧ Rus w R A2 n2 c2 p.rules ∧ Pls w R d' A3 n3 c3 p.kids ∧ Dus w R A4 n4 c4 p.ob := by
  obtain ⟨b, o, p, vs, e, hb, hlt, hm, hl, hv, hp⟩ := Rw.at_ h hj
  match d, hp with
  | d' + 1, ⟨A1, n1, c1, A2, n2, c2, A3, n3, c3, A4, n4, c4, hvs, h0, h00, h1, h2, h3, h4⟩ =>
    subst hvs
    exact ⟨b, o, p, d', A1, n1, c1, A2, n2, c2, A3, n3, c3, A4, n4, c4, e, hb, hlt, hm, rfl, ⟨h0, h00⟩, ⟨hv 0 _ rfl, hv 1 _ rfl, hv 2 _ rfl, hv 3 _ rfl, hv 4 _ rfl, hv 5 _ rfl, hv 6 _ rfl⟩, h1, h2, h3, h4⟩
end
end Go.Proofs.Ytjpkemamfccfdaa
/- What a policy's smallest parts must be: attributes, matches, duties, counts (the project's). -/
namespace Go.Proofs.Ytjpkemamfccfdaa
set_option linter.unusedVariables false
open Go.RowKit

set_option maxHeartbeats 800000 in
theorem attr_any (a : Atr) (hok : a.ok) (w : World) :
    Calls Try.prog 58 #[.agg #[.int .i64 a.cat, .string a.name, .bool a.must]] w fun e w' => e = .returned (.bool (attrB a)) ∧ Below w.heap.size w w' := by
  obtain ⟨k, s, m⟩ := a
  obtain ⟨hk, hs⟩ := hok
  simp only at hk hs ⊢
  have hname := name_any s hs
  have HN := Lib.hid hname
  have HE : Hid (attrB ⟨k, s, m⟩ = (decide (1 ≤ k) && decide (k ≤ 4) && decide (Named s.data.toList))) := rfl
  clear hname hk
  unfold maxLen at hs
  generalize attrB ⟨k, s, m⟩ = r at *
  go_enter Try.func58, Try.ntmps58
  go_wp2_with (go_at_call 73; refine (HN.out _).mono ?_; rintro e w1 ⟨rfl, rfl⟩)
  all_goals
    go_ret
    refine ⟨ret_bool ?_, (Below.refl _ _).alloc (Nat.le_refl _) _⟩
    rw [HE.out]
    simp [*] <;> (intros; omega)

end Go.Proofs.Ytjpkemamfccfdaa
/- strings.CutSuffix, over the texts of bags and values that an expression's nodes leave. -/
namespace Go.Proofs.Ytjpkemamfccfdaa
set_option linter.unusedVariables false
open Go.RowKit

/-- What is left ahead, as the project writes it: the last one at its end. -/
def ch (b : Bool) : UInt8 := if b = true then 98 else 118
def lf (st : List Bool) : ByteArray := ⟨(st.reverse.map ch).toArray⟩
theorem lf_bl (st : List Bool) : bl (lf st) = st.reverse.map ch := by simp [bl, lf]
theorem lf_size (st : List Bool) : (lf st).size = st.length := by show (st.reverse.map ch).toArray.size = _; simp
theorem ch_inj {a b : Bool} (h : ch a = ch b) : a = b := by cases a <;> cases b <;> simp_all [ch]
theorem map_ch_inj : ∀ {a b : List Bool}, a.map ch = b.map ch → a = b
  | [], [], _ => rfl
  | [], _ :: _, h => by simp at h
  | _ :: _, [], h => by simp at h
  | x :: a, y :: b, h => by
    simp only [List.map_cons, List.cons.injEq] at h
    rw [ch_inj h.1, map_ch_inj h.2]
theorem lf_inj {a b : List Bool} (h : lf a = lf b) : a = b := by
  have := congrArg bl h
  rw [lf_bl, lf_bl] at this
  have := map_ch_inj this
  simpa using congrArg List.reverse this
theorem bl_extract (s : ByteArray) (i j : Nat) : bl (s.extract i j) = ((bl s).drop i).take (j - i) := by
  show (s.extract i j).data.toList = (s.data.toList.drop i).take (j - i)
  rw [ByteArray.data_extract]
  simp [List.extract_eq_take_drop]
theorem lf_tail (st : List Bool) (m : Nat) (h : m ≤ st.length) : (lf st).extract (st.length - m) st.length = lf (st.take m) := by
  apply text_eq
  rw [bl_extract, lf_bl, lf_bl, ← List.map_drop, ← List.map_take, List.drop_reverse]
  congr 1
  rw [List.take_of_length_le (by simp)]
  congr 2
  omega
theorem lf_head (st : List Bool) (m : Nat) (h : m ≤ st.length) : (lf st).extract 0 (st.length - m) = lf (st.drop m) := by
  apply text_eq
  rw [bl_extract, lf_bl, lf_bl, List.drop_zero, Nat.sub_zero, ← List.map_take, List.take_reverse]
  congr 3
  omega
theorem lf_push (st : List Bool) (b : Bool) : lf st ++ lf [b] = lf (b :: st) := by
  apply text_eq
  show (lf st ++ lf [b]).data.toList = _
  rw [ByteArray.data_append]
  simp [lf, bl]
theorem lf_nil : lf [] = ⟨#[]⟩ := rfl

theorem hasP_eq {p st : List Bool} (h : p.length ≤ st.length) : ((lf st).extract (st.length - p.length) st.length = lf p) = (hasP p st = true) := by
  rw [lf_tail st _ h]
  unfold hasP
  rw [decide_eq_true_eq, eq_iff_iff]
  exact ⟨fun e => lf_inj e, fun e => by rw [e]⟩
theorem hasP_short {p st : List Bool} (h : ¬ p.length ≤ st.length) : hasP p st = false := by
  unfold hasP
  rw [decide_eq_false_iff_not]
  intro e
  have := congrArg List.length e
  rw [List.length_take] at this
  omega

end Go.Proofs.Ytjpkemamfccfdaa
/- Attributes, nodes, matches, duties held against each other by ==. -/
namespace Go.Proofs.Ytjpkemamfccfdaa
set_option linter.unusedVariables false
open Go.RowKit

theorem text_same (s s' : ByteArray) : (s.toList = s'.toList) = (s = s') := propext ⟨fun c => text_eq (by show s.data.toList = s'.data.toList; rw [← ByteArray.toList_eq, ← ByteArray.toList_eq]; exact c), fun h => by rw [h]⟩

theorem vl_ext {a b : Vl} (h1 : a.k = b.k) (h2 : a.n = b.n) (h3 : a.s = b.s) : a = b := by cases a; cases b; simp_all
theorem attr_eq (k k' : Int) (s s' : ByteArray) (m m' : Bool) (w : World) :
    (Op.equalIn 10000 23 (.agg #[.int .i64 k, .string s, .bool m]) (.agg #[.int .i64 k', .string s', .bool m'])).run Try.prog w = .ok (decide ((⟨k, s, m⟩ : Atr) = ⟨k', s', m'⟩)) w := by
  have u3 := Try.underlying3
  have a3 := Try.isAgg3
  have z3 := Try.sizeOf3
  have u9 := Try.underlying9
  have a9 := Try.isAgg9
  have z9 := Try.sizeOf9
  have u4 := Try.underlying4
  have a4 := Try.isAgg4
  have z4 := Try.sizeOf4
  have hS : Try.prog.underlying 23 = some (.struct (Try.prog.fieldsOf 23)) := by kernel_rfl
  have hp : Try.prog.stoodInHeld 23 = false := by kernel_rfl
  rw [show (10000 : Nat) = 9999 + 1 from rfl, run_equalIn_agg w 9999 23 _ _ hS hp]
  simp only [Program.fieldsOf, Try.underlying23]
  go_simp
  simp only [text_same]
  by_cases h1 : k = k' <;> by_cases h2 : s = s' <;> by_cases h3 : m = m' <;> simp [h1, h2, h3]

set_option maxRecDepth 100000 in
set_option maxHeartbeats 800000 in
theorem nod_eq (a b : Nod) (w : World) : (Op.equalIn 10000 113 (.agg #[.int .i64 a.op, .int .i64 a.v.k, .int .i64 a.v.n, .string a.v.s, .int .i64 a.a.cat, .string a.a.name, .bool a.a.must]) (.agg #[.int .i64 b.op, .int .i64 b.v.k, .int .i64 b.v.n, .string b.v.s, .int .i64 b.a.cat, .string b.a.name, .bool b.a.must])).run Try.prog w = .ok (decide (a = b)) w := by
  have u3 := Try.underlying3
  have a3 := Try.isAgg3
  have z3 := Try.sizeOf3
  have u9 := Try.underlying9
  have a9 := Try.isAgg9
  have z9 := Try.sizeOf9
  have u4 := Try.underlying4
  have a4 := Try.isAgg4
  have z4 := Try.sizeOf4
  have hS : Try.prog.underlying 113 = some (.struct (Try.prog.fieldsOf 113)) := by kernel_rfl
  have hp : Try.prog.stoodInHeld 113 = false := by kernel_rfl
  rw [show (10000 : Nat) = 9999 + 1 from rfl, run_equalIn_agg w 9999 113 _ _ hS hp]
  simp only [Program.fieldsOf, Try.underlying113]
  go_simp
  simp only [text_same]
  repeat' split
  all_goals first
    | (rw [decide_eq_true]; exact Nod.ext' (by assumption) (vl_ext (by assumption) (by assumption) (by assumption)) (Atr.ext' (by assumption) (by assumption) (by assumption)))
    | (rw [decide_eq_false]; rintro rfl; rename_i hne; exact hne rfl)

set_option maxRecDepth 100000 in
set_option maxHeartbeats 800000 in
theorem mat_eq (a b : Mat) (w : World) : (Op.equalIn 10000 28 (.agg #[.int .i64 a.a.cat, .string a.a.name, .bool a.a.must, .int .i64 a.op, .int .i64 a.v.k, .int .i64 a.v.n, .string a.v.s]) (.agg #[.int .i64 b.a.cat, .string b.a.name, .bool b.a.must, .int .i64 b.op, .int .i64 b.v.k, .int .i64 b.v.n, .string b.v.s])).run Try.prog w = .ok (decide (a = b)) w := by
  have u3 := Try.underlying3
  have a3 := Try.isAgg3
  have z3 := Try.sizeOf3
  have u9 := Try.underlying9
  have a9 := Try.isAgg9
  have z9 := Try.sizeOf9
  have u4 := Try.underlying4
  have a4 := Try.isAgg4
  have z4 := Try.sizeOf4
  have hS : Try.prog.underlying 28 = some (.struct (Try.prog.fieldsOf 28)) := by kernel_rfl
  have hp : Try.prog.stoodInHeld 28 = false := by kernel_rfl
  rw [show (10000 : Nat) = 9999 + 1 from rfl, run_equalIn_agg w 9999 28 _ _ hS hp]
  simp only [Program.fieldsOf, Try.underlying28]
  go_simp
  simp only [text_same]
  repeat' split
  all_goals first
    | (rw [decide_eq_true]; exact Mat.ext' (Atr.ext' (by assumption) (by assumption) (by assumption)) (by assumption) (vl_ext (by assumption) (by assumption) (by assumption)))
    | (rw [decide_eq_false]; rintro rfl; rename_i hne; exact hne rfl)

set_option maxRecDepth 100000 in
set_option maxHeartbeats 800000 in
theorem dut_eq (a b : Dut) (w : World) : (Op.equalIn 10000 116 (.agg #[.int .i64 a.on, .int .i64 a.kind, .string a.arg]) (.agg #[.int .i64 b.on, .int .i64 b.kind, .string b.arg])).run Try.prog w = .ok (decide (a = b)) w := by
  have u3 := Try.underlying3
  have a3 := Try.isAgg3
  have z3 := Try.sizeOf3
  have u9 := Try.underlying9
  have a9 := Try.isAgg9
  have z9 := Try.sizeOf9
  have u4 := Try.underlying4
  have a4 := Try.isAgg4
  have z4 := Try.sizeOf4
  have hS : Try.prog.underlying 116 = some (.struct (Try.prog.fieldsOf 116)) := by kernel_rfl
  have hp : Try.prog.stoodInHeld 116 = false := by kernel_rfl
  rw [show (10000 : Nat) = 9999 + 1 from rfl, run_equalIn_agg w 9999 116 _ _ hS hp]
  simp only [Program.fieldsOf, Try.underlying116]
  go_simp
  simp only [text_same]
  repeat' split
  all_goals first
    | (rw [decide_eq_true]; exact Dut.ext' (by assumption) (by assumption) (by assumption))
    | (rw [decide_eq_false]; rintro rfl; rename_i hne; exact hne rfl)

end Go.Proofs.Ytjpkemamfccfdaa
/- What a node is of, what it makes, and what it may have beside its Op. -/
namespace Go.Proofs.Ytjpkemamfccfdaa
set_option linter.unusedVariables false
open Go.RowKit

def ofT (op : Int) : ByteArray := lf ((patX op).getD [])
def makesT (op : Int) : ByteArray := match patX op with | none => lf [] | some _ => lf [makesX op]
theorem empty_iff (s : ByteArray) : (s = ByteArray.empty) = (s.toList = []) := propext ⟨fun h => by rw [h, ByteArray.toList_eq]; rfl, fun h => text_eq (by show s.data.toList = []; rw [← ByteArray.toList_eq]; exact h)⟩
theorem zeroA_iff (c : Int) (nm : ByteArray) (mu : Bool) : decide ((⟨c, nm, mu⟩ : Atr) = zeroA) = (decide (c = 0) && decide (nm.toList = []) && decide (mu = false)) := by
  rw [Bool.eq_iff_iff]
  simp only [Bool.and_eq_true, decide_eq_true_eq, ← empty_iff, zeroA, Atr.mk.injEq, and_assoc]
theorem zeroV_iff (k n : Int) (s : ByteArray) : decide ((⟨k, n, s⟩ : Vl) = zeroV) = (decide (k = 0) && decide (n = 0) && decide (s.toList = [])) := by
  rw [Bool.eq_iff_iff]
  simp only [Bool.and_eq_true, decide_eq_true_eq, ← empty_iff, zeroV, Vl.mk.injEq, and_assoc]

end Go.Proofs.Ytjpkemamfccfdaa
/- Expressions: the project's. -/
namespace Go.Proofs.Ytjpkemamfccfdaa
set_option linter.unusedVariables false
open Go.RowKit

theorem runX_app : ∀ (l m : List Nod) (st : List Bool), runX (l ++ m) st = (match runX l st with | some st' => runX m st' | none => none)
  | [], m, st => rfl
  | x :: l, m, st => by
    simp only [List.cons_append, runX]
    cases stepX x st with
    | none => rfl
    | some st' => exact runX_app l m st'
/-- So far. -/
def RunTo (l : List Nod) (k : Nat) (st : List Bool) : Prop := runX (l.take k) [] = some st
theorem RunTo.zero (l : List Nod) : RunTo l 0 [] := rfl
theorem take_next {α : Type} {l : List α} {k : Nat} {x : α} (h : l[k]? = some x) : l.take (k + 1) = l.take k ++ [x] := by
  obtain ⟨hk, rfl⟩ := List.getElem?_eq_some_iff.1 h
  exact List.take_succ_eq_append_getElem hk
theorem RunTo.step {l : List Nod} {k : Nat} {st st' : List Bool} {x : Nod} (h : RunTo l k st) (hx : l[k]? = some x) (hs : stepX x st = some st') : RunTo l (k + 1) st' := by
  unfold RunTo at h ⊢
  rw [take_next hx, runX_app, h]
  simp only [runX, hs]
theorem RunTo.err {l : List Nod} {k : Nat} {st : List Bool} {x : Nod} (h : RunTo l k st) (hx : l[k]? = some x) (hs : stepX x st = none) : runX l [] = none := by
  rw [← List.take_append_drop (k + 1) l, runX_app, take_next hx, runX_app, h]
  simp only [runX, hs]
theorem RunTo.all {l : List Nod} {n : Nat} {st : List Bool} (h : RunTo l n st) (hn : l.length = n) : runX l [] = some st := by
  unfold RunTo at h
  rwa [List.take_of_length_le (by omega)] at h
theorem expr_err {l : List Nod} (hl : l.length ≤ 32) (h : runX l [] = none) : exprE l = 1 := by
  unfold exprE
  rw [if_neg (by omega), h]
theorem expr_end {l : List Nod} {st : List Bool} (hl : l.length ≤ 32) (h : runX l [] = some st) : exprE l = if l = [] ∨ st = [false] then 0 else 1 := by
  unfold exprE
  rw [if_neg (by omega), h]

end Go.Proofs.Ytjpkemamfccfdaa
/- The first error of a list: the project's each, over matches, AllOfs, AnyOfs, duties; targets and duties by it. -/
namespace Go.Proofs.Ytjpkemamfccfdaa
set_option linter.unusedVariables false
open Go.RowKit

end Go.Proofs.Ytjpkemamfccfdaa
/- What was met on the way through a policy: the map of names, the count of rules (the project's walk). -/
namespace Go.Proofs.Ytjpkemamfccfdaa
set_option linter.unusedVariables false
open Go.RowKit Go.Maps

/-- How often was a name met? -/
def cnt (x : ByteArray) (l : List ByteArray) : Nat := l.countP fun y => decide (y = x)
theorem cnt_snoc (x : ByteArray) (l : List ByteArray) : cnt x (l ++ [x]) = cnt x l + 1 := by simp [cnt]
theorem cnt_other {x y : ByteArray} (h : y ≠ x) (l : List ByteArray) : cnt x (l ++ [y]) = cnt x l := by simp [cnt, h]
theorem cnt_le (x : ByteArray) (l : List ByteArray) : cnt x l ≤ l.length := List.countP_le_length
theorem cnt_met (x : ByteArray) : ∀ (l : List ByteArray), (cnt x l = 0) = (metB x l = false)
  | [] => by simp [cnt, metB]
  | y :: l => by
    have := cnt_met x l
    unfold cnt metB at this ⊢
    by_cases e : y = x
    · simp [e]
    · simp only [List.countP_cons, List.any_cons, e, decide_false, Bool.false_or, if_false, Nat.add_zero, Bool.false_eq_true]
      exact this

theorem law9 : Keyed Try.prog 9 := string_keyed Try.underlying9
theorem zero3 (w : World) : (zeroValue 3).run Try.prog w = .ok (.int .i64 0) w := by kernel_rfl

/-- Block B is the map of the names that were met: how often each. -/
def MapIs (w : World) (B : Nat) (ids : List ByteArray) : Prop :=
  ∃ D : DataW Unit, w.ownsMap Try.prog 9 (plainElem Try.prog 3) B ids.length D ∧ IsMap D ∧ ∀ x : ByteArray, D.atKey (.string x.data.toList) (.lit (.int .i64 0)) = .lit (.int .i64 (cnt x ids))
theorem MapIs.lt {w : World} {B : Nat} {ids : List ByteArray} (h : MapIs w B ids) : B < w.heap.size := by obtain ⟨D, h, _⟩ := h; exact h.lt
theorem MapIs.kept {w w' : World} {B : Nat} {ids : List ByteArray} {r : Nat} (h : MapIs w B ids) (ho : Only r w w') (hr : B ≠ r) : MapIs w' B ids := by
  obtain ⟨D, h1, h2, h3⟩ := h
  exact ⟨D, h1.kept ho (fun e => hr (Option.some.inj e)), h2, h3⟩
theorem MapIs.below {w w' : World} {B : Nat} {ids : List ByteArray} (h : MapIs w B ids) (ho : Below w.heap.size w w') : MapIs w' B ids :=
  h.kept (r := w.heap.size) (Only.of_below ho) (Nat.ne_of_lt h.lt)
theorem MapIs.made (w : World) : MapIs (w.alloc (.map #[] 0)) w.heap.size [] :=
  ⟨.map [], World.ownsMap_made _ _ _ _, isMap_empty, fun x => rfl⟩
theorem text_key {x y : ByteArray} (h : x ≠ y) : (Lit.string x.data.toList) ≠ .string y.data.toList := by
  intro e
  injection e with e
  exact h (text_eq e)

end Go.Proofs.Ytjpkemamfccfdaa
/- cmp.Or over errors; what a policy may have as what it is (the project's fits). -/
namespace Go.Proofs.Ytjpkemamfccfdaa
set_option linter.unusedVariables false
open Go.RowKit

def ev (l : List Int) : List Value := l.map (Value.int .i64)
theorem or2 (a b : Int) : firstE (fun x => x) [a, b] = orE a b := by
  unfold orE; simp only [firstE]
  by_cases ha : a = 0 <;> by_cases hb : b = 0 <;> simp [ha, hb]
theorem or3 (a b c : Int) : firstE (fun x => x) [a, b, c] = orE a (orE b c) := by
  unfold orE; simp only [firstE]
  by_cases ha : a = 0 <;> by_cases hb : b = 0 <;> by_cases hc : c = 0 <;> simp [ha, hb, hc]

def fitsN (set : Bool) (alg : Int) (nr nk : Nat) : Bool := decide (1 ≤ alg) && decide (alg ≤ 6) && if set = true then decide (nr = 0) else decide (nk = 0) && decide (alg ≠ 4)
theorem fits_eq (p : Pol) : fitsB p = fitsN p.set p.alg p.rules.length p.kids.length := rfl
end Go.Proofs.Ytjpkemamfccfdaa
/- A rule on the way through a policy (the project's walk.rule, and each over rules). -/
namespace Go.Proofs.Ytjpkemamfccfdaa
set_option linter.unusedVariables false
open Go.RowKit Go.Sort

/-- Only blocks g and B, and what is new, have changed. -/
def Only2 (g B : Nat) (w w' : World) : Prop := w'.os = w.os ∧ w'.tape = w.tape ∧ w'.output = w.output ∧ w.heap.size ≤ w'.heap.size ∧ ∀ k, k < w.heap.size → k ≠ g → k ≠ B → w'.heap[k]? = w.heap[k]?
section
variable {g B : Nat} {w w' w'' : World}
theorem Only2.refl : Only2 g B w w := ⟨rfl, rfl, rfl, Nat.le_refl _, fun _ _ _ _ => rfl⟩
theorem Only2.trans (h : Only2 g B w w') (k : Only2 g B w' w'') : Only2 g B w w'' :=
  ⟨k.1.trans h.1, k.2.1.trans h.2.1, k.2.2.1.trans h.2.2.1, Nat.le_trans h.2.2.2.1 k.2.2.2.1, fun i hi h1 h2 => (k.2.2.2.2 i (Nat.lt_of_lt_of_le hi h.2.2.2.1) h1 h2).trans (h.2.2.2.2 i hi h1 h2)⟩
theorem Only2.of_B (h : Only B w w') : Only2 g B w w' := ⟨h.os, h.tape, h.output, h.size, fun k hk _ h2 => h.heap hk h2⟩
theorem Only2.of_g (h : Only g w w') : Only2 g B w w' := ⟨h.os, h.tape, h.output, h.size, fun k hk h1 _ => h.heap hk h1⟩
theorem Only2.of_below (h : Below w.heap.size w w') : Only2 g B w w' := ⟨h.os, h.tape, h.output, h.size, fun k hk _ _ => h.block k hk⟩
theorem Only2.size (h : Only2 g B w w') : w.heap.size ≤ w'.heap.size := h.2.2.2.1
theorem Only2.heap (h : Only2 g B w w') {k : Nat} (hk : k < w.heap.size) (h1 : k ≠ g) (h2 : k ≠ B) : w'.heap[k]? = w.heap[k]? := h.2.2.2.2 k hk h1 h2
theorem Only2.kept (h : Only2 g B w w') {R : Nat → Prop} (hR : ∀ b, R b → b ≠ g ∧ b ≠ B) : Kept R w w' := ⟨h.size, fun b hb hl => h.heap hl (hR b hb).1 (hR b hb).2⟩
theorem Only2.below (h : Only2 g B w w') {L : Nat} (hL : L ≤ w.heap.size) (h1 : L ≤ g) (h2 : L ≤ B) : Below L w w' :=
  ⟨h.1, h.2.1, h.2.2.1, h.size, fun k hk => h.heap (by omega) (by omega) (by omega)⟩
theorem Only2.alloc (o : Obj) : Only2 g B w (w.alloc o) := Only2.of_below ((Below.refl _ _).alloc (Nat.le_refl _) _)
end

theorem idS_some {x : ByteArray} {s : Seen} (h : (decide (Named (bl x)) && !metB x s.ids) = true) : idS x s = some ⟨s.ids ++ [x], s.n⟩ := by
  simp at h
  unfold idS
  rw [if_pos h]
theorem idS_none {x : ByteArray} {s : Seen} (h : (decide (Named (bl x)) && !metB x s.ids) = false) : idS x s = none := by
  unfold idS
  rw [if_neg]
  rintro ⟨h1, h2⟩
  simp [h1, h2] at h

theorem firstS_app {α : Type} (f : α → Seen → Int × Seen) : ∀ (l m : List α) (s : Seen), firstS f (l ++ m) s = if (firstS f l s).1 ≠ 0 then firstS f l s else firstS f m (firstS f l s).2
  | [], m, s => by simp [firstS]
  | x :: l, m, s => by
    simp only [List.cons_append, firstS]
    by_cases h : (f x s).1 = 0
    · simp only [h, ne_eq, not_true, if_false]
      exact firstS_app f l m (f x s).2
    · simp [h]
/-- So far without an error, and this was met. -/
def StTo {α : Type} (f : α → Seen → Int × Seen) (l : List α) (s0 : Seen) (k : Nat) (s : Seen) : Prop := firstS f (l.take k) s0 = (0, s)
section
variable {α : Type} {f : α → Seen → Int × Seen} {l : List α} {s0 s : Seen} {k : Nat} {x : α}
theorem StTo.zero (f : α → Seen → Int × Seen) (l : List α) (s0 : Seen) : StTo f l s0 0 s0 := rfl
theorem StTo.step (h : StTo f l s0 k s) (hx : l[k]? = some x) (h0 : (f x s).1 = 0) : StTo f l s0 (k + 1) (f x s).2 := by
  unfold StTo at h ⊢
  rw [take_next hx, firstS_app, h]
  simp only [ne_eq, not_true, if_false, firstS, h0]
theorem StTo.err (h : StTo f l s0 k s) (hx : l[k]? = some x) (h0 : (f x s).1 ≠ 0) : firstS f l s0 = f x s := by
  have e : firstS f (l.take (k + 1)) s0 = f x s := by
    unfold StTo at h
    rw [take_next hx, firstS_app, h]
    simp [firstS, h0]
  rw [← List.take_append_drop (k + 1) l, firstS_app, e, if_pos h0]
theorem StTo.all {n : Nat} (h : StTo f l s0 n s) (hn : l.length = n) : firstS f l s0 = (0, s) := by
  unfold StTo at h
  rwa [List.take_of_length_le (by omega)] at h
end
theorem idS_ids {x : ByteArray} {s s1 : Seen} (h : idS x s = some s1) : s1.ids.length = s.ids.length + 1 := by
  unfold idS at h
  split at h
  · obtain rfl := Option.some.inj h; simp
  · cases h
theorem ruleS_ids (r : Rul) (s : Seen) : (ruleS r s).2.ids.length ≤ s.ids.length + 1 := by
  unfold ruleS
  split
  · exact Nat.le_succ _
  · rename_i s1 h
    have := idS_ids h
    split <;> (simp only; omega)

end Go.Proofs.Ytjpkemamfccfdaa
/- A policy and its kids, on the way through (the project's walk.policy, its closure, each over policies). -/
namespace Go.Proofs.Ytjpkemamfccfdaa
set_option linter.unusedVariables false
open Go.RowKit Go.Sort

/-- How many names may be met at most. -/
def idsB : Nat → Nat
  | 0 => 0
  | d + 1 => 17 + 16 * idsB d
theorem firstS_ids {α : Type} {f : α → Seen → Int × Seen} {c : Nat} (hf : ∀ x s, (f x s).2.ids.length ≤ s.ids.length + c) : ∀ (l : List α) (s : Seen), (firstS f l s).2.ids.length ≤ s.ids.length + l.length * c
  | [], s => by simp [firstS]
  | x :: l, s => by
    have h1 := hf x s
    have h2 := firstS_ids hf l (f x s).2
    simp only [firstS, List.length_cons, Nat.add_mul, Nat.one_mul]
    split <;> omega
theorem polS_ids : ∀ (d : Nat) (p : Pol) (s : Seen), (polS d p s).2.ids.length ≤ s.ids.length + idsB d
  | 0, p, s => by simp [polS, idsB]
  | d + 1, p, s => by
    simp only [polS, idsB]
    split
    · simp only; omega
    · rename_i s1 h
      have h1 := idS_ids h
      split
      · simp only; omega
      split
      · simp only; omega
      split
      · simp only; omega
      rename_i hn
      have h2 := firstS_ids (c := 1) ruleS_ids p.rules s1
      have hr : p.rules.length ≤ 16 := by omega
      have hk : p.kids.length ≤ 16 := by omega
      split
      · omega
      have h3 := firstS_ids (c := idsB d) (polS_ids d) p.kids (firstS ruleS p.rules s1).2
      have h4 : p.kids.length * idsB d ≤ 16 * idsB d := Nat.mul_le_mul_right _ hk
      omega

end Go.Proofs.Ytjpkemamfccfdaa
/- A policy, one depth more (the project's walk.policy); Right, Rules. -/
namespace Go.Proofs.Ytjpkemamfccfdaa
set_option linter.unusedVariables false
open Go.RowKit Go.Sort

theorem each_len {a b d n2 n3 l : Nat} (h : a + (16 + 16 * d) < 800000) (h1 : b ≤ a + l * 1) (hl : l = n2) (h2 : n2 ≤ 16) (h3 : n3 ≤ 16) : b + n3 * d < 800000 := by
  have : n3 * d ≤ 16 * d := Nat.mul_le_mul_right _ h3
  omega
end Go.Proofs.Ytjpkemamfccfdaa
/- Right, Rules (the project's), over any policy. -/
namespace Go.Proofs.Ytjpkemamfccfdaa
set_option linter.unusedVariables false
open Go.RowKit Go.Sort

/-- A policy's cells, all there. -/
def PolIn (w : World) (R : Nat → Prop) (p : Pol) (A1 : Option Addr) (n1 k1 : Nat) (A2 : Option Addr) (n2 k2 : Nat) (A3 : Option Addr) (n3 k3 : Nat) (A4 : Option Addr) (n4 k4 : Nat) : Prop :=
  (p.id.size ≤ maxLen ∧ InI p.alg) ∧ Tg w R A1 n1 k1 p.tg ∧ Rus w R A2 n2 k2 p.rules ∧ (∃ m, Pls w R m A3 n3 k3 p.kids) ∧ Dus w R A4 n4 k4 p.ob
section
variable {w w' : World} {R R' : Nat → Prop} {p : Pol} {A1 A2 A3 A4 : Option Addr} {n1 k1 n2 k2 n3 k3 n4 k4 : Nat}
theorem PolIn.keep (h : PolIn w R p A1 n1 k1 A2 n2 k2 A3 n3 k3 A4 n4 k4) (hk : Kept R w w') (hR : ∀ b, R b → b < w.heap.size → R' b) : PolIn w' R' p A1 n1 k1 A2 n2 k2 A3 n3 k3 A4 n4 k4 := by
  obtain ⟨h0, h1, h2, ⟨m, h3⟩, h4⟩ := h
  exact ⟨h0, h1.keep hk hR, h2.keep hk hR, ⟨m, h3.keep hk hR⟩, h4.keep hk hR⟩
theorem PolIn.low (h : PolIn w R p A1 n1 k1 A2 n2 k2 A3 n3 k3 A4 n4 k4) : PolIn w (fun b => b < w.heap.size) p A1 n1 k1 A2 n2 k2 A3 n3 k3 A4 n4 k4 := h.keep (Kept.refl _ _) fun _ _ h => h
theorem PolIn.then_ (h : PolIn w R p A1 n1 k1 A2 n2 k2 A3 n3 k3 A4 n4 k4) (hb : Below w.heap.size w w') : PolIn w' R p A1 n1 k1 A2 n2 k2 A3 n3 k3 A4 n4 k4 := h.keep (Kept.all hb R) fun _ h _ => h

end
end Go.Proofs.Ytjpkemamfccfdaa
/- Rows that are laid as literals. -/
namespace Go.Proofs.Ytjpkemamfccfdaa
set_option linter.unusedVariables false
open Go.RowKit

theorem flat_at {α : Type} {f : α → List Value} {k : Nat} : ∀ {l : List α} {j : Nat} {x : α} {i : Nat} {v : Value}, (∀ y ∈ l, (f y).length = k) → l[j]? = some x → (f x)[i]? = some v → (l.flatMap f)[j * k + i]? = some v
  | [], _, _, _, _, _, hx, _ => by simp at hx
  | y :: l, 0, x, i, v, hk, hx, hv => by
    simp at hx
    subst hx
    rw [List.flatMap_cons, Nat.zero_mul, Nat.zero_add, List.getElem?_append_left (by rw [List.getElem?_eq_some_iff] at hv; exact hv.1)]
    exact hv
  | y :: l, j + 1, x, i, v, hk, hx, hv => by
    have hy := hk y (by simp)
    rw [List.flatMap_cons, List.getElem?_append_right (by rw [hy, Nat.add_mul]; omega), hy, show (j + 1) * k + i - k = j * k + i by rw [Nat.add_mul]; omega]
    exact flat_at (fun y h => hk y (by simp [h])) (by simpa using hx) hv
theorem Rw.lit {α : Type} {k : Nat} {P : List Value → α → Prop} {R : Nat → Prop} (w : World) (t : TypeId) (f : α → List Value) (l : List α) {n : Nat} (hn : l.length = n) (hc : n ≤ 1000000) (hR : R w.heap.size) (hk : ∀ x ∈ l, (f x).length = k) (hP : ∀ x ∈ l, P (f x) x) :
    Rw k P (w.alloc (.cells (l.flatMap f).toArray t)) R (some ⟨w.heap.size, 0, none⟩) n n l := by
  refine ⟨hn, Nat.le_refl _, ⟨by simp [maxLen]; omega, by omega⟩, .inr ⟨w.heap.size, 0, rfl, hR, by simp, fun j x hx => ⟨f x, hk x (List.mem_of_getElem? hx), fun i v hv => ?_, hP x (List.mem_of_getElem? hx)⟩⟩⟩
  have := (Ob.made w t (l.flatMap f).toArray).cell (j * k + i)
  rw [Nat.zero_add, this, List.getElem?_toArray]
  exact flat_at hk hx hv
theorem Nds.lit (w : World) {R : Nat → Prop} (l : List Nod) {n : Nat} (hn : l.length = n) (hc : n ≤ 1000000) (hR : R w.heap.size) (hok : ∀ x ∈ l, x.ok) : Nds (w.alloc (.cells (l.flatMap Nod.cells).toArray 113)) R (some ⟨w.heap.size, 0, none⟩) n n l :=
  Rw.lit w _ Nod.cells l hn hc hR (fun _ _ => rfl) fun x hx => ⟨rfl, hok x hx⟩
theorem Dus.lit (w : World) {R : Nat → Prop} (l : List Dut) {n : Nat} (hn : l.length = n) (hc : n ≤ 1000000) (hR : R w.heap.size) (hok : ∀ x ∈ l, x.ok) : Dus (w.alloc (.cells (l.flatMap Dut.cells).toArray 116)) R (some ⟨w.heap.size, 0, none⟩) n n l :=
  Rw.lit w _ Dut.cells l hn hc hR (fun _ _ => rfl) fun x hx => ⟨rfl, hok x hx⟩
end Go.Proofs.Ytjpkemamfccfdaa
/- Rows of structs of the call's own: append. -/
namespace Go.Proofs.Ytjpkemamfccfdaa
set_option linter.unusedVariables false
open Go.RowKit

/-- The slice 'A n c' reads as these cells, one behind the other. -/
def Fl (w : World) (k : Nat) (A : Option Addr) (n : Nat) (ys : List Value) : Prop :=
  ys.length = n * k ∧ (∀ v ∈ ys, v.oneCell' = true) ∧ (n = 0 ∨ ∃ b o, A = some ⟨b, o, none⟩ ∧ ∀ j u, ys[j]? = some u → w.cell? ⟨b, o + j, none⟩ = some u)

/-- append of many structs to a row of the call's own. -/
theorem append_rows {P : Program} {T E : TypeId} {i : TypeInfo} {z : Value} {k by_ : Nat} (ht : P.underlying T = some (.slice E)) (hi : P.info? E = some i) (hz : i.zero = some z) (hs : i.size = k) (hb : i.bytes = by_) (hzs : z.cells.size = k) (hk : 0 < k) (hby : by_ ≤ 1000)
    {w : World} {base n c m c2 ty : Nat} {A A2 : Option Addr} {xs ys : List Value} (h : w.ownsRow base E k (.slice A n c) n xs) (hy : Fl w k A2 m ys) (hn : n + m ≤ 1000000) (hbase : base ≤ w.heap.size) :
    ∃ A' c' w', (Builtin.append_ #[T, T] ty #[.slice A n c, .slice A2 m c2]).run P w = .ok (.slice A' (n + m) c') w' ∧
      w'.ownsRow base E k (.slice A' (n + m) c') (n + m) (xs ++ ys) ∧ Below base w w' ∧ w.grownBy w' (Value.slice A n c).ownBlock ∧
      ((Value.slice A' (n + m) c').ownBlock = (Value.slice A n c).ownBlock ∨ (Value.slice A' (n + m) c').ownBlock = some w.heap.size) := by
  obtain ⟨hlen, h1, hy⟩ := hy
  have fin : ∀ (ad : Addr), A2 = some ad → (∀ j u, ys[j]? = some u → w.cell? (ad.add j) = some u) → ∃ A' c' w', (Builtin.append_ #[T, T] ty #[.slice A n c, .slice A2 m c2]).run P w = .ok (.slice A' (n + m) c') w' ∧
      w'.ownsRow base E k (.slice A' (n + m) c') (n + m) (xs ++ ys) ∧ Below base w w' ∧ w.grownBy w' (Value.slice A n c).ownBlock ∧
      ((Value.slice A' (n + m) c').ownBlock = (Value.slice A n c).ownBlock ∨ (Value.slice A' (n + m) c').ownBlock = some w.heap.size) := by
    rintro ad rfl hc
    have hb2 : (n + m) * by_ ≤ 1000000 * 1000 := Nat.mul_le_mul hn hby
    obtain ⟨v', w', hrun, h2, h3, h4, h5⟩ := run_append_own_at (P := P) w base T ty E i z k by_ ht hi hz hs hb hzs hk (.slice A n c) n xs h
      ad m c2 ys hlen hc h1 (by unfold maxLen; omega) (by omega) hbase
    have hform : ∃ A' c', v' = .slice A' (n + m) c' := by
      rcases h2.2 with ⟨hv, hz⟩ | ⟨g, cap, cur, hv, _⟩
      · exact ⟨_, _, by rw [hv, hz]⟩
      · exact ⟨_, _, hv⟩
    obtain ⟨A', c', rfl⟩ := hform
    exact ⟨A', c', w', hrun, h2, (Below.refl base w).grown h3 hbase (fun k hk => (h.lt k hk).1), h3, h5⟩
  rcases hy with h0 | ⟨b, o, e, hc⟩
  · subst h0
    obtain rfl : ys = [] := List.eq_nil_of_length_eq_zero (by omega)
    rcases A2 with _ | ad
    · exact ⟨A, c, w, append_nil_src ht hi h, by simpa using h, Below.refl _ _, ⟨rfl, rfl, rfl, Nat.le_refl _, fun _ _ _ => rfl⟩, .inl rfl⟩
    · exact fin ad rfl (fun j u hu => by simp at hu)
  · refine fin _ e fun j u hu => ?_
    have := hc j u hu
    by_cases hj : j = 0
    · subst hj; simpa [Addr.add] using this
    · simpa [Addr.add, hj] using this

theorem flatten_at {k : Nat} : ∀ {l : List (List Value)} {j : Nat} {x : List Value} {i : Nat} {v : Value}, (∀ y ∈ l, y.length = k) → l[j]? = some x → x[i]? = some v → l.flatten[j * k + i]? = some v
  | [], _, _, _, _, _, hx, _ => by simp at hx
  | y :: l, 0, x, i, v, hk, hx, hv => by
    simp at hx
    subst hx
    rw [List.flatten_cons, Nat.zero_mul, Nat.zero_add, List.getElem?_append_left (by rw [List.getElem?_eq_some_iff] at hv; exact hv.1)]
    exact hv
  | y :: l, j + 1, x, i, v, hk, hx, hv => by
    have hy := hk y (by simp)
    rw [List.flatten_cons, List.getElem?_append_right (by rw [hy, Nat.add_mul]; omega), hy, show (j + 1) * k + i - k = j * k + i by rw [Nat.add_mul]; omega]
    exact flatten_at (fun y h => hk y (by simp [h])) (by simpa using hx) hv
theorem flatten_len {k : Nat} : ∀ {l : List (List Value)}, (∀ y ∈ l, y.length = k) → l.flatten.length = l.length * k
  | [], _ => by simp
  | y :: l, h => by
    rw [List.flatten_cons, List.length_append, h y (by simp), flatten_len fun y hy => h y (by simp [hy]), List.length_cons, Nat.add_mul]
    omega
theorem flatten_of {k : Nat} (hk : 0 < k) {l : List (List Value)} {j : Nat} {u : Value} (hl : ∀ y ∈ l, y.length = k) (h : l.flatten[j]? = some u) : ∃ x, l[j / k]? = some x ∧ x[j % k]? = some u := by
  have hj : j < l.length * k := by rw [← flatten_len hl]; exact (List.getElem?_eq_some_iff.1 h).1
  have hd : j / k < l.length := Nat.div_lt_of_lt_mul (by rw [Nat.mul_comm]; exact hj)
  have hx : l[j / k]? = some l[j / k] := List.getElem?_eq_getElem hd
  refine ⟨l[j / k], hx, ?_⟩
  have hm : j % k < (l[j / k]).length := by rw [hl _ (List.getElem_mem hd)]; exact Nat.mod_lt _ hk
  have hv : (l[j / k])[j % k]? = some (l[j / k])[j % k] := List.getElem?_eq_getElem hm
  have := flatten_at hl hx hv
  rw [show j / k * k + j % k = j from by rw [Nat.mul_comm]; exact Nat.div_add_mod j k] at this
  rw [hv, ← this, h]

/-- What the cells of a row of structs are. -/
theorem Rw.raw {α : Type} {k : Nat} {P : List Value → α → Prop} {w : World} {R : Nat → Prop} {A : Option Addr} {n c : Nat} {l : List α} (h : Rw k P w R A n c l) :
    n = 0 ∨ ∃ raw : List (List Value), raw.length = n ∧ (∀ y ∈ raw, y.length = k) ∧ (∀ (j : Nat) (vs : List Value) (x : α), raw[j]? = some vs → l[j]? = some x → P vs x) ∧ ∃ b o, A = some ⟨b, o, none⟩ ∧ ∀ (j : Nat) (vs : List Value), raw[j]? = some vs → ∀ (i : Nat) v, vs[i]? = some v → w.cell? ⟨b, o + j * k + i, none⟩ = some v := by
  obtain ⟨h1, h2, h3, h4⟩ := h
  rcases h4 with h4 | ⟨b, o, e, hb, hlt, hc⟩
  · exact .inl h4
  right
  have hall : ∀ j, j < n → ∃ vs : List Value, vs.length = k ∧ (∀ (i : Nat) v, vs[i]? = some v → w.cell? ⟨b, o + j * k + i, none⟩ = some v) ∧ ∀ x, l[j]? = some x → P vs x := fun j hj => by
    have hl : j < l.length := by omega
    obtain ⟨vs, a1, a2, a3⟩ := hc j l[j] (List.getElem?_eq_getElem hl)
    refine ⟨vs, a1, a2, fun x hx => ?_⟩
    rw [List.getElem?_eq_getElem hl] at hx
    exact Option.some.inj hx ▸ a3
  obtain ⟨V, hV⟩ : ∃ V : Nat → List Value, ∀ j, j < n → (V j).length = k ∧ (∀ (i : Nat) v, (V j)[i]? = some v → w.cell? ⟨b, o + j * k + i, none⟩ = some v) ∧ ∀ x, l[j]? = some x → P (V j) x :=
    ⟨fun j => if hj : j < n then Classical.choose (hall j hj) else [], fun j hj => by simp only [hj, dif_pos]; exact Classical.choose_spec (hall j hj)⟩
  have hget : ∀ (j : Nat) (vs : List Value), ((List.range n).map V)[j]? = some vs → j < n ∧ vs = V j := fun j vs hj => by
    rw [List.getElem?_map, Option.map_eq_some_iff] at hj
    obtain ⟨i, hi, rfl⟩ := hj
    have hjn : j < n := by have := (List.getElem?_eq_some_iff.1 hi).1; simpa using this
    rw [List.getElem?_range hjn] at hi
    exact ⟨hjn, by rw [Option.some.inj hi]⟩
  refine ⟨(List.range n).map V, by simp, fun y hy => ?_, fun j vs x hj hx => ?_, b, o, e, fun j vs hj i v hv => ?_⟩
  · obtain ⟨i, hi, rfl⟩ := List.mem_map.1 hy
    exact (hV i (by simpa using hi)).1
  · obtain ⟨hjn, rfl⟩ := hget j vs hj
    exact (hV j hjn).2.2 x hx
  · obtain ⟨hjn, rfl⟩ := hget j vs hj
    exact (hV j hjn).2.1 i v hv

/-- A row of the call's own reads as what its cells say. -/
theorem Rw.of_own {α : Type} {k : Nat} {P : List Value → α → Prop} {w : World} {base n c : Nat} {E : TypeId} {A : Option Addr} {l : List α} {raw : List (List Value)} {R : Nat → Prop} (h : w.ownsRow base E k (.slice A n c) n raw.flatten)
    (hbig : n ≤ 140737488351232) (hl : raw.length = n) (hln : l.length = n) (hk : ∀ y ∈ raw, y.length = k) (hP : ∀ (j : Nat) (vs : List Value) (x : α), raw[j]? = some vs → l[j]? = some x → P vs x) (hR : ∀ ad, A = some ad → base ≤ ad.block → R ad.block) : Rw k P w R A n c l := by
  rcases h.2 with ⟨hv, hn⟩ | ⟨g, cap, cur, hv, hb, hg, hnc, hcm, hcs, ht⟩
  · injection hv with h1 h2 h3
    subst h1 h2 h3
    exact ⟨hln, Nat.le_refl _, ⟨by simp [maxLen], by omega⟩, .inl rfl⟩
  · injection hv with h1 h2 h3
    subst h1 h3
    refine ⟨hln, hnc, ⟨hcm, hbig⟩, .inr ⟨g, 0, rfl, hR _ rfl hb, ?_, fun j x hx => ?_⟩⟩
    · rcases Nat.lt_or_ge g w.heap.size with hlt | hge
      · exact hlt
      · rw [Array.getElem?_eq_none hge] at hg; cases hg
    · have hjr : j < raw.length := by have := (List.getElem?_eq_some_iff.1 hx).1; omega
      refine ⟨raw[j], hk _ (List.getElem_mem hjr), fun i v hv => ?_, hP j _ x (List.getElem?_eq_getElem hjr) hx⟩
      have := h.cells (g := g) rfl (j * k + i) v (flatten_at hk (List.getElem?_eq_getElem hjr) hv)
      have add : (⟨g, 0, none⟩ : Addr).add (j * k + i) = ⟨g, 0 + j * k + i, none⟩ := by by_cases hj : j * k + i = 0 <;> simp [Addr.add, hj]; omega
      rwa [add] at this
/-- Its cells, to be appended. -/
theorem Rw.fl {α : Type} {k : Nat} {P : List Value → α → Prop} {w : World} {R : Nat → Prop} {A : Option Addr} {n c : Nat} {l : List α} (h : Rw k P w R A n c l) (hk : 0 < k) (h1 : ∀ vs x, P vs x → ∀ v ∈ vs, v.oneCell' = true) :
    ∃ raw : List (List Value), raw.length = n ∧ (∀ y ∈ raw, y.length = k) ∧ (∀ (j : Nat) (vs : List Value) (x : α), raw[j]? = some vs → l[j]? = some x → P vs x) ∧ Fl w k A n raw.flatten := by
  rcases h.raw with h0 | ⟨raw, r1, r2, r3, b, o, e, r4⟩
  · subst h0
    exact ⟨[], rfl, by simp, by simp, by simp, by simp, .inl rfl⟩
  · refine ⟨raw, r1, r2, r3, by rw [flatten_len r2, r1], fun v hv => ?_, .inr ⟨b, o, e, fun j u hu => ?_⟩⟩
    · obtain ⟨y, hy, hv⟩ := List.mem_flatten.1 hv
      obtain ⟨j, hj, rfl⟩ := List.getElem_of_mem hy
      have hjl : j < l.length := by have := h.1; omega
      exact h1 _ _ (r3 j _ _ (List.getElem?_eq_getElem hj) (List.getElem?_eq_getElem hjl)) v hv
    · obtain ⟨x, hx, hv⟩ := flatten_of hk r2 hu
      have := r4 _ _ hx _ _ hv
      rwa [Nat.add_assoc, show j / k * k + j % k = j from by rw [Nat.mul_comm]; exact Nat.div_add_mod j k] at this

theorem Rw.flat_fl {α : Type} {k : Nat} {f : α → List Value} {okp : α → Prop} {w : World} {R : Nat → Prop} {A : Option Addr} {n c : Nat} {l : List α} (h : Rw k (fun vs x => vs = f x ∧ okp x) w R A n c l) (hk : 0 < k) (h1 : ∀ x, ∀ v ∈ f x, v.oneCell' = true) : Fl w k A n (l.flatMap f) := by
  obtain ⟨raw, r1, r2, r3, r4⟩ := Rw.fl h hk (fun vs x hp v hv => h1 x v (hp.1 ▸ hv))
  have hl := h.1
  have e : raw = l.map f := by
    apply List.ext_getElem?
    intro j
    by_cases hj : j < n
    · have a1 : raw[j]? = some raw[j] := List.getElem?_eq_getElem (by omega)
      have a2 : l[j]? = some l[j] := List.getElem?_eq_getElem (by omega)
      have := (r3 j _ _ a1 a2).1
      rw [a1, List.getElem?_map, a2, this]; rfl
    · rw [List.getElem?_eq_none (by omega), List.getElem?_eq_none (by rw [List.length_map]; omega)]
  rw [e, ← List.flatMap_def] at r4
  exact r4
theorem Rw.flat_own {α : Type} {k : Nat} {f : α → List Value} {okp : α → Prop} {w : World} {base n c : Nat} {E : TypeId} {A : Option Addr} {l : List α} {R : Nat → Prop} (h : w.ownsRow base E k (.slice A n c) n (l.flatMap f)) (hbig : n ≤ 140737488351232) (hln : l.length = n) (hf : ∀ x, (f x).length = k) (hok : ∀ x ∈ l, okp x)
    (hR : ∀ ad, A = some ad → base ≤ ad.block → R ad.block) : Rw k (fun vs x => vs = f x ∧ okp x) w R A n c l := by
  rw [List.flatMap_def] at h
  refine Rw.of_own h hbig (by rw [List.length_map]; exact hln) hln (fun y hy => ?_) (fun j vs x h1 h2 => ?_) hR
  · obtain ⟨x, _, rfl⟩ := List.mem_map.1 hy
    exact hf x
  · rw [List.getElem?_map, h2] at h1
    exact ⟨(Option.some.inj h1).symm, hok x (List.mem_of_getElem? h2)⟩
theorem Dut.one (x : Dut) : ∀ v ∈ x.cells, v.oneCell' = true := by intro v hv; simp [Dut.cells] at hv; rcases hv with rfl | rfl | rfl <;> rfl
theorem Nod.one (x : Nod) : ∀ v ∈ x.cells, v.oneCell' = true := by intro v hv; simp [Nod.cells] at hv; rcases hv with rfl | rfl | rfl | rfl | rfl | rfl | rfl <;> rfl
theorem Mat.one (x : Mat) : ∀ v ∈ x.cells, v.oneCell' = true := by intro v hv; simp [Mat.cells] at hv; rcases hv with rfl | rfl | rfl | rfl | rfl | rfl | rfl <;> rfl
theorem Dus.fl {w : World} {R : Nat → Prop} {A : Option Addr} {n c : Nat} {l : List Dut} (h : Dus w R A n c l) : Fl w 3 A n (l.flatMap Dut.cells) := Rw.flat_fl h (by omega) Dut.one
theorem Nds.fl {w : World} {R : Nat → Prop} {A : Option Addr} {n c : Nat} {l : List Nod} (h : Nds w R A n c l) : Fl w 7 A n (l.flatMap Nod.cells) := Rw.flat_fl h (by omega) Nod.one
theorem Ms.fl {w : World} {R : Nat → Prop} {A : Option Addr} {n c : Nat} {l : List Mat} (h : Ms w R A n c l) : Fl w 7 A n (l.flatMap Mat.cells) := Rw.flat_fl h (by omega) Mat.one
theorem Rw.all {α : Type} {k : Nat} {f : α → List Value} {okp : α → Prop} {w : World} {R : Nat → Prop} {A : Option Addr} {n c : Nat} {l : List α} (h : Rw k (fun vs x => vs = f x ∧ okp x) w R A n c l) : ∀ x ∈ l, okp x := by
  intro x hx
  obtain ⟨j, hj, rfl⟩ := List.getElem_of_mem hx
  obtain ⟨b, o, y, vs, _, _, _, hy, _, _, hp⟩ := h.at_ (j := j) (by have := h.1; omega)
  rw [List.getElem?_eq_getElem hj] at hy
  exact Option.some.inj hy ▸ hp.2
theorem own_none (w : World) (E : TypeId) (k : Nat) : (w.alloc (.cells #[] E)).ownsRow w.heap.size E k (.slice (some ⟨w.heap.size, 0, none⟩) 0 0) 0 [] :=
  World.ownsRow_lit w #[] 0 (Nat.le_refl _) (by simp [maxLen]) (by simp)
theorem flatMap_app {α β : Type} (f : α → List β) (l m : List α) : (l ++ m).flatMap f = l.flatMap f ++ m.flatMap f := List.flatMap_append

theorem info_of {P : Program} {E : TypeId} {z : Value} {k b : Nat} (h : (P.info? E).map (fun i => (i.zero, i.size, i.bytes)) = some (some z, k, b)) : ∃ i, P.info? E = some i ∧ i.zero = some z ∧ i.size = k ∧ i.bytes = b := by
  cases hi : P.info? E with
  | none => rw [hi] at h; cases h
  | some i =>
    rw [hi] at h
    simp only [Option.map_some, Option.some.injEq, Prod.mk.injEq] at h
    exact ⟨i, rfl, h.1, h.2.1, h.2.2⟩
theorem dutinfo : (Try.prog.info? 116).map (fun i => (i.zero, i.size, i.bytes)) = some (some (.agg #[.int .i64 0, .int .i64 0, .string ⟨#[]⟩]), 3, 32) := by kernel_rfl
theorem nodinfo : (Try.prog.info? 113).map (fun i => (i.zero, i.size, i.bytes)) = some (some (.agg #[.int .i64 0, .int .i64 0, .int .i64 0, .string ⟨#[]⟩, .int .i64 0, .string ⟨#[]⟩, .bool false]), 7, 72) := by kernel_rfl
theorem append_duts {w : World} {base n c m c2 ty : Nat} {R : Nat → Prop} {A A2 : Option Addr} {xs ys : List Dut} (h : w.ownsRow base 116 3 (.slice A n c) n (xs.flatMap Dut.cells)) (hy : Dus w R A2 m c2 ys) (hn : n + m ≤ 1000000) (hbase : base ≤ w.heap.size) :
    ∃ A' c' w', (Builtin.append_ #[72, 72] ty #[.slice A n c, .slice A2 m c2]).run Try.prog w = .ok (.slice A' (n + m) c') w' ∧
      w'.ownsRow base 116 3 (.slice A' (n + m) c') (n + m) ((xs ++ ys).flatMap Dut.cells) ∧ Below base w w' ∧ w.grownBy w' (Value.slice A n c).ownBlock ∧
      ((Value.slice A' (n + m) c').ownBlock = (Value.slice A n c).ownBlock ∨ (Value.slice A' (n + m) c').ownBlock = some w.heap.size) := by
  obtain ⟨i, hi, hz, hs, hb⟩ := info_of dutinfo
  rw [flatMap_app]
  exact append_rows Try.underlying72 hi hz hs hb rfl (by omega) (by omega) h hy.fl hn hbase
theorem append_nods {w : World} {base n c m c2 ty : Nat} {R : Nat → Prop} {A A2 : Option Addr} {xs ys : List Nod} (h : w.ownsRow base 113 7 (.slice A n c) n (xs.flatMap Nod.cells)) (hy : Nds w R A2 m c2 ys) (hn : n + m ≤ 1000000) (hbase : base ≤ w.heap.size) :
    ∃ A' c' w', (Builtin.append_ #[109, 109] ty #[.slice A n c, .slice A2 m c2]).run Try.prog w = .ok (.slice A' (n + m) c') w' ∧
      w'.ownsRow base 113 7 (.slice A' (n + m) c') (n + m) ((xs ++ ys).flatMap Nod.cells) ∧ Below base w w' ∧ w.grownBy w' (Value.slice A n c).ownBlock ∧
      ((Value.slice A' (n + m) c').ownBlock = (Value.slice A n c).ownBlock ∨ (Value.slice A' (n + m) c').ownBlock = some w.heap.size) := by
  obtain ⟨i, hi, hz, hs, hb⟩ := info_of nodinfo
  rw [flatMap_app]
  exact append_rows Try.underlying109 hi hz hs hb rfl (by omega) (by omega) h hy.fl hn hbase

/-- append(append([]T{}, a...), b...). -/
theorem both_dus {w : World} {R : Nat → Prop} {A0 A1 : Option Addr} {p0 c0 p1 c1 q : Nat} {L0 L1 : List Dut} (h0 : Dus w R A0 p0 c0 L0) (h1 : Dus w R A1 p1 c1 L1) (h : p0 + p1 ≤ 1000000) (hq : q = p0 + p1) :
    ∃ A5 c5 w5 A6 c6 w6, (Builtin.append_ #[72, 72] 72 #[.slice (some ⟨w.heap.size, 0, none⟩) 0 0, .slice A0 p0 c0]).run Try.prog (w.alloc (.cells #[] 116)) = .ok (.slice A5 p0 c5) w5 ∧
      (Builtin.append_ #[72, 72] 72 #[.slice A5 p0 c5, .slice A1 p1 c1]).run Try.prog w5 = .ok (.slice A6 q c6) w6 ∧ Below w.heap.size w w6 ∧ Dus w6 (fun _ => True) A6 q c6 (L0 ++ L1) ∧ w6.ownsRow w.heap.size 116 3 (.slice A6 q c6) q ((L0 ++ L1).flatMap Dut.cells) := by
  subst hq
  have e1 : Below w.heap.size w (w.alloc (.cells #[] 116)) := (Below.refl _ _).alloc (Nat.le_refl _) _
  obtain ⟨A5, c5, w5, r5, o5, b5, _, _⟩ := append_duts (ty := 72) (xs := []) (own_none w 116 3) (h0.keep (Kept.all e1 R) (fun _ h _ => h)) (by omega) e1.size
  rw [Nat.zero_add] at r5 o5
  have e5 := e1.trans b5
  obtain ⟨A6, c6, w6, r6, o6, b6, _, _⟩ := append_duts (ty := 72) o5 (h1.keep (Kept.all e5 R) (fun _ h _ => h)) h e5.size
  refine ⟨A5, c5, w5, A6, c6, w6, r5, r6, e5.trans b6, ?_, o6⟩
  exact Rw.flat_own o6 (by omega) (by rw [List.length_append, Rw.len h0, Rw.len h1]) (fun _ => rfl) (fun x hx => (List.mem_append.1 hx).elim (Rw.all h0 x) (Rw.all h1 x)) (fun _ _ _ => trivial)
/-- append([]T{}, x). -/
theorem both_dus_one {w : World} (x : Dut) (hx : x.ok) :
    ∃ A5 c5 w5, (Builtin.append_ #[72, 72] 72 #[.slice (some ⟨w.heap.size, 0, none⟩) 0 0, .slice (some ⟨w.heap.size + 1, 0, none⟩) 1 1]).run Try.prog ((w.alloc (.cells #[] 116)).alloc (.cells x.cells.toArray 116)) = .ok (.slice A5 1 c5) w5 ∧
      Below w.heap.size w w5 ∧ Dus w5 (fun _ => True) A5 1 c5 [x] := by
  have h1 := Rw.lit (k := 3) (R := fun _ => True) (P := fun vs (y : Dut) => vs = y.cells ∧ y.ok) (w.alloc (.cells #[] 116)) 116 Dut.cells [x] (n := 1) rfl (by omega) trivial (fun _ _ => rfl) (fun y hy => ⟨rfl, by simp at hy; subst hy; exact hx⟩)
  rw [size_al] at h1
  have e1 : Below w.heap.size w ((w.alloc (.cells #[] 116)).alloc (.cells (List.flatMap Dut.cells [x]).toArray 116)) := ((Below.refl _ _).alloc (Nat.le_refl _) _).alloc (by simp only [size_al]; omega) _
  obtain ⟨A5, c5, w5, r5, o5, b5, _, _⟩ := append_duts (ty := 72) (xs := []) ((own_none w 116 3).alloc (.cells (List.flatMap Dut.cells [x]).toArray 116)) h1 (by omega) e1.size
  rw [Nat.zero_add] at r5 o5
  refine ⟨A5, c5, w5, by simpa using r5, e1.trans b5, ?_⟩
  exact Rw.flat_own o5 (by omega) rfl (fun _ => rfl) (fun y hy => by simp at hy; subst hy; exact hx) (fun _ _ _ => trivial)

/-- append(append([]T{}, a...), b...). -/
theorem both_nds {w : World} {R : Nat → Prop} {A0 A1 : Option Addr} {p0 c0 p1 c1 q : Nat} {L0 L1 : List Nod} (h0 : Nds w R A0 p0 c0 L0) (h1 : Nds w R A1 p1 c1 L1) (h : p0 + p1 ≤ 1000000) (hq : q = p0 + p1) :
    ∃ A5 c5 w5 A6 c6 w6, (Builtin.append_ #[109, 109] 109 #[.slice (some ⟨w.heap.size, 0, none⟩) 0 0, .slice A0 p0 c0]).run Try.prog (w.alloc (.cells #[] 113)) = .ok (.slice A5 p0 c5) w5 ∧
      (Builtin.append_ #[109, 109] 109 #[.slice A5 p0 c5, .slice A1 p1 c1]).run Try.prog w5 = .ok (.slice A6 q c6) w6 ∧ Below w.heap.size w w6 ∧ Nds w6 (fun _ => True) A6 q c6 (L0 ++ L1) ∧ w6.ownsRow w.heap.size 113 7 (.slice A6 q c6) q ((L0 ++ L1).flatMap Nod.cells) := by
  subst hq
  have e1 : Below w.heap.size w (w.alloc (.cells #[] 113)) := (Below.refl _ _).alloc (Nat.le_refl _) _
  obtain ⟨A5, c5, w5, r5, o5, b5, _, _⟩ := append_nods (ty := 109) (xs := []) (own_none w 113 7) (h0.keep (Kept.all e1 R) (fun _ h _ => h)) (by omega) e1.size
  rw [Nat.zero_add] at r5 o5
  have e5 := e1.trans b5
  obtain ⟨A6, c6, w6, r6, o6, b6, _, _⟩ := append_nods (ty := 109) o5 (h1.keep (Kept.all e5 R) (fun _ h _ => h)) h e5.size
  refine ⟨A5, c5, w5, A6, c6, w6, r5, r6, e5.trans b6, ?_, o6⟩
  exact Rw.flat_own o6 (by omega) (by rw [List.length_append, Rw.len h0, Rw.len h1]) (fun _ => rfl) (fun x hx => (List.mem_append.1 hx).elim (Rw.all h0 x) (Rw.all h1 x)) (fun _ _ _ => trivial)
/-- append([]T{}, x). -/
theorem both_nds_one {w : World} (x : Nod) (hx : x.ok) :
    ∃ A5 c5 w5, (Builtin.append_ #[109, 109] 109 #[.slice (some ⟨w.heap.size, 0, none⟩) 0 0, .slice (some ⟨w.heap.size + 1, 0, none⟩) 1 1]).run Try.prog ((w.alloc (.cells #[] 113)).alloc (.cells x.cells.toArray 113)) = .ok (.slice A5 1 c5) w5 ∧
      Below w.heap.size w w5 ∧ Nds w5 (fun _ => True) A5 1 c5 [x] := by
  have h1 := Rw.lit (k := 7) (R := fun _ => True) (P := fun vs (y : Nod) => vs = y.cells ∧ y.ok) (w.alloc (.cells #[] 113)) 113 Nod.cells [x] (n := 1) rfl (by omega) trivial (fun _ _ => rfl) (fun y hy => ⟨rfl, by simp at hy; subst hy; exact hx⟩)
  rw [size_al] at h1
  have e1 : Below w.heap.size w ((w.alloc (.cells #[] 113)).alloc (.cells (List.flatMap Nod.cells [x]).toArray 113)) := ((Below.refl _ _).alloc (Nat.le_refl _) _).alloc (by simp only [size_al]; omega) _
  obtain ⟨A5, c5, w5, r5, o5, b5, _, _⟩ := append_nods (ty := 109) (xs := []) ((own_none w 113 7).alloc (.cells (List.flatMap Nod.cells [x]).toArray 113)) h1 (by omega) e1.size
  rw [Nat.zero_add] at r5 o5
  refine ⟨A5, c5, w5, by simpa using r5, e1.trans b5, ?_⟩
  exact Rw.flat_own o5 (by omega) rfl (fun _ => rfl) (fun y hy => by simp at hy; subst hy; exact hx) (fun _ _ _ => trivial)
end Go.Proofs.Ytjpkemamfccfdaa
/- Rows of the call's own whose elements lead to memory: append. -/
namespace Go.Proofs.Ytjpkemamfccfdaa
set_option linter.unusedVariables false
open Go.RowKit

/-- A row of the call's own, of so many cells each, which say l. -/
def Ow {α : Type} (k : Nat) (P : List Value → α → Prop) (w : World) (base : Nat) (E : TypeId) (A : Option Addr) (n c : Nat) (l : List α) : Prop :=
  ∃ raw : List (List Value), w.ownsRow base E k (.slice A n c) n raw.flatten ∧ raw.length = n ∧ l.length = n ∧ (∀ y ∈ raw, y.length = k) ∧ ∀ (j : Nat) (vs : List Value) (x : α), raw[j]? = some vs → l[j]? = some x → P vs x
section
variable {α : Type} {k : Nat} {P P' : List Value → α → Prop} {w w' : World} {base : Nat} {E : TypeId} {A : Option Addr} {n c : Nat} {l : List α}
theorem Ow.len (h : Ow k P w base E A n c l) : l.length = n := by obtain ⟨_, _, _, h, _⟩ := h; exact h
theorem Ow.made (k : Nat) (P : List Value → α → Prop) (w : World) (E : TypeId) : Ow k P (w.alloc (.cells #[] E)) w.heap.size E (some ⟨w.heap.size, 0, none⟩) 0 0 [] :=
  ⟨[], own_none w E k, rfl, rfl, by simp, by simp⟩
theorem Ow.nil (k : Nat) (P : List Value → α → Prop) (w : World) (base : Nat) (E : TypeId) : Ow k P w base E none 0 0 [] :=
  ⟨[], ⟨by simp, .inl ⟨rfl, rfl⟩⟩, rfl, rfl, by simp, by simp⟩
theorem Ow.mapP (h : Ow k P w base E A n c l) (hP : ∀ vs x, x ∈ l → P vs x → P' vs x) : Ow k P' w base E A n c l := by
  obtain ⟨raw, h1, h2, h3, h4, h5⟩ := h
  exact ⟨raw, h1, h2, h3, h4, fun j vs x a b => hP vs x (List.mem_of_getElem? b) (h5 j vs x a b)⟩
theorem Ow.grown (h : Ow k P w base E A n c l) {row : Option Nat} (hg : w.grownBy w' row) (hne : (Value.slice A n c).ownBlock = none ∨ (Value.slice A n c).ownBlock ≠ row) : Ow k P w' base E A n c l := by
  obtain ⟨raw, h1, h2, h3, h4, h5⟩ := h
  exact ⟨raw, h1.kept (row := row) hg hne, h2, h3, h4, h5⟩
theorem Ow.below (h : Ow k P w base E A n c l) (hb : Below w.heap.size w w') : Ow k P w' base E A n c l := by
  refine h.grown (row := none) ⟨hb.os, hb.tape, hb.output, hb.size, fun k hk _ => hb.block k hk⟩ ?_
  by_cases hv : (Value.slice A n c).ownBlock = none
  · exact .inl hv
  · exact .inr hv
theorem Ow.alloc (h : Ow k P w base E A n c l) (o : Obj) : Ow k P (w.alloc o) base E A n c l := h.below ((Below.refl _ _).alloc (Nat.le_refl _) _)
theorem Ow.rw {R : Nat → Prop} (h : Ow k P w base E A n c l) (hbig : n ≤ 140737488351232) (hR : ∀ ad, A = some ad → base ≤ ad.block → R ad.block) : Rw k P w R A n c l := by
  obtain ⟨raw, h1, h2, h3, h4, h5⟩ := h
  exact Rw.of_own h1 hbig h2 h3 h4 h5 hR
theorem Ow.app {Pg : Program} {T : TypeId} {i : TypeInfo} {z : Value} {by_ : Nat} (ht : Pg.underlying T = some (.slice E)) (hi : Pg.info? E = some i) (hz : i.zero = some z) (hs : i.size = k) (hb : i.bytes = by_) (hzs : z.cells.size = k) (hk : 0 < k) (hby : by_ ≤ 1000)
    {m c2 ty : Nat} {A2 : Option Addr} {R : Nat → Prop} {ys : List α} (h : Ow k P w base E A n c l) (hy : Rw k P w R A2 m c2 ys) (h1 : ∀ vs x, P vs x → ∀ v ∈ vs, v.oneCell' = true) (hn : n + m ≤ 1000000) (hbase : base ≤ w.heap.size) :
    ∃ A' c' w', (Builtin.append_ #[T, T] ty #[.slice A n c, .slice A2 m c2]).run Pg w = .ok (.slice A' (n + m) c') w' ∧ Ow k P w' base E A' (n + m) c' (l ++ ys) ∧ Below base w w' ∧ w.grownBy w' (Value.slice A n c).ownBlock ∧
      ((Value.slice A' (n + m) c').ownBlock = (Value.slice A n c).ownBlock ∨ (Value.slice A' (n + m) c').ownBlock = some w.heap.size) := by
  obtain ⟨raw, o1, o2, o3, o4, o5⟩ := h
  obtain ⟨raw2, r1, r2, r3, r4⟩ := hy.fl hk h1
  obtain ⟨A', c', w', hrun, hown, hbel, hg, ha⟩ := append_rows (ty := ty) (c2 := c2) ht hi hz hs hb hzs hk hby o1 r4 hn hbase
  refine ⟨A', c', w', hrun, ⟨raw ++ raw2, by rw [List.flatten_append]; exact hown, by rw [List.length_append, o2, r1], by rw [List.length_append, o3, hy.1], fun y hy => (List.mem_append.1 hy).elim (o4 y) (r2 y), fun j vs x a b => ?_⟩, hbel, hg, ha⟩
  by_cases hj : j < n
  · rw [List.getElem?_append_left (by omega)] at a b
    exact o5 j vs x a b
  · rw [List.getElem?_append_right (by omega)] at a b
    rw [o2] at a
    rw [o3] at b
    exact r3 (j - n) vs x a b
end

/-- Cells of slices. -/
def AlP (w : World) (R : Nat → Prop) (vs : List Value) (l : List Mat) : Prop := ∃ A n c, vs = [.slice A n c] ∧ Ms w R A n c l
def AnP (w : World) (R : Nat → Prop) (vs : List Value) (l : List (List Mat)) : Prop := ∃ A n c, vs = [.slice A n c] ∧ Als w R A n c l
theorem AlP.one {w : World} {R : Nat → Prop} (vs : List Value) (l : List Mat) (h : AlP w R vs l) : ∀ v ∈ vs, v.oneCell' = true := by
  obtain ⟨A, n, c, rfl, _⟩ := h
  intro v hv
  simp at hv
  subst hv
  rfl
theorem AnP.one {w : World} {R : Nat → Prop} (vs : List Value) (l : List (List Mat)) (h : AnP w R vs l) : ∀ v ∈ vs, v.oneCell' = true := by
  obtain ⟨A, n, c, rfl, _⟩ := h
  intro v hv
  simp at hv
  subst hv
  rfl
theorem AnP.keep {w w' : World} {R R' : Nat → Prop} {vs : List Value} {l : List (List Mat)} (h : AnP w R vs l) (hk : Kept R w w') (hR : ∀ b, R b → b < w.heap.size → R' b) : AnP w' R' vs l := by
  obtain ⟨A, n, c, e, h⟩ := h
  exact ⟨A, n, c, e, h.keep hk hR⟩
theorem AlP.keep {w w' : World} {R R' : Nat → Prop} {vs : List Value} {l : List Mat} (h : AlP w R vs l) (hk : Kept R w w') (hR : ∀ b, R b → b < w.heap.size → R' b) : AlP w' R' vs l := by
  obtain ⟨A, n, c, e, h⟩ := h
  exact ⟨A, n, c, e, h.keep hk hR⟩
theorem s1info : (Try.prog.info? 37).map (fun i => (i.zero, i.size, i.bytes)) = some (some (.slice none 0 0), 1, 24) := by kernel_rfl
theorem s0info : (Try.prog.info? 36).map (fun i => (i.zero, i.size, i.bytes)) = some (some (.slice none 0 0), 1, 24) := by kernel_rfl
/-- append to a target. -/
theorem append_anys {w : World} {base n c m c2 ty : Nat} {R R2 : Nat → Prop} {A A2 : Option Addr} {xs ys : Tgt} (h : Ow 1 (AnP w R2) w base 37 A n c xs) (hy : Rw 1 (AnP w R2) w R A2 m c2 ys) (hn : n + m ≤ 1000000) (hbase : base ≤ w.heap.size) :
    ∃ A' c' w', (Builtin.append_ #[34, 34] ty #[.slice A n c, .slice A2 m c2]).run Try.prog w = .ok (.slice A' (n + m) c') w' ∧ Ow 1 (AnP w R2) w' base 37 A' (n + m) c' (xs ++ ys) ∧ Below base w w' ∧ w.grownBy w' (Value.slice A n c).ownBlock ∧
      ((Value.slice A' (n + m) c').ownBlock = (Value.slice A n c).ownBlock ∨ (Value.slice A' (n + m) c').ownBlock = some w.heap.size) := by
  obtain ⟨i, hi, hz, hs, hb⟩ := info_of s1info
  exact Ow.app Try.underlying34 hi hz hs hb rfl (by omega) (by omega) h hy AnP.one hn hbase
theorem any_mono {w : World} {R : Nat → Prop} {A : Option Addr} {n c : Nat} {l : Tgt} (h : Tg w R A n c l) : Tg w (fun b => b < w.heap.size) A n c l := h.keep (Kept.refl _ _) fun _ _ h => h

/-- append(append(Target{}, a...), b...). -/
theorem both_tg {w : World} {R : Nat → Prop} {A0 A1 : Option Addr} {p0 c0 p1 c1 q : Nat} {L0 L1 : Tgt} (h0 : Tg w R A0 p0 c0 L0) (h1 : Tg w R A1 p1 c1 L1) (h : p0 + p1 ≤ 1000000) (hq : q = p0 + p1) :
    ∃ A5 c5 w5 A6 c6 w6, (Builtin.append_ #[34, 34] 34 #[.slice (some ⟨w.heap.size, 0, none⟩) 0 0, .slice A0 p0 c0]).run Try.prog (w.alloc (.cells #[] 37)) = .ok (.slice A5 p0 c5) w5 ∧
      (Builtin.append_ #[34, 34] 34 #[.slice A5 p0 c5, .slice A1 p1 c1]).run Try.prog w5 = .ok (.slice A6 q c6) w6 ∧ Below w.heap.size w w6 ∧ Tg w6 (fun _ => True) A6 q c6 (L0 ++ L1) := by
  subst hq
  have e1 : Below w.heap.size w (w.alloc (.cells #[] 37)) := (Below.refl _ _).alloc (Nat.le_refl _) _
  have hlow0 := h0.keep (Kept.all e1 R) (fun b _ hb => hb) (R' := fun b => b < w.heap.size)
  obtain ⟨A5, c5, w5, r5, o5, b5, _, _⟩ := append_anys (ty := 34) (xs := []) (Ow.made 1 (AnP (w.alloc (.cells #[] 37)) (fun b => b < w.heap.size)) w 37) hlow0 (by omega) e1.size
  rw [Nat.zero_add] at r5 o5
  have e5 := e1.trans b5
  have o5' := o5.mapP (P' := AnP w5 (fun b => b < w.heap.size)) (fun vs x _ hp => hp.keep (Kept.below b5 (fun b hb _ => hb)) (fun b hb _ => hb))
  have hlow1 := h1.keep (Kept.all e5 R) (fun b _ hb => hb) (R' := fun b => b < w.heap.size)
  obtain ⟨A6, c6, w6, r6, o6, b6, _, _⟩ := append_anys (ty := 34) o5' hlow1 h e5.size
  refine ⟨A5, c5, w5, A6, c6, w6, r5, r6, e5.trans b6, ?_⟩
  exact (o6.mapP (P' := AnP w6 (fun _ => True)) (fun vs x _ hp => hp.keep (Kept.below b6 (fun b hb _ => hb)) (fun _ _ _ => trivial))).rw (by omega) (fun _ _ _ => trivial)
/-- append(append(Target{}, a...), nil). -/
theorem hollow_tg {w : World} {R : Nat → Prop} {A0 : Option Addr} {p0 c0 : Nat} {L0 : Tgt} (h0 : Tg w R A0 p0 c0 L0) (h : p0 < 1000000) :
    ∃ A5 c5 w5 A6 c6 w6, (Builtin.append_ #[34, 34] 34 #[.slice (some ⟨w.heap.size, 0, none⟩) 0 0, .slice A0 p0 c0]).run Try.prog (w.alloc (.cells #[] 37)) = .ok (.slice A5 p0 c5) w5 ∧
      (Builtin.append_ #[34, 34] 34 #[.slice A5 p0 c5, .slice (some ⟨w5.heap.size, 0, none⟩) 1 1]).run Try.prog (w5.alloc (.cells #[.slice none 0 0] 37)) = .ok (.slice A6 (p0 + 1) c6) w6 ∧ Below w.heap.size w w6 ∧ Tg w6 (fun _ => True) A6 (p0 + 1) c6 (L0 ++ [[]]) := by
  have e1 : Below w.heap.size w (w.alloc (.cells #[] 37)) := (Below.refl _ _).alloc (Nat.le_refl _) _
  have hlow0 := h0.keep (Kept.all e1 R) (fun b _ hb => hb) (R' := fun b => b < w.heap.size)
  obtain ⟨A5, c5, w5, r5, o5, b5, _, _⟩ := append_anys (ty := 34) (xs := []) (Ow.made 1 (AnP (w.alloc (.cells #[] 37)) (fun b => b < w.heap.size)) w 37) hlow0 (by omega) e1.size
  rw [Nat.zero_add] at r5 o5
  have e5 := e1.trans b5
  have b7 : Below w5.heap.size w5 (w5.alloc (.cells #[.slice none 0 0] 37)) := (Below.refl _ _).alloc (Nat.le_refl _) _
  have o5' := (o5.mapP (P' := AnP (w5.alloc (.cells #[.slice none 0 0] 37)) (fun b => b < w.heap.size)) (fun vs x _ hp => hp.keep (Kept.below (b5.trans (b7.mono e5.size)) (fun b hb _ => hb)) (fun b hb _ => hb))).alloc (.cells #[.slice none 0 0] 37)
  have hlit : Rw 1 (AnP (w5.alloc (.cells #[.slice none 0 0] 37)) (fun b => b < w.heap.size)) (w5.alloc (.cells #[.slice none 0 0] 37)) (fun _ => True) (some ⟨w5.heap.size, 0, none⟩) 1 1 [[]] :=
    Rw.lit (k := 1) w5 37 (fun _ => [.slice none 0 0]) [[]] (n := 1) rfl (by omega) trivial (fun _ _ => rfl) (fun x hx => ⟨none, 0, 0, rfl, by simp at hx; subst hx; exact Rw.nil_ _ _ _ _⟩)
  obtain ⟨A6, c6, w6, r6, o6, b6, _, _⟩ := append_anys (ty := 34) o5' hlit (by omega) (e5.trans (b7.mono e5.size)).size
  refine ⟨A5, c5, w5, A6, c6, w6, r5, r6, (e5.trans (b7.mono e5.size)).trans b6, ?_⟩
  exact (o6.mapP (P' := AnP w6 (fun _ => True)) (fun vs x _ hp => hp.keep (Kept.below b6 (fun b hb _ => hb)) (fun _ _ _ => trivial))).rw (by omega) (fun _ _ _ => trivial)
end Go.Proofs.Ytjpkemamfccfdaa
/- Rows of the call's own that grow by one, whose elements lead to memory apart from the row itself. -/
namespace Go.Proofs.Ytjpkemamfccfdaa
set_option linter.unusedVariables false
open Go.RowKit

/-- The blocks from base on but for the row's own. -/
def Nb (base : Nat) (v : Value) (b : Nat) : Prop := base ≤ b ∧ some b ≠ v.ownBlock
/-- Elements that are kept where the memory that they lead to is. -/
def Keeps {α : Type} (P : World → (Nat → Prop) → List Value → α → Prop) : Prop :=
  ∀ (w w' : World) (R R' : Nat → Prop) vs x, P w R vs x → Kept R w w' → (∀ b, R b → b < w.heap.size → R' b) → P w' R' vs x
def Gr {α : Type} (k : Nat) (P : World → (Nat → Prop) → List Value → α → Prop) (w : World) (base : Nat) (E : TypeId) (A : Option Addr) (n c : Nat) (l : List α) : Prop :=
  Ow k (P w (Nb base (.slice A n c))) w base E A n c l ∧ base ≤ w.heap.size

section
variable {α : Type} {k : Nat} {P : World → (Nat → Prop) → List Value → α → Prop} {w w' : World} {base : Nat} {E : TypeId} {A : Option Addr} {n c : Nat} {l : List α}
theorem Ow.lt {P : List Value → α → Prop} (h : Ow k P w base E A n c l) : ∀ b, (Value.slice A n c).ownBlock = some b → base ≤ b ∧ b < w.heap.size := by
  obtain ⟨raw, h1, _⟩ := h
  exact h1.lt
theorem Gr.nil (w : World) (base : Nat) (hb : base ≤ w.heap.size) : Gr k P w base E none 0 0 [] := ⟨Ow.nil _ _ _ _ _, hb⟩
theorem Gr.len (h : Gr k P w base E A n c l) : l.length = n := h.1.len
theorem Gr.below (hP : Keeps P) (h : Gr k P w base E A n c l) (hb : Below w.heap.size w w') : Gr k P w' base E A n c l :=
  ⟨(h.1.mapP (fun vs x _ hp => hP _ _ _ _ vs x hp (Kept.all hb _) (fun _ h _ => h))).below hb, Nat.le_trans h.2 hb.size⟩
/-- It reads as its list; row and elements lie from base on. -/
theorem Gr.rw (hP : Keeps P) (h : Gr k P w base E A n c l) (hbig : n ≤ 140737488351232) : Rw k (P w (fun b => base ≤ b)) w (fun b => base ≤ b) A n c l :=
  (h.1.mapP (fun vs x _ hp => hP _ _ _ (fun b => base ≤ b) vs x hp (Kept.refl _ _) (fun _ h _ => h.1))).rw hbig (fun _ _ h => h)
/-- One more, laid behind as a literal. -/
theorem Gr.push {Pg : Program} {T : TypeId} {i : TypeInfo} {z : Value} {by_ : Nat} (ht : Pg.underlying T = some (.slice E)) (hi : Pg.info? E = some i) (hz : i.zero = some z) (hs : i.size = k) (hb : i.bytes = by_) (hzs : z.cells.size = k) (hk : 0 < k) (hby : by_ ≤ 1000)
    {ty : Nat} {vs : List Value} {x : α} (hP : Keeps P) (h : Gr k P w base E A n c l) (hx : P w (Nb base (.slice A n c)) vs x) (hl : vs.length = k) (h1 : ∀ w R vs (x : α), P w R vs x → ∀ v ∈ vs, v.oneCell' = true) (hn : n < 1000000) :
    ∃ A' c' w', (Builtin.append_ #[T, T] ty #[.slice A n c, .slice (some ⟨w.heap.size, 0, none⟩) 1 1]).run Pg (w.alloc (.cells vs.toArray E)) = .ok (.slice A' (n + 1) c') w' ∧ Gr k P w' base E A' (n + 1) c' (l ++ [x]) ∧ Below base w w' := by
  have hbase := h.2
  have a1 : Below w.heap.size w (w.alloc (.cells vs.toArray E)) := (Below.refl _ _).alloc (Nat.le_refl _) _
  have h' := Gr.below hP h a1
  have hlit : Rw k (P (w.alloc (.cells vs.toArray E)) (Nb base (.slice A n c))) (w.alloc (.cells vs.toArray E)) (fun _ => True) (some ⟨w.heap.size, 0, none⟩) 1 1 [x] := by
    have := Rw.lit (P := P (w.alloc (.cells vs.toArray E)) (Nb base (.slice A n c))) (R := fun _ => True) w E (fun _ => vs) [x] (n := 1) rfl (by omega) trivial (fun _ _ => hl) (fun y hy => by simp at hy; subst hy; exact hP _ _ _ _ _ _ hx (Kept.all a1 _) (fun _ h _ => h))
    simpa using this
  obtain ⟨A', c', w', hrun, hown, hbel, hg, hob⟩ := Ow.app (ty := ty) ht hi hz hs hb hzs hk hby h'.1 hlit (h1 _ _) (by omega) h'.2
  refine ⟨A', c', w', hrun, ⟨hown.mapP fun vs x _ hp => hP _ _ _ _ vs x hp ⟨hg.size, fun b hR hlt => hg.block b hlt hR.2⟩ (fun b hR hlt => ⟨hR.1, ?_⟩), Nat.le_trans h'.2 hbel.size⟩, (a1.mono hbase).trans hbel⟩
  rcases hob with e | e
  · rw [e]; exact hR.2
  · rw [e]
    intro he
    injection he with he
    omega
end
theorem keeps_alp : Keeps AlP := fun _ _ _ _ _ _ h hk hR => h.keep hk hR
theorem keeps_anp : Keeps AnP := fun _ _ _ _ _ _ h hk hR => h.keep hk hR
theorem keeps_rul : Keeps RulAt := fun _ _ _ _ _ _ h hk hR => h.keep hk hR
theorem keeps_pol (d : Nat) : Keeps (fun w R => PolAt w R d) := fun _ _ _ _ _ _ h hk hR => PolAt.keep hk hR h
theorem matinfo : (Try.prog.info? 28).map (fun i => (i.zero, i.size, i.bytes)) = some (some (.agg #[.int .i64 0, .string ⟨#[]⟩, .bool false, .int .i64 0, .int .i64 0, .int .i64 0, .string ⟨#[]⟩]), 7, 72) := by kernel_rfl
/-- append([]Match{}, a...). -/
theorem copy_mats {w : World} {R : Nat → Prop} {A0 : Option Addr} {p0 c0 : Nat} {L0 : List Mat} (h0 : Ms w R A0 p0 c0 L0) (h : p0 ≤ 1000000) :
    ∃ A5 c5 w5, (Builtin.append_ #[36, 36] 36 #[.slice (some ⟨w.heap.size, 0, none⟩) 0 0, .slice A0 p0 c0]).run Try.prog (w.alloc (.cells #[] 28)) = .ok (.slice A5 p0 c5) w5 ∧ Below w.heap.size w w5 ∧ Ms w5 (fun b => w.heap.size ≤ b) A5 p0 c5 L0 := by
  have e1 : Below w.heap.size w (w.alloc (.cells #[] 28)) := (Below.refl _ _).alloc (Nat.le_refl _) _
  obtain ⟨i, hi, hz, hs, hb⟩ := info_of matinfo
  obtain ⟨A5, c5, w5, r5, o5, b5, _, _⟩ := append_rows (ty := 36) (c2 := c0) (m := p0) Try.underlying36 hi hz hs hb rfl (by omega) (by omega) (own_none w 28 7) (Ms.fl (h0.keep (Kept.all e1 R) (fun _ h _ => h))) (by omega) e1.size
  rw [Nat.zero_add] at r5 o5
  refine ⟨A5, c5, w5, r5, e1.trans b5, ?_⟩
  exact Rw.flat_own o5 (by omega) (Rw.len h0) (fun _ => rfl) (Rw.all h0) (fun _ _ h => h)
theorem copy_duts {w : World} {R : Nat → Prop} {A0 : Option Addr} {p0 c0 : Nat} {L0 : List Dut} (h0 : Dus w R A0 p0 c0 L0) (h : p0 ≤ 1000000) :
    ∃ A5 c5 w5, (Builtin.append_ #[72, 72] 72 #[.slice (some ⟨w.heap.size, 0, none⟩) 0 0, .slice A0 p0 c0]).run Try.prog (w.alloc (.cells #[] 116)) = .ok (.slice A5 p0 c5) w5 ∧ Below w.heap.size w w5 ∧ Dus w5 (fun b => w.heap.size ≤ b) A5 p0 c5 L0 := by
  have e1 : Below w.heap.size w (w.alloc (.cells #[] 116)) := (Below.refl _ _).alloc (Nat.le_refl _) _
  obtain ⟨A5, c5, w5, r5, o5, b5, _, _⟩ := append_duts (ty := 72) (xs := []) (own_none w 116 3) (h0.keep (Kept.all e1 R) (fun _ h _ => h)) (by omega) e1.size
  rw [Nat.zero_add] at r5 o5
  refine ⟨A5, c5, w5, r5, e1.trans b5, ?_⟩
  exact Rw.flat_own o5 (by omega) (Rw.len h0) (fun _ => rfl) (Rw.all h0) (fun _ _ h => h)
theorem copy_nods {w : World} {R : Nat → Prop} {A0 : Option Addr} {p0 c0 : Nat} {L0 : List Nod} (h0 : Nds w R A0 p0 c0 L0) (h : p0 ≤ 1000000) :
    ∃ A5 c5 w5, (Builtin.append_ #[109, 109] 109 #[.slice (some ⟨w.heap.size, 0, none⟩) 0 0, .slice A0 p0 c0]).run Try.prog (w.alloc (.cells #[] 113)) = .ok (.slice A5 p0 c5) w5 ∧ Below w.heap.size w w5 ∧ Nds w5 (fun b => w.heap.size ≤ b) A5 p0 c5 L0 := by
  have e1 : Below w.heap.size w (w.alloc (.cells #[] 113)) := (Below.refl _ _).alloc (Nat.le_refl _) _
  obtain ⟨A5, c5, w5, r5, o5, b5, _, _⟩ := append_nods (ty := 109) (xs := []) (own_none w 113 7) (h0.keep (Kept.all e1 R) (fun _ h _ => h)) (by omega) e1.size
  rw [Nat.zero_add] at r5 o5
  refine ⟨A5, c5, w5, r5, e1.trans b5, ?_⟩
  exact Rw.flat_own o5 (by omega) (Rw.len h0) (fun _ => rfl) (Rw.all h0) (fun _ _ h => h)
/-- One more AllOf, one more AnyOf. -/
theorem push_all {w : World} {base n c : Nat} {A : Option Addr} {l : List (List Mat)} {A1 : Option Addr} {n1 c1 : Nat} {x : List Mat} (h : Gr 1 AlP w base 36 A n c l) (hx : Ms w (Nb base (.slice A n c)) A1 n1 c1 x) (hn : n < 1000000) :
    ∃ A' c' w', (Builtin.append_ #[37, 37] 37 #[.slice A n c, .slice (some ⟨w.heap.size, 0, none⟩) 1 1]).run Try.prog (w.alloc (.cells #[.slice A1 n1 c1] 36)) = .ok (.slice A' (n + 1) c') w' ∧ Gr 1 AlP w' base 36 A' (n + 1) c' (l ++ [x]) ∧ Below base w w' := by
  obtain ⟨i, hi, hz, hs, hb⟩ := info_of s0info
  exact Gr.push (vs := [.slice A1 n1 c1]) (x := x) Try.underlying37 hi hz hs hb rfl (by omega) (by omega) keeps_alp h ⟨A1, n1, c1, rfl, hx⟩ rfl (fun _ _ _ _ => AlP.one _ _) hn
theorem push_any {w : World} {base n c : Nat} {A : Option Addr} {l : Tgt} {A1 : Option Addr} {n1 c1 : Nat} {x : List (List Mat)} (h : Gr 1 AnP w base 37 A n c l) (hx : Als w (Nb base (.slice A n c)) A1 n1 c1 x) (hn : n < 1000000) :
    ∃ A' c' w', (Builtin.append_ #[34, 34] 34 #[.slice A n c, .slice (some ⟨w.heap.size, 0, none⟩) 1 1]).run Try.prog (w.alloc (.cells #[.slice A1 n1 c1] 37)) = .ok (.slice A' (n + 1) c') w' ∧ Gr 1 AnP w' base 37 A' (n + 1) c' (l ++ [x]) ∧ Below base w w' := by
  obtain ⟨i, hi, hz, hs, hb⟩ := info_of s1info
  exact Gr.push (vs := [.slice A1 n1 c1]) (x := x) Try.underlying34 hi hz hs hb rfl (by omega) (by omega) keeps_anp h ⟨A1, n1, c1, rfl, hx⟩ rfl (fun _ _ _ _ => AnP.one _ _) hn
/-- What is new lies apart from a row that is older. -/
theorem Gr.apart {α : Type} {k : Nat} {P : World → (Nat → Prop) → List Value → α → Prop} {w : World} {base : Nat} {E : TypeId} {A : Option Addr} {n c : Nat} {l : List α} (h : Gr k P w base E A n c l) : ∀ b, w.heap.size ≤ b → Nb base (.slice A n c) b := fun b hb => by
  refine ⟨Nat.le_trans h.2 hb, fun e => ?_⟩
  have := (h.1.lt b e.symm).2
  omega
/-- A block that is known to be empty is a row of the call's own. -/
theorem own_ob {V : World} {E : TypeId} {k g base : Nat} (h : Ob V g E #[]) (hb : base ≤ g) : V.ownsRow base E k (.slice (some ⟨g, 0, none⟩) 0 0) 0 [] :=
  ⟨by simp, .inr ⟨g, 0, #[], rfl, hb, h, Nat.le_refl _, by simp [maxLen], by simp, by simp⟩⟩
/-- append to an empty row that was laid before. -/
theorem copy_duts_at {V : World} {R : Nat → Prop} {A0 : Option Addr} {p0 c0 g : Nat} {L0 : List Dut} (hg : Ob V g 116 #[]) (h0 : Dus V R A0 p0 c0 L0) (h : p0 ≤ 1000000) (hlt : g ≤ V.heap.size) :
    ∃ A5 c5 w5, (Builtin.append_ #[72, 72] 72 #[.slice (some ⟨g, 0, none⟩) 0 0, .slice A0 p0 c0]).run Try.prog V = .ok (.slice A5 p0 c5) w5 ∧ Below g V w5 ∧ Dus w5 (fun b => b = g ∨ b = V.heap.size) A5 p0 c5 L0 ∧ Kept (fun b => b ≠ g) V w5 := by
  obtain ⟨A5, c5, w5, r5, o5, b5, g5, t5⟩ := append_duts (ty := 72) (xs := []) (own_ob hg (Nat.le_refl g)) h0 (by omega) hlt
  rw [Nat.zero_add] at r5 o5
  exact ⟨A5, c5, w5, r5, b5, Rw.flat_own o5 (by omega) (Rw.len h0) (fun _ => rfl) (Rw.all h0) (fun ad e _ => by subst e; exact t5.elim (fun h => .inl (by injection h)) (fun h => .inr (by injection h))), g5.size, fun b hb hlt => g5.block b hlt (fun e => hb (by injection e))⟩
theorem copy_nods_at {V : World} {R : Nat → Prop} {A0 : Option Addr} {p0 c0 g : Nat} {L0 : List Nod} (hg : Ob V g 113 #[]) (h0 : Nds V R A0 p0 c0 L0) (h : p0 ≤ 1000000) (hlt : g ≤ V.heap.size) :
    ∃ A5 c5 w5, (Builtin.append_ #[109, 109] 109 #[.slice (some ⟨g, 0, none⟩) 0 0, .slice A0 p0 c0]).run Try.prog V = .ok (.slice A5 p0 c5) w5 ∧ Below g V w5 ∧ Nds w5 (fun b => b = g ∨ b = V.heap.size) A5 p0 c5 L0 ∧ Kept (fun b => b ≠ g) V w5 := by
  obtain ⟨A5, c5, w5, r5, o5, b5, g5, t5⟩ := append_nods (ty := 109) (xs := []) (own_ob hg (Nat.le_refl g)) h0 (by omega) hlt
  rw [Nat.zero_add] at r5 o5
  exact ⟨A5, c5, w5, r5, b5, Rw.flat_own o5 (by omega) (Rw.len h0) (fun _ => rfl) (Rw.all h0) (fun ad e _ => by subst e; exact t5.elim (fun h => .inl (by injection h)) (fun h => .inr (by injection h))), g5.size, fun b hb hlt => g5.block b hlt (fun e => hb (by injection e))⟩
end Go.Proofs.Ytjpkemamfccfdaa
/- Lists of values of the call's own: append. -/
namespace Go.Proofs.Ytjpkemamfccfdaa
set_option linter.unusedVariables false
open Go.RowKit

def cells3 : List Vl → List Value
  | [] => []
  | v :: r => .int .i64 v.k :: .int .i64 v.n :: .string v.s :: cells3 r
theorem cells3_len (l : List Vl) : (cells3 l).length = l.length * 3 := by
  induction l with
  | nil => rfl
  | cons v r ih => simp [cells3, ih]; omega
theorem cells3_app (l m : List Vl) : cells3 (l ++ m) = cells3 l ++ cells3 m := by
  induction l with
  | nil => rfl
  | cons v r ih => simp [cells3, ih]
theorem cells3_one {l : List Vl} : ∀ v ∈ cells3 l, v.oneCell' = true := by
  induction l with
  | nil => intro v hv; cases hv
  | cons x r ih =>
    intro v hv
    simp only [cells3, List.mem_cons] at hv
    rcases hv with rfl | rfl | rfl | hv
    · rfl
    · rfl
    · rfl
    · exact ih v hv
theorem cells3_at {l : List Vl} {j : Nat} {v : Vl} (h : l[j]? = some v) : (cells3 l)[j * 3]? = some (.int .i64 v.k) ∧ (cells3 l)[j * 3 + 1]? = some (.int .i64 v.n) ∧ (cells3 l)[j * 3 + 2]? = some (.string v.s) := by
  induction l generalizing j with
  | nil => simp at h
  | cons x r ih =>
    cases j with
    | zero => simp at h; subst h; exact ⟨rfl, rfl, rfl⟩
    | succ j =>
      simp at h
      obtain ⟨a, b, c⟩ := ih h
      have e : (j + 1) * 3 = j * 3 + 1 + 1 + 1 := by omega
      rw [e]
      exact ⟨by simpa [cells3] using a, by simpa [cells3] using b, by simpa [cells3] using c⟩
theorem cells3_of {l : List Vl} {i : Nat} {u : Value} (h : (cells3 l)[i]? = some u) : ∃ j v, l[j]? = some v ∧ (i = j * 3 ∧ u = .int .i64 v.k ∨ i = j * 3 + 1 ∧ u = .int .i64 v.n ∨ i = j * 3 + 2 ∧ u = .string v.s) := by
  have hi : i < l.length * 3 := by rw [← cells3_len]; exact (List.getElem?_eq_some_iff.1 h).1
  have hj : i / 3 < l.length := by omega
  obtain ⟨a, b, c⟩ := cells3_at (List.getElem?_eq_getElem hj)
  refine ⟨i / 3, l[i / 3], List.getElem?_eq_getElem hj, ?_⟩
  have hm : i = i / 3 * 3 ∨ i = i / 3 * 3 + 1 ∨ i = i / 3 * 3 + 2 := by omega
  rcases hm with e | e | e
  · rw [← e, h] at a; exact .inl ⟨e, Option.some.inj a⟩
  · rw [← e, h] at b; exact .inr (.inl ⟨e, Option.some.inj b⟩)
  · rw [← e, h] at c; exact .inr (.inr ⟨e, Option.some.inj c⟩)

theorem valinfo : (Try.prog.info? 25).map (fun i => (i.zero, i.size, i.bytes)) = some (some (.agg #[.int .i64 0, .int .i64 0, .string ⟨#[]⟩]), 3, 32) := by kernel_rfl
theorem val_parts : ∃ i, Try.prog.info? 25 = some i ∧ i.zero = some (.agg #[.int .i64 0, .int .i64 0, .string ⟨#[]⟩]) ∧ i.size = 3 ∧ i.bytes = 32 := by
  have h := valinfo
  cases hi : Try.prog.info? 25 with
  | none => rw [hi] at h; cases h
  | some i =>
    rw [hi] at h
    simp only [Option.map_some, Option.some.injEq, Prod.mk.injEq] at h
    exact ⟨i, rfl, h.1, h.2.1, h.2.2⟩

/-- A list of the call's own reads as its values. -/
theorem Vs.of_own {w : World} {base n c : Nat} {A : Option Addr} {l : List Vl} (h : w.ownsRow base 25 3 (.slice A n c) n (cells3 l)) (hok : ∀ v ∈ l, v.ok) : Vs w w.heap.size A n c l := by
  have hl : l.length = n := by have := h.1; rw [cells3_len] at this; omega
  rcases h.2 with ⟨hv, hn⟩ | ⟨g, cap, cur, hv, hb, hg, hnc, hcm, hcs, ht⟩
  · injection hv with h1 h2 h3
    subst h1 h2 h3
    exact ⟨hl, Nat.le_refl _, by simp [maxLen], .inl rfl, hok⟩
  · injection hv with h1 h2 h3
    subst h1 h3
    refine ⟨hl, hnc, hcm, .inr ⟨g, 0, rfl, ?_, fun j v hv => ?_⟩, hok⟩
    · rcases Nat.lt_or_ge g w.heap.size with hlt | hge
      · exact hlt
      · rw [Array.getElem?_eq_none hge] at hg; cases hg
    · have add : ∀ j : Nat, (⟨g, 0, none⟩ : Addr).add j = ⟨g, 0 + j, none⟩ := fun j => by by_cases hj : j = 0 <;> simp [Addr.add, hj]
      obtain ⟨a, b, c⟩ := cells3_at hv
      have h1 := h.cells (g := g) rfl (j * 3) _ a
      have h2 := h.cells (g := g) rfl (j * 3 + 1) _ b
      have h3 := h.cells (g := g) rfl (j * 3 + 2) _ c
      rw [add] at h1 h2 h3
      exact ⟨h1, h2, h3⟩

/-- append(out, l...) of values that lie somewhere. -/
theorem append_vals {w : World} {base B n c m c2 ty : Nat} {A A2 : Option Addr} {xs ys : List Vl} (h : w.ownsRow base 25 3 (.slice A n c) n (cells3 xs)) (hy : Vs w B A2 m c2 ys) (hn : n + m ≤ 1000000) (hbase : base ≤ w.heap.size) :
    ∃ A' c' w', (Builtin.append_ #[45, 45] ty #[.slice A n c, .slice A2 m c2]).run Try.prog w = .ok (.slice A' (n + m) c') w' ∧
      w'.ownsRow base 25 3 (.slice A' (n + m) c') (n + m) (cells3 (xs ++ ys)) ∧ Below base w w' ∧ w.grownBy w' (Value.slice A n c).ownBlock := by
  obtain ⟨i, hi, hz, hs, hb⟩ := val_parts
  have hlen := hy.1
  have fin : ∀ (ad : Addr), A2 = some ad → (∀ j u, (cells3 ys)[j]? = some u → w.cell? (ad.add j) = some u) → ∃ A' c' w', (Builtin.append_ #[45, 45] ty #[.slice A n c, .slice A2 m c2]).run Try.prog w = .ok (.slice A' (n + m) c') w' ∧
      w'.ownsRow base 25 3 (.slice A' (n + m) c') (n + m) (cells3 (xs ++ ys)) ∧ Below base w w' ∧ w.grownBy w' (Value.slice A n c).ownBlock := by
    rintro ad rfl hc
    obtain ⟨v', w', hrun, h2, h3, h4⟩ := run_append_own (P := Try.prog) w base 45 ty 25 i _ 3 32 Try.underlying45 hi hz hs hb rfl (by omega) (.slice A n c) n (cells3 xs) h
      ad m c2 (cells3 ys) (by rw [cells3_len, hlen]) hc cells3_one (by unfold maxLen; omega) (by omega) hbase
    have hform : ∃ A' c', v' = .slice A' (n + m) c' := by
      rcases h2.2 with ⟨hv, hz⟩ | ⟨g, cap, cur, hv, _⟩
      · exact ⟨_, _, by rw [hv, hz]⟩
      · exact ⟨_, _, hv⟩
    obtain ⟨A', c', rfl⟩ := hform
    exact ⟨A', c', w', hrun, by rw [cells3_app]; exact h2, (Below.refl base w).grown h3 hbase (fun k hk => (h.lt k hk).1), h3⟩
  rcases hy.2.2.2.1 with h0 | ⟨b, o, e, hb', hc⟩
  · subst h0
    obtain rfl : ys = [] := List.eq_nil_of_length_eq_zero hlen
    rcases A2 with _ | ad
    · exact ⟨A, c, w, append_nil_src Try.underlying45 hi h, by simpa using h, Below.refl _ _, ⟨rfl, rfl, rfl, Nat.le_refl _, fun _ _ _ => rfl⟩⟩
    · exact fin ad rfl (fun j u hu => by simp [cells3] at hu)
  · refine fin _ e fun j u hu => ?_
    have add : ∀ j : Nat, (⟨b, o, none⟩ : Addr).add j = ⟨b, o + j, none⟩ := fun j => by by_cases hj : j = 0 <;> simp [Addr.add, hj]
    rw [add]
    obtain ⟨i', v, hv, hcase⟩ := cells3_of hu
    obtain ⟨c0, c1, c2⟩ := hc i' v hv
    rcases hcase with ⟨rfl, rfl⟩ | ⟨rfl, rfl⟩ | ⟨rfl, rfl⟩
    · exact c0
    · exact c1
    · exact c2

theorem Vs.keep1 {w w' : World} {B n c b o : Nat} {l : List Vl} (h : Vs w B (some ⟨b, o, none⟩) n c l) (hk : w'.heap[b]? = w.heap[b]?) : Vs w' B (some ⟨b, o, none⟩) n c l := by
  obtain ⟨h1, h2, h3, h4, h5⟩ := h
  refine ⟨h1, h2, h3, ?_, h5⟩
  rcases h4 with h4 | ⟨b', o', e, hb, hc⟩
  · exact .inl h4
  · injection e with e
    injection e with e1 e2
    subst e1 e2
    refine .inr ⟨b, o, rfl, hb, fun j v hv => ?_⟩
    obtain ⟨a1, a2, a3⟩ := hc j v hv
    exact ⟨(World.cell?_of_block hk).trans a1, (World.cell?_of_block hk).trans a2, (World.cell?_of_block hk).trans a3⟩

/-- append of values, as a step of a region that draws. -/
theorem step_append_vals {ops : Array Oper} {o : Oper} {a : Act} {w : World} {K : Act → World → Prop} {Q : Exit → Act → World → Prop} {E : Prop}
    {base B n c m c2 : Nat} {A A2 : Option Addr} {xs ys : List Vl} (N : Nat) (zs : List Vl) (hown : w.ownsRow base 25 3 (.slice A n c) n (cells3 xs)) (hsrc : Vs w B A2 m c2 ys) (hN : n + m = N) (hz : xs ++ ys = zs) (hn : N ≤ 1000000) (hbase : base ≤ w.heap.size)
    (hg : o.guard = none) (s x : Operand) (hop : o.op = Op.call { callee := Callee.builtin Builtin.append, args := #[s, x], argTypes := #[45, 45] })
    (hs : a.eval s = .slice A n c) (hx : a.eval x = .slice A2 m c2)
    (hK : ∀ A' c' w', w'.ownsRow base 25 3 (.slice A' N c') N (cells3 zs) → Below base w w' → w.grownBy w' (Value.slice A n c).ownBlock → K (a.put o.dst (.slice A' N c')) w') :
    if Region.wanted o (yielded ops a.tmps) = true then Oper.wp Try.prog o a w K Q else E := by
  subst hN hz
  obtain ⟨A', c', w', hrun, h1, h2, h3⟩ := append_vals (ty := o.type) hown hsrc hn hbase
  exact step_append_run hg s x _ _ hop hs hx hrun (hK A' c' w' h1 h2 h3)
theorem own_e1 (w : World) : (w.alloc (.cells #[] 25)).ownsRow w.heap.size 25 3 (.slice (some ⟨w.heap.size, 0, none⟩) 0 0) 0 (cells3 []) :=
  World.ownsRow_lit w #[] 0 (Nat.le_refl _) (by simp [maxLen]) rfl
theorem own_e2 (w : World) (o : Obj) : ((w.alloc (.cells #[] 25)).alloc o).ownsRow w.heap.size 25 3 (.slice (some ⟨w.heap.size, 0, none⟩) 0 0) 0 (cells3 []) :=
  (own_e1 w).alloc o
theorem own_e3 (w : World) (o : Obj) : ((w.alloc o).alloc (.cells #[] 25)).ownsRow (w.heap.size + 1) 25 3 (.slice (some ⟨w.heap.size + 1, 0, none⟩) 0 0) 0 (cells3 []) := by
  have := own_e1 (w.alloc o)
  rwa [size_al] at this
theorem lit_keep {w w6 : World} {v : Vl} (hv : v.ok) {B : Nat} (g : (((w.alloc (.cells #[] 25)).alloc (.cells #[.int .i64 v.k, .int .i64 v.n, .string v.s] 25)).drew).grownBy w6 (Value.slice (some ⟨w.heap.size, 0, none⟩) 0 B).ownBlock) :
    Vs w6 (w.heap.size + 2) (some ⟨w.heap.size + 1, 0, none⟩) 1 1 [v] := by
  have h := Vs.lit1 (w.alloc (.cells #[] 25)) v hv
  rw [size_al] at h
  refine h.keep1 (g.block _ ?_ ?_)
  · show _ < ((w.alloc _).alloc _).heap.size
    rw [size_al, size_al]
    omega
  · simp [Value.ownBlock]
theorem lit_below {w w6 : World} {v : Vl} (hv : v.ok) (b : Below (w.heap.size + 1) (((w.alloc (.cells #[.int .i64 v.k, .int .i64 v.n, .string v.s] 25)).alloc (.cells #[] 25)).drew) w6) :
    Vs w6 (w.heap.size + 1) (some ⟨w.heap.size, 0, none⟩) 1 1 [v] := by
  have h := Vs.lit1 w v hv
  have e : Below (w.heap.size + 1) (w.alloc (.cells #[.int .i64 v.k, .int .i64 v.n, .string v.s] 25)) ((w.alloc (.cells #[.int .i64 v.k, .int .i64 v.n, .string v.s] 25)).alloc (.cells #[] 25)) :=
    (Below.refl _ _).alloc (by rw [size_al]; exact Nat.le_refl _) _
  exact h.below ((below_drewN e 1).trans b)
theorem own_then {w w' : World} {base size n : Nat} {e : TypeId} {v : Value} {xs : List Value} (h : w.ownsRow base e size v n xs) (hb : Below w.heap.size w w') : w'.ownsRow base e size v n xs :=
  h.kept (row := none) ⟨hb.os, hb.tape, hb.output, hb.size, fun k hk _ => hb.block k hk⟩ (by by_cases hv : v.ownBlock = none; exact .inl hv; exact .inr hv)
theorem size_e3 (w : World) (x y : Obj) : w.heap.size + 1 ≤ (((w.alloc x).alloc y).drew).heap.size := by
  show _ ≤ ((w.alloc x).alloc y).heap.size
  rw [size_al, size_al]
  omega
end Go.Proofs.Ytjpkemamfccfdaa
/- Requests in memory: rows of attributes, each with its bag. -/
namespace Go.Proofs.Ytjpkemamfccfdaa
set_option linter.unusedVariables false
open Go.RowKit

/-- A row of values, in blocks that R lets in. -/
def Vls (w : World) (R : Nat → Prop) := Rw 3 (fun vs (v : Vl) => vs = v.cells ∧ v.ok) w R
/-- The cells of what is given. -/
def GivAt (w : World) (R : Nat → Prop) (vs : List Value) (g : Giv) : Prop := ∃ A n c, vs = [.int .i64 g.cat, .string g.name, .slice A n c] ∧ g.ok ∧ Vls w R A n c g.bag
def Gvs (w : World) (R : Nat → Prop) := Rw 3 (GivAt w R) w R
section
variable {w w' : World} {R R' : Nat → Prop} {A : Option Addr} {n c : Nat}
theorem Vls.keep {l : List Vl} (h : Vls w R A n c l) (hk : Kept R w w') (hR : ∀ b, R b → b < w.heap.size → R' b) : Vls w' R' A n c l := Rw.keep h hk hR fun _ _ _ h => h
theorem GivAt.keep {vs : List Value} {g : Giv} (h : GivAt w R vs g) (hk : Kept R w w') (hR : ∀ b, R b → b < w.heap.size → R' b) : GivAt w' R' vs g := by
  obtain ⟨A, n, c, e, h0, h1⟩ := h
  exact ⟨A, n, c, e, h0, h1.keep hk hR⟩
theorem Gvs.keep {l : List Giv} (h : Gvs w R A n c l) (hk : Kept R w w') (hR : ∀ b, R b → b < w.heap.size → R' b) : Gvs w' R' A n c l := Rw.keep h hk hR fun _ _ _ h => h.keep hk hR
theorem keeps_giv : Keeps GivAt := fun _ _ _ _ _ _ h hk hR => h.keep hk hR
theorem GivAt.one {w : World} {R : Nat → Prop} (vs : List Value) (g : Giv) (h : GivAt w R vs g) : ∀ v ∈ vs, v.oneCell' = true := by
  obtain ⟨A, n, c, rfl, _⟩ := h
  intro v hv
  simp at hv
  rcases hv with rfl | rfl | rfl <;> rfl
theorem Vl.one (v : Vl) : ∀ x ∈ v.cells, x.oneCell' = true := by
  intro x hx
  simp [Vl.cells] at hx
  rcases hx with rfl | rfl | rfl <;> rfl
theorem Vls.oks {l : List Vl} (h : Vls w R A n c l) : ∀ v ∈ l, v.ok := Rw.all h
theorem Vls.at_ {l : List Vl} (h : Vls w R A n c l) {j : Nat} (hj : j < n) : ∃ b o v, A = some ⟨b, o, none⟩ ∧ R b ∧ b < w.heap.size ∧ l[j]? = some v ∧ v.ok ∧
    (w.cell? ⟨b, o + j * 3, none⟩ = some (.int .i64 v.k) ∧ w.cell? ⟨b, o + j * 3 + 1, none⟩ = some (.int .i64 v.n) ∧ w.cell? ⟨b, o + j * 3 + 2, none⟩ = some (.string v.s)) := by
  obtain ⟨b, o, m, vs, e, hb, hlt, hm, hl, hv, rfl, hok⟩ := Rw.at_ h hj
  exact ⟨b, o, m, e, hb, hlt, hm, hok, hv 0 _ rfl, hv 1 _ rfl, hv 2 _ rfl⟩
theorem Gvs.at_ {l : List Giv} (h : Gvs w R A n c l) {j : Nat} (hj : j < n) : ∃ b o g A' n' c', A = some ⟨b, o, none⟩ ∧ R b ∧ b < w.heap.size ∧ l[j]? = some g ∧ g.ok ∧
    (w.cell? ⟨b, o + j * 3, none⟩ = some (.int .i64 g.cat) ∧ w.cell? ⟨b, o + j * 3 + 1, none⟩ = some (.string g.name) ∧ w.cell? ⟨b, o + j * 3 + 2, none⟩ = some (.slice A' n' c')) ∧ Vls w R A' n' c' g.bag := by
  obtain ⟨b, o, g, vs, e, hb, hlt, hm, hl, hv, A', n', c', rfl, hok, hin⟩ := Rw.at_ h hj
  exact ⟨b, o, g, A', n', c', e, hb, hlt, hm, hok, ⟨hv 0 _ rfl, hv 1 _ rfl, hv 2 _ rfl⟩, hin⟩
/-- As the texts of package value have it. -/
theorem Vls.vs {l : List Vl} (h : Vls w R A n c l) : Vs w w.heap.size A n c l := by
  refine ⟨Rw.len h, Rw.le h, Rw.cap h, ?_, h.oks⟩
  by_cases h0 : n = 0
  · exact .inl h0
  · right
    obtain ⟨b, o, v, e, hb, hlt, hv, _, _⟩ := h.at_ (j := 0) (by omega)
    refine ⟨b, o, e, hlt, fun j x hx => ?_⟩
    have hj : j < n := by have := (List.getElem?_eq_some_iff.1 hx).1; have := Rw.len h; omega
    obtain ⟨b', o', v', e', _, _, hv', _, c0, c1, c2⟩ := h.at_ hj
    rw [e] at e'
    injection e' with e'
    injection e' with e1 e2
    subst e1 e2
    rw [hx] at hv'
    injection hv' with hv'
    subst hv'
    exact ⟨c0, c1, c2⟩
theorem Vs.vls {B : Nat} {l : List Vl} (h : Vs w B A n c l) (hB : B ≤ w.heap.size) (hn : n ≤ 140737488351232) (hR : ∀ b o, A = some ⟨b, o, none⟩ → b < B → R b) : Vls w R A n c l := by
  obtain ⟨h1, h2, h3, h4, h5⟩ := h
  refine ⟨h1, h2, ⟨h3, hn⟩, ?_⟩
  rcases h4 with h4 | ⟨b, o, e, hb, hc⟩
  · exact .inl h4
  · refine .inr ⟨b, o, e, hR b o e hb, by omega, fun j x hx => ⟨x.cells, rfl, fun i v hi => ?_, rfl, h5 x (List.mem_of_getElem? hx)⟩⟩
    obtain ⟨c0, c1, c2⟩ := hc j x hx
    match i, hi with
    | 0, hi => injection hi with hi; subst hi; exact c0
    | 1, hi => injection hi with hi; subst hi; exact c1
    | 2, hi => injection hi with hi; subst hi; exact c2
    | i + 3, hi => simp [Vl.cells] at hi
theorem Gvs.oks {l : List Giv} (h : Gvs w R A n c l) : ∀ g ∈ l, g.ok ∧ ∀ v ∈ g.bag, v.ok := by
  intro g hg
  obtain ⟨j, hj, rfl⟩ := List.getElem_of_mem hg
  obtain ⟨b, o, x, A', n', c', e, _, _, hx, hok, _, hin⟩ := h.at_ (j := j) (by have := Rw.len h; omega)
  rw [List.getElem?_eq_getElem hj] at hx
  injection hx with hx
  rw [hx]
  exact ⟨hok, hin.oks⟩
end
theorem givinfo : (Try.prog.info? 48).map (fun i => (i.zero, i.size, i.bytes)) = some (some (.agg #[.int .i64 0, .string ⟨#[]⟩, .slice none 0 0]), 3, 48) := by kernel_rfl
/-- One more attribute behind a row of the call's own. -/
theorem push_giv {w : World} {base n c : Nat} {A : Option Addr} {l : List Giv} {A1 : Option Addr} {n1 c1 : Nat} {g : Giv} (h : Gr 3 GivAt w base 48 A n c l) (hok : g.ok) (hx : Vls w (Nb base (.slice A n c)) A1 n1 c1 g.bag) (hn : n < 1000000) :
    ∃ A' c' w', (Builtin.append_ #[30, 30] 30 #[.slice A n c, .slice (some ⟨w.heap.size, 0, none⟩) 1 1]).run Try.prog (w.alloc (.cells #[.int .i64 g.cat, .string g.name, .slice A1 n1 c1] 48)) = .ok (.slice A' (n + 1) c') w' ∧ Gr 3 GivAt w' base 48 A' (n + 1) c' (l ++ [g]) ∧ Below base w w' := by
  obtain ⟨i, hi, hz, hs, hb⟩ := info_of givinfo
  exact Gr.push (vs := [.int .i64 g.cat, .string g.name, .slice A1 n1 c1]) (x := g) Try.underlying30 hi hz hs hb rfl (by omega) (by omega) keeps_giv h ⟨A1, n1, c1, rfl, hok, hx⟩ rfl (fun _ _ _ _ => GivAt.one _ _) hn
/-- append([]Value{}, bag...). -/
theorem copy_bag {w : World} {R : Nat → Prop} {A0 : Option Addr} {p0 c0 : Nat} {L0 : List Vl} (h0 : Vls w R A0 p0 c0 L0) (h : p0 ≤ 1000000) :
    ∃ A5 c5 w5, (Builtin.append_ #[45, 45] 45 #[.slice (some ⟨w.heap.size, 0, none⟩) 0 0, .slice A0 p0 c0]).run Try.prog (w.alloc (.cells #[] 25)) = .ok (.slice A5 p0 c5) w5 ∧ Below w.heap.size w w5 ∧ Vls w5 (fun b => w.heap.size ≤ b) A5 p0 c5 L0 := by
  have e1 : Below w.heap.size w (w.alloc (.cells #[] 25)) := (Below.refl _ _).alloc (Nat.le_refl _) _
  obtain ⟨i, hi, hz, hs, hb⟩ := val_parts
  obtain ⟨A5, c5, w5, r5, o5, b5, _, _⟩ := append_rows (ty := 45) (c2 := c0) (m := p0) Try.underlying45 hi hz hs hb rfl (by omega) (by omega) (own_none w 25 3) (Rw.flat_fl (h0.keep (Kept.all e1 R) (fun _ h _ => h)) (by omega) Vl.one) (by omega) e1.size
  rw [Nat.zero_add] at r5 o5
  refine ⟨A5, c5, w5, r5, e1.trans b5, ?_⟩
  exact Rw.flat_own o5 (by omega) (Rw.len h0) (fun _ => rfl) (Rw.all h0) (fun _ _ h => h)
end Go.Proofs.Ytjpkemamfccfdaa
/- A region that draws its order: its head, in whatever order, under a condition on the world (loads that it tells are taken first); and a forced tail, that may break the condition. -/
namespace Go.Proofs.Ytjpkemamfccfdaa
open Go Go.RowKit

section
variable {P : Program} {ops : Array Oper} {md : Region.Mode} {Q : Exit → Act → World → Prop} {S : World → Prop} {L : Array Bool → Act → World → Prop} {n : Nat}

/-- Whatever order is picked among the first n, till L; S holds behind each. -/
def HeadS (P : Program) (md : Region.Mode) (ops : Array Oper) (Q : Exit → Act → World → Prop) (S : World → Prop) (n : Nat) (L : Array Bool → Act → World → Prop) : Nat → Array Bool → Act → World → Prop
  | 0, listed, a, w => L listed a w
  | f + 1, listed, a, w => Region.ready md ops listed ≠ [] ∧ ∀ i ∈ Region.ready md ops listed, i < n ∧ wpOp P ops Q i (fun a' w' => S w' ∧ HeadS P md ops Q S n L f (listed.setIfInBounds i true) a' w') a w

theorem HeadS.any {g : Nat} (hL : ∀ listed a w, L listed a w → wpAny P md ops Q g listed a w) :
    ∀ (f : Nat) (listed : Array Bool) (a : Act) (w : World), HeadS P md ops Q S n L f listed a w → wpAny P md ops Q (f + g) listed a w
  | 0, _, _, _, h => by rw [Nat.zero_add]; exact hL _ _ _ h
  | f + 1, _, _, _, h => by
    rw [show f + 1 + g = (f + g) + 1 by omega]
    exact ⟨fun h0 => absurd h0 h.1, fun i hi => wpOp_mono (fun a' w' h' => HeadS.any hL f _ a' w' h'.2) (h.2 i hi).2⟩

theorem HeadS.first {i : Nat} {oi : Oper} {v : Value} (hi : ops[i]? = some oi) (hsel : ∀ (j : Nat) (o : Oper) cs b, ops[j]? = some o → o.op ≠ .select cs b)
    (hQ : ∀ c a w, Q (.panic c) (a.put oi.dst v) w → Q (.panic c) a w)
    (hs : Region.sinkB md ops n = true) (hc : Region.chainB md ops n = true) (hn : n < ops.size) (hin : i < n) (hdone : ∀ listed a w, L listed a w → ∀ j ∈ Region.ready md ops listed, n ≤ j) :
    ∀ (f : Nat) (listed : Array Bool) (a : Act) (w : World), HeadInv md ops n listed →
      (∀ j oj, ops[j]? = some oj → j ≠ i → listed.getD j true = false → (∀ e ∈ oj.after, Region.binds md e = true → e.on ≠ i) → oi.apart ops oj = true) →
      i ∈ Region.ready md ops listed → YieldsIf P ops S oi v a → S w → HeadS P md ops Q S n L f (listed.setIfInBounds i true) (a.put oi.dst v) w → HeadS P md ops Q S n L (f + 1) listed a w := by
  intro f
  induction f with
  | zero =>
    intro listed a w inv _ hr hy hS H
    refine ⟨fun h => (by rw [h] at hr; cases hr), fun j hj => ?_⟩
    have hjn : j < n := Nat.lt_of_not_le fun h => tail_waits hs hc hn inv _ i rfl hin (mem_ready.1 hr).1 j h hj
    refine ⟨hjn, ?_⟩
    by_cases hji : j = i
    · subst hji; exact hy.wpOp hi hS ⟨hS, H⟩
    · have := hdone _ _ _ H j (ready_mono hj hji)
      omega
  | succ f ih =>
    intro listed a w inv hfree hr hy hS H
    have hun := (mem_ready.1 hr).1
    refine ⟨fun h => (by rw [h] at hr; cases hr), fun j hj => ?_⟩
    have hjn : j < n := Nat.lt_of_not_le fun h => tail_waits hs hc hn inv _ i rfl hin hun j h hj
    refine ⟨hjn, ?_⟩
    by_cases hji : j = i
    · subst hji; exact hy.wpOp hi hS ⟨hS, H⟩
    · have h1 := (H.2 j (ready_mono hj hji)).2
      obtain ⟨hjun, oj, hoj, hall⟩ := mem_ready.1 hj
      have hnot : ∀ e ∈ oj.after, Region.binds md e = true → e.on ≠ i := fun e he hb heq => by
        have h1 := hall e he hb
        rw [heq, getD_both hun] at h1
        cases h1
      have h2 := wpOp_putIf hoj (hfree j oj hoj hji hjun hnot) (fun cs b => hsel i oi cs b hi) (fun cs b => hsel j oj cs b hoj) hQ hy h1
      have hfree' : ∀ k ok, ops[k]? = some ok → k ≠ i → (listed.setIfInBounds j true).getD k true = false →
          (∀ e ∈ ok.after, Region.binds md e = true → e.on ≠ i) → oi.apart ops ok = true := fun k ok hk hki hun' hno => by
        refine hfree k ok hk hki ?_ hno
        by_cases hjk : j = k
        · subst hjk; exact hjun
        · rw [getD_set_ne true hjk] at hun'; exact hun'
      refine wpOp_mono (fun a' w' h3 => ⟨h3.2.1, ih (listed.setIfInBounds j true) a' w' (inv.set hj hjn) hfree' (ready_mono hr (Ne.symm hji)) h3.1 h3.2.1 ?_⟩) h2
      rw [Array.setIfInBounds_comm _ _ hji]
      exact h3.2.2

/-- In a state that can be. -/
def HeadW (P : Program) (md : Region.Mode) (ops : Array Oper) (Q : Exit → Act → World → Prop) (S : World → Prop) (n : Nat) (L : Array Bool → Act → World → Prop) (f : Nat) (listed : Array Bool) (a : Act) (w : World) : Prop :=
  HeadInv md ops n listed → HeadS P md ops Q S n L f listed a w
/-- What is known of the region. -/
def HeadG (md : Region.Mode) (ops : Array Oper) (n : Nat) (L : Array Bool → Act → World → Prop) : Prop :=
  Region.noSelect ops = true ∧ Region.sinkB md ops n = true ∧ Region.chainB md ops n = true ∧ n < ops.size ∧ ∀ listed a w, L listed a w → ∀ j ∈ Region.ready md ops listed, n ≤ j

theorem HeadW_take {i : Nat} {oi : Oper} {v : Value} {f : Nat} {listed : Array Bool} {a : Act} {w : World} (G : HeadG md ops n L) (hi : ops[i]? = some oi)
    (hin : Nat.blt i n = true) (hf : Region.free md ops listed i = true) (hr : (Region.ready md ops listed).contains i = true)
    (hQ : ∀ c a w, Q (.panic c) (a.put oi.dst v) w → Q (.panic c) a w) (hy : YieldsIf P ops S oi v a) (hS : S w)
    (h : HeadW P md ops Q S n L f (listed.setIfInBounds i true) (a.put oi.dst v) w) : HeadW P md ops Q S n L (f + 1) listed a w := fun inv => by
  have hin' : i < n := by simpa using hin
  have hr' : i ∈ Region.ready md ops listed := by simpa using hr
  exact HeadS.first hi (Region.noSelect_spec G.1) hQ G.2.1 G.2.2.1 G.2.2.2.1 hin' G.2.2.2.2 f listed a w inv (Region.free_spec hi hf) hr' hy hS (h (inv.set hr' hin'))

/-- Each of these comes up next. -/
def AllW (P : Program) (md : Region.Mode) (ops : Array Oper) (Q : Exit → Act → World → Prop) (S : World → Prop) (n : Nat) (L : Array Bool → Act → World → Prop) (f : Nat) (listed : Array Bool) (a : Act) (w : World) (rs : List Nat) : Prop :=
  ∀ i ∈ rs, wpOp P ops Q i (fun a' w' => S w' ∧ HeadW P md ops Q S n L f (listed.setIfInBounds i true) a' w') a w
theorem AllW.nil {f : Nat} {listed : Array Bool} {a : Act} {w : World} : AllW P md ops Q S n L f listed a w [] := fun _ h => by cases h
theorem AllW.cons {f : Nat} {listed : Array Bool} {a : Act} {w : World} {i : Nat} {o : Oper} {rs : List Nat} (ho : ops[i]? = some o)
    (h : ∀ K' : Act → World → Prop, (∀ a w, S w → HeadW P md ops Q S n L f (listed.setIfInBounds i true) a w → K' a w) → if Region.wanted o (yielded ops a.tmps) = true then Oper.wp P o a w K' Q else K' (a.put o.dst undef) w)
    (hs : AllW P md ops Q S n L f listed a w rs) : AllW P md ops Q S n L f listed a w (i :: rs) := fun j hj => by
  rcases List.mem_cons.1 hj with rfl | hj
  · exact wpOp_step ho fun K' hK => h K' fun a w h1 h2 => hK a w ⟨h1, h2⟩
  · exact hs j hj
theorem HeadW_ready {rs : List Nat} {f : Nat} {listed : Array Bool} {a : Act} {w : World} (hr : Region.ready md ops listed = rs) (hne : rs.isEmpty = false) (hin : rs.all (fun i => Nat.blt i n) = true)
    (h : AllW P md ops Q S n L f listed a w rs) : HeadW P md ops Q S n L (f + 1) listed a w := fun inv => by
  subst hr
  refine ⟨fun h0 => (by rw [h0] at hne; cases hne), fun i hi => ?_⟩
  have hin' : i < n := by simpa using List.all_eq_true.1 hin i hi
  exact ⟨hin', wpOp_mono (fun a' w' h' => ⟨h'.1, h'.2 (inv.set hi hin')⟩) (h i hi)⟩

/-- What is left: the tail, one behind the other. -/
def TailL (P : Program) (ops : Array Oper) (Q : Exit → Act → World → Prop) (n g : Nat) (r : List Oper) (listed : Array Bool) (a : Act) (w : World) : Prop := Region.seqB .any ops g n listed = true ∧ wpList P ops Q r a w

theorem wp_region_held_tail {id : Nat} {a : Act} {w : World} {l : List Oper} (S : World → Prop) (n : Nat) (hm : P.follows .mixedOrders = true)
    (hB : (Region.noSelect l.toArray && Nat.blt n l.length && Region.sinkB .any l.toArray n && Region.chainB .any l.toArray n) = true)
    (h : HeadG .any l.toArray n (TailL P l.toArray Q n (l.length - n) (l.drop n)) → HeadW P .any l.toArray Q S n (TailL P l.toArray Q n (l.length - n) (l.drop n)) n (Array.replicate l.toArray.size false) a { w with drawn := w.drawn + 1 }) :
    (Code.region id l.toArray true).wp P Q a w := by
  simp only [Bool.and_eq_true] at hB
  obtain ⟨⟨⟨hsel, hn⟩, hs⟩, hc⟩ := hB
  have hn' : n < l.length := by simpa using hn
  have hdl : (l.drop n).length = l.toArray.size - n := by simp
  have inv0 : HeadInv .any l.toArray n (Array.replicate l.toArray.size false) :=
    ⟨by simp, fun j oj _ hl => (by rw [getD_replicate_false] at hl; cases hl), fun t _ ht => getD_in (by simpa using ht) (getD_replicate_false _ _)⟩
  have H := h ⟨hsel, hs, hc, by simpa using hn', fun listed a w hL => seqB_ready hL.1⟩ inv0
  refine wp_region_any hm ?_
  have := HeadS.any (g := l.toArray.size - n) (fun listed a' w' hL => by
    have := wpAny_of_seq (md := .any) (Q' := Q) (l.drop n) n listed a' w' (fun j => by simp [List.getElem?_drop]) (by rw [hdl]; simpa using hL.1) hL.2
    rwa [hdl] at this) _ _ _ _ H
  rw [show n + (l.toArray.size - n) = l.toArray.size by simp; omega] at this
  exact this
end
end Go.Proofs.Ytjpkemamfccfdaa
/- The order of attributes: cmp.Compare, cmp.Or, the comparison that ordered hands to the sort. -/
namespace Go.Proofs.Ytjpkemamfccfdaa
set_option linter.unusedVariables false
open Go.Shelf Go.RowKit Go.Lib Go.Sort

def cmpI (x y : Int) : Int := if x < y then -1 else if y < x then 1 else 0
def cmpS (s t : ByteArray) : Int := if Op.bytesLess (bl s) (bl t) = true then -1 else if Op.bytesLess (bl t) (bl s) = true then 1 else 0
def orI (x y : Int) : Int := if x ≠ 0 then x else y
theorem nanI_any (x : Int) (w : World) : Calls Try.prog 77 #[.int .i64 x] w fun e w' => e = .returned (.bool false) ∧ w = w' := by
  have h : (x != x) = false := by simp
  go_enter Try.func77, Try.ntmps77
  go_wp2
  go_ret
  exact ⟨by first | rfl | simp, rfl⟩
theorem nanS_any (x : ByteArray) (w : World) : Calls Try.prog 78 #[.string x] w fun e w' => e = .returned (.bool false) ∧ w = w' := by
  go_enter Try.func78, Try.ntmps78
  go_wp2
  go_ret
  exact ⟨by first | rfl | simp, rfl⟩
theorem cmpI_any (x y : Int) (w : World) : Calls Try.prog 66 #[.int .i64 x, .int .i64 y] w fun e w' => e = .returned (.int .i64 (cmpI x y)) ∧ w = w' := by
  have H : Hid (cmpI x y = if x < y then -1 else if y < x then 1 else 0) := rfl
  generalize cmpI x y = c at *
  by_cases h1 : x < y
  · have HC : Hid (c = -1) := H.out.trans (if_pos h1)
    go_enter Try.func66, Try.ntmps66
    go_wp2_with (go_at_call 77; refine (nanI_any _ _).mono ?_; rintro e w1 ⟨rfl, rfl⟩)
    go_ret
    exact ⟨ret_int HC.out.symm, rfl⟩
  · by_cases h2 : y < x
    · have HC : Hid (c = 1) := H.out.trans ((if_neg h1).trans (if_pos h2))
      go_enter Try.func66, Try.ntmps66
      go_wp2_with (go_at_call 77; refine (nanI_any _ _).mono ?_; rintro e w1 ⟨rfl, rfl⟩)
      go_ret
      exact ⟨ret_int HC.out.symm, rfl⟩
    · have HC : Hid (c = 0) := H.out.trans ((if_neg h1).trans (if_neg h2))
      go_enter Try.func66, Try.ntmps66
      go_wp2_with (go_at_call 77; refine (nanI_any _ _).mono ?_; rintro e w1 ⟨rfl, rfl⟩)
      go_ret
      exact ⟨ret_int HC.out.symm, rfl⟩
theorem cmpS_any (x y : ByteArray) (w : World) : Calls Try.prog 67 #[.string x, .string y] w fun e w' => e = .returned (.int .i64 (cmpS x y)) ∧ w = w' := by
  have ex : x.toList = bl x := ByteArray.toList_eq x
  have ey : y.toList = bl y := ByteArray.toList_eq y
  have H : Hid (cmpS x y = if Op.bytesLess (bl x) (bl y) = true then -1 else if Op.bytesLess (bl y) (bl x) = true then 1 else 0) := rfl
  generalize cmpS x y = c at *
  by_cases h1 : Op.bytesLess (bl x) (bl y) = true
  · have HC : Hid (c = -1) := H.out.trans (if_pos h1)
    go_enter Try.func67, Try.ntmps67
    go_wp2_with (go_at_call 78; refine (nanS_any _ _).mono ?_; rintro e w1 ⟨rfl, rfl⟩)
    go_ret
    exact ⟨ret_int HC.out.symm, rfl⟩
  · by_cases h2 : Op.bytesLess (bl y) (bl x) = true
    · have HC : Hid (c = 1) := H.out.trans ((if_neg h1).trans (if_pos h2))
      have h1 : Op.bytesLess x.toList y.toList = false := by rw [ex, ey]; simpa using h1
      have h3 : (x.toList == y.toList) = false := by
        rw [ex, ey, beq_eq_false_iff_ne]
        intro e
        rw [e] at h2
        exact bl_irrefl _ h2
      clear ex ey h2
      go_enter Try.func67, Try.ntmps67
      go_wp2_with (go_at_call 78; refine (nanS_any _ _).mono ?_; rintro e w1 ⟨rfl, rfl⟩)
      go_ret
      exact ⟨ret_int HC.out.symm, rfl⟩
    · have HC : Hid (c = 0) := H.out.trans ((if_neg h1).trans (if_neg h2))
      have h1 : Op.bytesLess x.toList y.toList = false := by rw [ex, ey]; simpa using h1
      have h3 : (x.toList == y.toList) = true := by
        rw [ex, ey, beq_iff_eq]
        rcases bl_total (bl x) (bl y) with e | e | e
        · rw [ex, ey, e] at h1; cases h1
        · exact absurd e h2
        · exact e
      clear ex ey h2
      go_enter Try.func67, Try.ntmps67
      go_wp2_with (go_at_call 78; refine (nanS_any _ _).mono ?_; rintro e w1 ⟨rfl, rfl⟩)
      go_ret
      exact ⟨ret_int HC.out.symm, rfl⟩
/-- cmp.Or of two numbers, laid as a literal. -/
theorem orI_any {w : World} {g : Nat} {T : TypeId} {x y : Int} (h : Ob w g T #[.int .i64 x, .int .i64 y]) : Calls Try.prog 65 #[.slice (some ⟨g, 0, none⟩) 2 2] w fun e w' => e = .returned (.int .i64 (orI x y)) ∧ w = w' := by
  have c0 := h.cell 0
  have c1 := h.cell 1
  have H : Hid (orI x y = if x ≠ 0 then x else y) := rfl
  generalize orI x y = c at *
  clear h
  by_cases hx : x = 0
  · subst hx
    have HC : Hid (c = y) := H.out.trans (if_neg (by simp))
    by_cases hy : y = 0
    · subst hy
      go_enter Try.func65, Try.ntmps65
      go_wp2
      go_loop [8] (fun i => i = .int .i64 0 ∨ i = .int .i64 1 ∨ i = .int .i64 2) (fun i => 2 - (intOf i).toNat)
      case atStart => exact .inl rfl
      case round =>
        rcases hrel with rfl | rfl | rfl
        · go_wp2
          go_round
          case rel => exact .inr (.inl rfl)
          case measure => simp [intOf]
        · go_wp2
          go_round
          case rel => exact .inr (.inr rfl)
          case measure => simp [intOf]
        · go_wp2
          go_ret
          exact ⟨ret_int HC.out.symm, rfl⟩
    · have hyb : (y != 0) = true := by rw [bne_iff_ne]; exact hy
      clear hy
      go_enter Try.func65, Try.ntmps65
      go_wp2
      go_loop [8] (fun i => i = .int .i64 0 ∨ i = .int .i64 1) (fun i => 2 - (intOf i).toNat)
      case atStart => exact .inl rfl
      case round =>
        rcases hrel with rfl | rfl
        · go_wp2
          go_round
          case rel => exact .inr rfl
          case measure => simp [intOf]
        · go_wp2
          go_ret
          exact ⟨ret_int HC.out.symm, rfl⟩
  · have HC : Hid (c = x) := H.out.trans (if_pos hx)
    have hxb : (x != 0) = true := by rw [bne_iff_ne]; exact hx
    clear hx
    go_enter Try.func65, Try.ntmps65
    go_wp2
    go_loop [8] (fun i => i = .int .i64 0) (fun i => 2 - (intOf i).toNat)
    case atStart => rfl
    case round =>
      subst hrel
      go_wp2
      go_ret
      exact ⟨ret_int HC.out.symm, rfl⟩
end Go.Proofs.Ytjpkemamfccfdaa
/- ordered's comparison, as the sort calls it. -/
namespace Go.Proofs.Ytjpkemamfccfdaa
set_option linter.unusedVariables false
open Go.Shelf Go.RowKit Go.Lib Go.Sort

/-- An attribute and where its bag lies. -/
structure Gh where
  g : Giv
  A : Option Addr
  n : Nat
  c : Nat
instance : Inhabited Gh := ⟨⟨⟨0, ByteArray.empty, []⟩, none, 0, 0⟩⟩
def Gh.enc (x : Gh) : List Value := [.int .i64 x.g.cat, .string x.g.name, .slice x.A x.n x.c]
def cfG (x y : Gh) : Int := orI (cmpI x.g.cat y.g.cat) (cmpS x.g.name y.g.name)
set_option maxRecDepth 100000 in
set_option maxHeartbeats 3200000 in
theorem ord_call (x y : Gh) (w : World) : Calls Try.prog 64 #[.agg x.enc.toArray, .agg y.enc.toArray] w fun e w' => e = .returned (.int .i64 (cfG x y)) ∧ ∃ q os', w' = grow (w.drewN q) os' := by
  obtain ⟨⟨xc, xn, xb⟩, xA, xm, xk⟩ := x
  obtain ⟨⟨yc, yn, yb⟩, yA, ym, yk⟩ := y
  have HCF : Hid (cfG ⟨⟨xc, xn, xb⟩, xA, xm, xk⟩ ⟨⟨yc, yn, yb⟩, yA, ym, yk⟩ = orI (cmpI xc yc) (cmpS xn yn)) := rfl
  generalize cfG ⟨⟨xc, xn, xb⟩, xA, xm, xk⟩ ⟨⟨yc, yn, yb⟩, yA, ym, yk⟩ = cc at *
  show Calls _ _ #[.agg #[.int .i64 xc, .string xn, .slice xA xm xk], .agg #[.int .i64 yc, .string yn, .slice yA ym yk]] w _
  have OX : Hid (Ob ((w.alloc (.cells #[.int .i64 xc, .string xn, .slice xA xm xk] 48)).alloc (.cells #[.int .i64 yc, .string yn, .slice yA ym yk] 48)) w.heap.size 48 #[.int .i64 xc, .string xn, .slice xA xm xk]) := (Ob.made w _ _).keep (Below.heap_alloc _ _ _ (by rw [size_al]; omega))
  have OY : Hid (Ob ((w.alloc (.cells #[.int .i64 xc, .string xn, .slice xA xm xk] 48)).alloc (.cells #[.int .i64 yc, .string yn, .slice yA ym yk] 48)) (w.heap.size + 1) 48 #[.int .i64 yc, .string yn, .slice yA ym yk]) := by
    have := Ob.made (w.alloc (.cells #[.int .i64 xc, .string xn, .slice xA xm xk] 48)) 48 #[.int .i64 yc, .string yn, .slice yA ym yk]
    rwa [size_al] at this
  go_enter Try.func64, Try.ntmps64
  go_upto_region 1 with fail
  obtain ⟨W1, hW1⟩ : ∃ W1, W1 = (w.alloc (.cells #[.int .i64 xc, .string xn, .slice xA xm xk] 48)).alloc (.cells #[.int .i64 yc, .string yn, .slice yA ym yk] 48) := ⟨_, rfl⟩
  rw [← hW1] at OX OY ⊢
  have HW := Lib.hid hW1
  clear hW1
  obtain ⟨V0, hV0⟩ : ∃ V0, V0 = W1.drewN 1 := ⟨_, rfl⟩
  have x0 : V0.cell? ⟨w.heap.size, 0, none⟩ = some (.int .i64 xc) := by rw [hV0]; exact OX.out.cell 0
  have x1 : V0.cell? ⟨w.heap.size, 1, none⟩ = some (.string xn) := by rw [hV0]; exact OX.out.cell 1
  have y0 : V0.cell? ⟨w.heap.size + 1, 0, none⟩ = some (.int .i64 yc) := by rw [hV0]; exact OY.out.cell 0
  have y1 : V0.cell? ⟨w.heap.size + 1, 1, none⟩ = some (.string yn) := by rw [hV0]; exact OY.out.cell 1
  have HV := Lib.hid hV0
  refine wp_region_held_tail (fun w' => w' = V0) 10 (by kernel_rfl) (by kernel_rfl) ?_
  intro G
  change HeadW _ _ _ _ _ _ _ _ _ _ (W1.drewN 1)
  rw [← hV0]
  have S0 : Hid (V0 = V0) := rfl
  clear hV0
  refine HeadW_take (i := 0) (v := ?_) G rfl (by kernel_rfl) (by kernel_rfl) (by kernel_rfl) (fun _ _ _ h => h) (Or.inl ⟨by rfl, ?_⟩) S0.out ?_
  rotate_left
  · intro wz hS
    have hS' : wz = V0 := hS
    subst hS'
    go_simp
    try with_reducible rfl
  refine HeadW_take (i := 1) (v := ?_) G rfl (by kernel_rfl) (by kernel_rfl) (by kernel_rfl) (fun _ _ _ h => h) (Or.inl ⟨by rfl, ?_⟩) S0.out ?_
  rotate_left
  · intro wz hS
    have hS' : wz = V0 := hS
    subst hS'
    go_simp
    try with_reducible rfl
  refine HeadW_take (i := 2) (v := ?_) G rfl (by kernel_rfl) (by kernel_rfl) (by kernel_rfl) (fun _ _ _ h => h) (Or.inl ⟨by rfl, ?_⟩) S0.out ?_
  rotate_left
  · intro wz hS
    have hS' : wz = V0 := hS
    subst hS'
    go_simp
    try with_reducible rfl
  refine HeadW_take (i := 3) (v := ?_) G rfl (by kernel_rfl) (by kernel_rfl) (by kernel_rfl) (fun _ _ _ h => h) (Or.inl ⟨by rfl, ?_⟩) S0.out ?_
  rotate_left
  · intro wz hS
    have hS' : wz = V0 := hS
    subst hS'
    go_simp
    try with_reducible rfl
  refine HeadW_take (i := 5) (v := ?_) G rfl (by kernel_rfl) (by kernel_rfl) (by kernel_rfl) (fun _ _ _ h => h) (Or.inl ⟨by rfl, ?_⟩) S0.out ?_
  rotate_left
  · intro wz hS
    have hS' : wz = V0 := hS
    subst hS'
    go_simp
    try with_reducible rfl
  refine HeadW_take (i := 6) (v := ?_) G rfl (by kernel_rfl) (by kernel_rfl) (by kernel_rfl) (fun _ _ _ h => h) (Or.inl ⟨by rfl, ?_⟩) S0.out ?_
  rotate_left
  · intro wz hS
    have hS' : wz = V0 := hS
    subst hS'
    go_simp
    try with_reducible rfl
  refine HeadW_take (i := 7) (v := ?_) G rfl (by kernel_rfl) (by kernel_rfl) (by kernel_rfl) (fun _ _ _ h => h) (Or.inl ⟨by rfl, ?_⟩) S0.out ?_
  rotate_left
  · intro wz hS
    have hS' : wz = V0 := hS
    subst hS'
    go_simp
    try with_reducible rfl
  refine HeadW_take (i := 8) (v := ?_) G rfl (by kernel_rfl) (by kernel_rfl) (by kernel_rfl) (fun _ _ _ h => h) (Or.inl ⟨by rfl, ?_⟩) S0.out ?_
  rotate_left
  · intro wz hS
    have hS' : wz = V0 := hS
    subst hS'
    go_simp
    try with_reducible rfl
  refine HeadW_ready (rs := [4]) (by kernel_rfl) rfl rfl ?_
  refine AllW.cons rfl (fun K hK => ?_) AllW.nil
  go_simp
  refine (cmpI_any _ _ _).mono ?_
  rintro e w2 ⟨rfl, rfl⟩
  refine hK _ _ rfl ?_
  clear hK K
  refine HeadW_ready (rs := [9]) (by kernel_rfl) rfl rfl ?_
  refine AllW.cons rfl (fun K hK => ?_) AllW.nil
  go_simp
  refine (cmpS_any _ _ _).mono ?_
  rintro e w2 ⟨rfl, rfl⟩
  refine hK _ _ rfl ?_
  clear hK K
  intro _
  refine ⟨by kernel_rfl, ?_⟩
  simp only [List.drop_succ_cons, List.drop_zero]
  generalize cmpI xc yc = ci at *
  generalize cmpS xn yn = cs at *
  clear x0 x1 y0 y1
  go_wp2_with (go_at_call 65; refine (orI_any (Ob.made _ _ _)).mono ?_; rintro e w3 ⟨rfl, rfl⟩)
  go_ret
  refine ⟨ret_int HCF.out.symm, 1, #[.cells #[.int .i64 xc, .string xn, .slice xA xm xk] 48, .cells #[.int .i64 yc, .string yn, .slice yA ym yk] 48, .cells #[.int .i64 ci, .int .i64 cs] 3], ?_⟩
  rw [HV.out, HW.out, alloc_eq_grow, alloc_eq_grow, alloc_eq_grow, grow_grow]
  show grow (grow (w.drewN 1) _) _ = _
  rw [grow_grow]
  rfl

/-- What the sort asks of it. -/
theorem ord_lays (w0 : World) (blk off N : Nat) : CmpLays Try.prog 64 #[] Gh.enc 3 cfG blk off N w0 := fun m os dk hs x y => ord_call x y _
theorem cmpI_neg {x y : Int} : cmpI x y < 0 ↔ x < y := by
  unfold cmpI
  repeat' split
  all_goals omega
theorem cmpI_zero {x y : Int} : cmpI x y = 0 ↔ x = y := by
  unfold cmpI
  repeat' split
  all_goals omega
theorem cmpS_neg {s t : ByteArray} : cmpS s t < 0 ↔ Op.bytesLess (bl s) (bl t) = true := by
  unfold cmpS
  repeat' split
  · rename_i h; simp [h]
  · rename_i h _; simp [h]
  · rename_i h _; simp [h]
/-- x stands ahead of y. -/
def aheadG (x y : Giv) : Prop := x.cat < y.cat ∨ x.cat = y.cat ∧ Op.bytesLess (bl x.name) (bl y.name) = true
theorem cfG_neg (x y : Gh) : cfG x y < 0 ↔ aheadG x.g y.g := by
  unfold cfG orI aheadG
  by_cases h : cmpI x.g.cat y.g.cat = 0
  · rw [if_neg (by simpa using h), cmpS_neg]
    have := cmpI_zero.1 h
    constructor
    · intro e; exact .inr ⟨this, e⟩
    · rintro (e | e)
      · omega
      · exact e.2
  · rw [if_pos h, cmpI_neg]
    constructor
    · intro e; exact .inl e
    · rintro (e | e)
      · exact e
      · exact absurd (cmpI_zero.2 e.1) h
theorem ahead_trans {x y z : Giv} (h1 : aheadG x y) (h2 : aheadG y z) : aheadG x z := by
  unfold aheadG at *
  rcases h1 with h1 | ⟨h1, b1⟩ <;> rcases h2 with h2 | ⟨h2, b2⟩
  · left; omega
  · left; omega
  · left; omega
  · right; exact ⟨by omega, bl_trans _ _ _ b1 b2⟩
theorem ahead_irrefl (x : Giv) : ¬ aheadG x x := by
  unfold aheadG
  rintro (h | ⟨_, h⟩)
  · omega
  · exact bl_irrefl _ h
theorem ahead_total (x y : Giv) : aheadG x y ∨ aheadG y x ∨ (x.cat = y.cat ∧ x.name = y.name) := by
  unfold aheadG
  rcases Int.lt_trichotomy x.cat y.cat with h | h | h
  · exact .inl (.inl h)
  · rcases bl_total (bl x.name) (bl y.name) with b | b | b
    · exact .inl (.inr ⟨h, b⟩)
    · exact .inr (.inl (.inr ⟨h.symm, b⟩))
    · exact .inr (.inr ⟨h, text_eq b⟩)
  · exact .inr (.inl (.inl h))
theorem le_iff (x y : Gh) : LeC cfG x y ↔ ¬ aheadG y.g x.g := by unfold LeC; rw [cfG_neg]
theorem ordG : OrdC cfG where
  tr := fun x y z h1 h2 => by
    rw [le_iff] at *
    intro h
    rcases ahead_total x.g y.g with c | c | ⟨c1, c2⟩
    · exact h2 (ahead_trans h c)
    · exact h1 c
    · refine h2 ?_
      unfold aheadG at h ⊢
      rw [← c1, ← c2]
      exact h
  asym := fun x y h1 h2 => by
    rw [cfG_neg] at *
    exact ahead_irrefl _ (ahead_trans h1 h2)
/-- Two that stand neither ahead of the other have one key. -/
theorem le_key {x y : Gh} (h1 : LeC cfG x y) (h2 : LeC cfG y x) : x.g.cat = y.g.cat ∧ x.g.name = y.g.name := by
  rw [le_iff] at *
  rcases ahead_total x.g y.g with c | c | c
  · exact absurd c h2
  · exact absurd c h1
  · exact c
end Go.Proofs.Ytjpkemamfccfdaa
/- ask.ordered, walked: a new row of the same attributes, in order. -/
namespace Go.Proofs.Ytjpkemamfccfdaa
set_option linter.unusedVariables false
open Go.Shelf Go.RowKit Go.Lib Go.Sort

theorem sorts_any {blk n : Nat} {d : Array Gh} {w : World} (cap : Nat) (h : HoldsK Gh.enc 3 w blk 0 d) (hb : blk < w.heap.size) (hn : d.size = n) (hsz : n ≤ 1000000) :
    Calls Try.prog 63 #[.slice (some ⟨blk, 0, none⟩) n cap, .func (.func 64) #[] #[]] w fun e w' => e = .returned (.tuple #[]) ∧ ∃ d', d'.size = n ∧ SWK Gh.enc 3 w blk 0 d' w' ∧ Mix 0 n (rowF d) (rowF d') ∧ Up (LeC cfG) (rowF d') 0 n := by
  have R : RowK Gh.enc 3 w blk 0 d := ⟨fun _ => rfl, fun x v hv => by
    simp [Gh.enc] at hv
    rcases hv with rfl | rfl | rfl <;> rfl, h, hb⟩
  have HC := Lib.hid (stable_any sf cfG ordG 64 #[] (enters_of Try.func64 (by kernel_rfl) rfl) (ord_lays w blk 0 n) cap d w R hn hn (SWK.start h) hsz)
  clear R h
  go_enter Try.func63, Try.ntmps63
  go_wp2_with (go_at_call 76; refine HC.out.mono ?_; rintro e w1 ⟨rfl, hq⟩)
  go_end0
  exact ⟨rfl, hq⟩

/-- The attributes of a row, each with the place of its bag. -/
theorem gh_list {w : World} {R : Nat → Prop} : ∀ (raw : List (List Value)) (l : List Giv), raw.length = l.length → (∀ (j : Nat) (vs : List Value) (x : Giv), raw[j]? = some vs → l[j]? = some x → GivAt w R vs x) →
    ∃ dl : List Gh, dl.map Gh.g = l ∧ dl.map Gh.enc = raw ∧ ∀ x ∈ dl, x.g.ok ∧ Vls w R x.A x.n x.c x.g.bag
  | [], [], _, _ => ⟨[], rfl, rfl, by simp⟩
  | vs :: raw, x :: l, hl, h => by
    obtain ⟨A, n, c, rfl, hok, hv⟩ := h 0 vs x rfl rfl
    obtain ⟨dl, h1, h2, h3⟩ := gh_list raw l (by simpa using hl) fun j vs x a b => h (j + 1) vs x a b
    refine ⟨⟨x, A, n, c⟩ :: dl, by simp [h1], by simp [h2, Gh.enc], fun y hy => ?_⟩
    rcases List.mem_cons.1 hy with rfl | hy
    · exact ⟨hok, hv⟩
    · exact h3 y hy

/-- The cells of a row of the call's own, as the sort has them. -/
theorem own_holds {w : World} {base g n c : Nat} {dl : List Gh} (h : w.ownsRow base 48 3 (.slice (some ⟨g, 0, none⟩) n c) n (dl.map Gh.enc).flatten) (hn : dl.length = n) : HoldsK Gh.enc 3 w g 0 dl.toArray := by
  intro j hj
  rw [size_flatK] at hj
  simp only [List.size_toArray] at hj
  refine ⟨?_, h.frozenAt _⟩
  have hd : j / 3 < dl.length := by omega
  have hm : j % 3 < 3 := Nat.mod_lt _ (by omega)
  rw [get_flatK _ _ _ _ (by simpa using hj), Nat.zero_add, h.cellAt j (by omega)]
  have e1 : dl.toArray[j / 3]! = dl[j / 3] := by simp [hd]
  have e2 : (Gh.enc dl[j / 3])[j % 3]? = some (Gh.enc dl[j / 3])[j % 3]! := by
    have : j % 3 < (Gh.enc dl[j / 3]).length := hm
    simp [this]
  rw [e1]
  have := flatten_at (k := 3) (l := dl.map Gh.enc) (j := j / 3) (i := j % 3) (fun y hy => by
    obtain ⟨x, _, e⟩ := List.mem_map.1 hy
    rw [← e]; rfl) (by rw [List.getElem?_map, List.getElem?_eq_getElem hd]; rfl) e2
  rw [show j / 3 * 3 + j % 3 = j by omega] at this
  exact this
theorem get_some {xs : List Value} {i : Nat} {v : Value} (h : xs[i]? = some v) : some xs[i]! = some v := by
  obtain ⟨a1, a2⟩ := List.getElem?_eq_some_iff.1 h
  rw [← a2]
  simp [a1]
theorem putRowK_below {w : World} {B blk off : Nat} (d : Array Gh) (q : Nat) (os : Array Obj) (hB : B ≤ w.heap.size) (hb : B ≤ blk) : Below B w (sortWorldK Gh.enc 3 w blk off q d os) := by
  refine ⟨rfl, rfl, rfl, ?_, fun k hk => ?_⟩
  · unfold sortWorldK; rw [size_grow, size_putRowK]; show w.heap.size ≤ w.heap.size + _; omega
  · unfold sortWorldK grow putRowK putRow mapBlock
    show (Array.append _ os)[k]? = _
    simp only [Array.append_eq_append]
    rw [Array.getElem?_append_left (by simp [Sort.ahead]; omega), Array.getElem?_modify, if_neg (by omega)]
    rfl

theorem ordered_any {w : World} {R : Nat → Prop} {A : Option Addr} {n c : Nat} {l : List Giv} (h : Gvs w R A n c l) (hn0 : 0 < n) (hn : n ≤ 1000000) :
    Calls Try.prog 48 #[.slice A n c] w fun e w' => ∃ A' c' d d', e = .returned (.slice A' n c') ∧ Below w.heap.size w w' ∧ d.size = n ∧ d'.size = n ∧ d.toList.map Gh.g = l ∧ Mix 0 n (rowF d) (rowF d') ∧ Up (LeC cfG) (rowF d') 0 n ∧ Gvs w' (fun b => R b ∨ w.heap.size ≤ b) A' n c' (d'.toList.map Gh.g) := by
  obtain ⟨i, hi, hz, hs, hb⟩ := info_of givinfo
  have hlen := Rw.len h
  obtain ⟨raw, r1, r2, r3, r4⟩ := Rw.fl h (by omega) GivAt.one
  obtain ⟨dl, g1, g2, g3⟩ := gh_list raw l (by omega) r3
  obtain ⟨A5, c5, w5, r5, o5, b5, gr5, _⟩ := append_rows (ty := 30) (c2 := c) (m := n) Try.underlying30 hi hz hs hb rfl (by omega) (by omega) (World.ownsRow_nil w w.heap.size 48 3) r4 (by omega) (Nat.le_refl _)
  rw [Nat.zero_add, List.nil_append, ← g2] at o5
  rw [Nat.zero_add] at r5
  have hdl : dl.length = n := by rw [← hlen, ← g1, List.length_map]
  obtain ⟨g, rfl, hgb, hgl, hc1, hc2⟩ : ∃ g, A5 = some ⟨g, 0, none⟩ ∧ w.heap.size ≤ g ∧ g < w5.heap.size ∧ n ≤ c5 ∧ c5 ≤ maxLen := by
    rcases o5.2 with ⟨hv, h0⟩ | ⟨g, cap, cur, hv, hb, hg, hnc, hcm, hcs, ht⟩
    · omega
    · injection hv with h1 h2 h3
      subst h1 h3
      refine ⟨g, rfl, hb, ?_, hnc, hcm⟩
      rcases Nat.lt_or_ge g w5.heap.size with hlt | hge
      · exact hlt
      · rw [Array.getElem?_eq_none hge] at hg; cases hg
  have hH := own_holds o5 hdl
  have hd : dl.toArray.size = n := by simpa using hdl
  have HS := Lib.hid (sorts_any c5 hH hgl hd hn)
  have HR := Lib.hid r5
  have HB := Lib.hid b5
  have fin : Hid (∀ d' w', d'.size = n → SWK Gh.enc 3 w5 g 0 d' w' → Mix 0 n (rowF dl.toArray) (rowF d') → Below w.heap.size w w' ∧ Gvs w' (fun b => R b ∨ w.heap.size ≤ b) (some ⟨g, 0, none⟩) n c5 (d'.toList.map Gh.g)) := by
    intro d' w' hd' hS hM
    have hH' := hS.holds hgl hH (by rw [hd', hd])
    have hlt' := hS.lt hgl
    have hbel : Below w.heap.size w w' := by
      obtain ⟨q, os, rfl⟩ := hS
      exact b5.trans (putRowK_below d' q os b5.size hgb)
    refine ⟨hbel, by simpa using hd', hc1, ⟨hc2, by omega⟩, .inr ⟨g, 0, rfl, .inr hgb, hlt', fun j x hx => ?_⟩⟩
    rw [List.getElem?_map] at hx
    have hj : j < d'.size := by
      rcases Nat.lt_or_ge j d'.size with h | h
      · exact h
      · rw [List.getElem?_eq_none (by simpa using h)] at hx; cases hx
    have hxe : x = (rowF d' j).g := by
      rw [List.getElem?_eq_getElem (by simpa using hj)] at hx
      have := Option.some.inj hx
      rw [← this]
      simp [rowF, hj]
    subst hxe
    obtain ⟨x0, σ, τ, x1⟩ := hM
    obtain ⟨_, p2, _, _, _, _, p7⟩ := x1 j (by omega) (by omega)
    have hmem : rowF d' j ∈ dl := by
      rw [p7]
      have : σ j < dl.length := by omega
      simp [rowF, this]
    obtain ⟨hok, hv⟩ := g3 _ hmem
    refine ⟨(rowF d' j).enc, rfl, fun i v hi => ?_, (rowF d' j).A, (rowF d' j).n, (rowF d' j).c, rfl, hok, Vls.keep hv (Kept.all hbel R) fun b hb _ => .inl hb⟩
    have hi3 : i < 3 := by
      have := (List.getElem?_eq_some_iff.1 hi).1
      simpa [Gh.enc] using this
    exact (hH'.cell (i := j) (c := i) hj hi3).1.trans (by rw [show d'[j]! = rowF d' j from rfl, get_some hi])
  clear r5 b5 o5 hH gr5 r4 r3 g3
  go_enter Try.func48, Try.ntmps48
  go_wp2_with (first
    | (at_builtin; refine wpList_append_run rfl _ _ _ _ rfl rfl rfl HR.out ?_)
    | (go_at_call 63; refine HS.out.mono ?_; rintro e w1 ⟨rfl, d', hd', hS, hM, hU⟩))
  go_ret
  obtain ⟨f1, f2⟩ := fin.out d' _ hd' hS hM
  exact ⟨_, _, dl.toArray, d', rfl, f1, hd, hd', by simpa using g1, hM, hU, f2⟩
end Go.Proofs.Ytjpkemamfccfdaa
/- Rows of bytes in new memory: what a byte's type is, and make. -/
namespace Go.Proofs.Ytjpkemamfccfdaa
open Go.RowKit

theorem u8info : (Try.prog.info? 5).map (fun i => (i.zero, i.size, i.bytes)) = some (some (.int .u8 0), 1, 1) := by kernel_rfl

theorem madeBytes (n : Nat) : madeCells (Value.int .u8 0).cells (n * 1) = (List.replicate n (Value.int .u8 0)).toArray := by
  apply Array.ext
  · simp [madeCells]
  · intro i h1 h2; simp [madeCells, Value.cells, Nat.mod_one]

theorem make_bytes (n c : Nat) (hnc : n ≤ c) (h : c ≤ 140737488355328) (W : World) :
    (Instr.makeSlice 61 (.int .i64 (n : Int)) (.int .i64 (c : Int))).run Try.prog W = .ok (.slice (some ⟨W.heap.size, 0, none⟩) n c) (W.alloc (.cells (List.replicate c (Value.int .u8 0)).toArray 5)) := by
  obtain ⟨i, hi, hz0, hz1, hz2⟩ := info_parts u8info
  have hr := run_make (P := Try.prog) W 61 5 i _ Try.underlying61 hi hz0 .i64 .i64 n c (by omega) (by omega) (by rw [hz2]; omega) (by omega)
  rw [hz1] at hr
  simp only [Int.toNat_natCast, madeBytes] at hr
  exact hr

end Go.Proofs.Ytjpkemamfccfdaa
/- pack.Num: behind the bytes that are handed in, in new memory, the number's bytes. -/
namespace Go.Proofs.Ytjpkemamfccfdaa
open Go.RowKit

/-- What the loop of Num holds: the bytes that are there already, those of the number that were put behind them, what is left of it. -/
def NumRel (w : World) (base : Nat) (l all : List UInt8) (u out : Value) (wr : World) : Prop :=
  ∃ (m n c : Nat) (A : Option Addr) (done : List UInt8), u = .int .u64 (m : Int) ∧ out = .slice A n c ∧ wr.ownsRow base 5 1 (.slice A n c) n (bv (l ++ done)) ∧ done ++ enc m = all ∧ Below base w wr

set_option maxHeartbeats 1600000 in
set_option maxRecDepth 20000 in
theorem num_any {w : World} {B n c : Nat} {A : Option Addr} {l : List UInt8} {k : Int} (h : Sl w B A n c (bv l)) (hB : B ≤ w.heap.size) (hn : n ≤ 70368744177664) (hk1 : -9223372036854775808 ≤ k) (hk2 : k ≤ 9223372036854775807) :
    Calls Try.prog 47 #[.slice A n c, .int .i64 k] w fun e w' => ∃ A' n' c', e = .returned (.slice A' n' c') ∧ w'.ownsRow w.heap.size 5 1 (.slice A' n' c') n' (bv (l ++ numB k)) ∧ Below w.heap.size w w' := by
  obtain ⟨i, hi, hz0, hz1, hz2⟩ := info_parts u8info
  have hmk := make_bytes n (n + 10) (by omega) (by omega)
  simp only [Int.natCast_add, Int.cast_ofNat_Int] at hmk
  have hob := Ob.made w 5 (List.replicate (n + 10) (Value.int .u8 0)).toArray
  have hsl : Sl (w.alloc (.cells (List.replicate (n + 10) (Value.int .u8 0)).toArray 5)) B A n c (bv l) := h.keep fun k hk => Below.heap_alloc w _ k (by omega)
  obtain ⟨w1, hcp, hob1, hz, honly⟩ := copy_all (P := Try.prog) (ty := 3) (m := n + 10) Try.underlying61 hi hz1 hob hsl (by simp) one_bv
  have hlen : l.length = n := by rw [← bv_len]; exact h.len
  have hown : w1.ownsRow w.heap.size 5 1 (.slice (some ⟨w.heap.size, 0, none⟩) n (n + 10)) n (bv (l ++ [])) := by
    refine ⟨by simp [bv_len, hlen], .inr ⟨w.heap.size, n + 10, _, rfl, Nat.le_refl _, hob1, by omega, by unfold maxLen; omega, ?_, ?_⟩⟩
    · simp [bv_len, hlen]
    · simp only [Nat.mul_one, List.append_nil]
      rw [List.take_append_of_le_length (by rw [bv_len, hlen]; omega), List.take_of_length_le (by rw [bv_len, hlen]; omega)]
  have hbel : Below w.heap.size w w1 := ((Below.refl _ w).alloc (Nat.le_refl _) _).trans (honly.below (by simp) (Nat.le_refl _))
  have hstart : NumRel w w.heap.size l (numB k) (.int .u64 (zig k : Nat)) (.slice (some ⟨w.heap.size, 0, none⟩) n (n + 10)) w1 := ⟨zig k, n, n + 10, _, [], rfl, rfl, hown, rfl, hbel⟩
  have HS := Lib.hid hstart
  have HL := Lib.hid hlen
  simp only [List.toArray_replicate] at hcp
  have hinv := i64_inv hk1 hk2
  clear h hob hsl hob1 hz honly hown hlen hbel hstart
  have hu : (k < 0 ∧ 2 * (-k - 1) + 1 = (zig k : Int)) ∨ (0 ≤ k ∧ 2 * k = (zig k : Int)) := by unfold zig; split <;> omega
  have HU := Lib.hid hu
  have H10 := Lib.hid (numB_len hk1 hk2)
  clear hu
  by_cases hneg : k < 0
  all_goals
    try (have hw1 : IntKind.u64.wrap (-k - 1) = -k - 1 := by rw [IntKind.wrap_u64]; omega)
    try (have hw2 : IntKind.u64.wrap (2 * (-k - 1)) = 2 * (-k - 1) := by rw [IntKind.wrap_u64]; omega)
    try (have hw3 : IntKind.u64.wrap (2 * (-k - 1) + 1) = 2 * (-k - 1) + 1 := by rw [IntKind.wrap_u64]; omega)
    go_enter Try.func47, Try.ntmps47
    go_wp2_with fail
    go_loopw [5, 6] (fun u out wr => NumRel w w.heap.size l (numB k) u out wr) (fun u _ _ => (intOf u).toNat)
    case atStart =>
      have e := HU.out
      first | (rw [(e.resolve_right (by omega)).2]; exact HS.out) | (rw [(e.resolve_left (by omega)).2]; exact HS.out)
    case round =>
      obtain ⟨m, n1, c1, A1, done, rfl, rfl, hown, hdone, hbel⟩ := hrel
      have HD := Lib.hid hdone
      have hl1 : n1 = l.length + done.length := by have := hown.1; simp [bv_len] at this; omega
      have hd10 : done.length + (enc m).length ≤ 10 := by rw [← List.length_append, HD.out]; exact H10.out
      have hp := enc_pos m
      have hlb : l.length = n := HL.out
      have hnb : n1 ≤ 140737488355327 := by omega
      clear hdone hl1 hd10 hp hlb
      have hm0 : 0 ≤ (m : Int) := by omega
      have hwrap : IntKind.u8.wrap (m : Int) = (m : Int) % 256 := IntKind.wrap_u8' _
      by_cases hbig : 128 ≤ m
      · have hor : bits .or .u8 ((m : Int) % 256) 128 = (m : Int) % 128 + 128 := by rw [u8_or128 (by omega) (by omega)]; omega
        obtain ⟨A2, c2, w2, hap, hown2, hbel2⟩ := append_one (P := Try.prog) (ty := 61) Try.underlying61 hi hz0 hz1 hz2 hown hnb hbel.size ((m : Int) % 128 + 128)
        have HO2 := Lib.hid hown2
        have HAP := Lib.hid hap
        clear hown hnb hown2 hap
        go_wp2_with (at_builtin; refine wpList_append_run rfl _ _ _ _ rfl rfl rfl HAP.out ?_)
        go_roundw
        case rel =>
          refine ⟨m / 128, n1 + 1, c2, A2, done ++ [UInt8.ofNat (m % 128 + 128)], by go_num, rfl, ?_, ?_, hbel.trans hbel2⟩
          · have e := HO2.out
            rw [← List.append_assoc, bv_app]
            have e2 : bv [UInt8.ofNat (m % 128 + 128)] = [.int .u8 ((m : Int) % 128 + 128)] := by
              simp only [bv, List.map_cons, List.map_nil, ofNat_toNat (show m % 128 + 128 < 256 by omega)]
              simp
            rw [e2]; exact e
          · rw [List.append_assoc, List.singleton_append, ← enc_big hbig]; exact HD.out
        case measure => simp [intOf]; omega
      · obtain ⟨A2, c2, w2, hap, hown2, hbel2⟩ := append_one (P := Try.prog) (ty := 61) Try.underlying61 hi hz0 hz1 hz2 hown hnb hbel.size ((m : Int) % 256)
        have HO2 := Lib.hid hown2
        have HAP := Lib.hid hap
        clear hown hnb hown2 hap
        go_wp2_with (at_builtin; refine wpList_append_run rfl _ _ _ _ rfl rfl rfl HAP.out ?_)
        go_ret
        refine ⟨A2, n1 + 1, c2, rfl, ?_, hbel.trans hbel2⟩
        have e := HO2.out
        rw [← HD.out, enc_small (by omega), ← List.append_assoc, bv_app]
        have e2 : bv [UInt8.ofNat m] = [.int .u8 ((m : Int) % 256)] := by
          simp only [bv, List.map_cons, List.map_nil, ofNat_toNat (show m < 256 by omega)]
          rw [show (m : Int) % 256 = (m : Int) from by omega]
        rw [e2]; exact e
end Go.Proofs.Ytjpkemamfccfdaa
/- pack.Text. -/
namespace Go.Proofs.Ytjpkemamfccfdaa
open Go.RowKit

set_option maxHeartbeats 800000 in
theorem text_any {w : World} {B n c : Nat} {A : Option Addr} {l : List UInt8} {s : ByteArray} (h : Sl w B A n c (bv l)) (hB : B ≤ w.heap.size) (hn : n ≤ 70368744177664) (hs : s.size ≤ 35184372088832) :
    Calls Try.prog 49 #[.slice A n c, .string s] w fun e w' => ∃ A' n' c', e = .returned (.slice A' n' c') ∧ w'.ownsRow w.heap.size 5 1 (.slice A' n' c') n' (bv (l ++ textB s.data.toList)) ∧ Below w.heap.size w w' := by
  obtain ⟨i, hi, hz0, hz1, hz2⟩ := info_parts u8info
  have hc := num_any (k := (s.size : Int)) h hB hn (by omega) (by omega)
  have hlen := h.len
  rw [bv_len] at hlen
  have HC := Lib.hid hc
  have HL := Lib.hid hlen
  clear hc hlen h
  go_enter Try.func49, Try.ntmps49
  go_wp2_with fail
  refine HC.out.mono ?_
  rintro e w1 ⟨A1, n1, c1, rfl, hown, hbel⟩
  have hn1 : n1 = n + (numB (s.size : Int)).length := by have := hown.1; have e := HL.out; simp [bv_len] at this; omega
  have hnl := numB_len (n := (s.size : Int)) (by omega) (by omega)
  obtain ⟨A2, c2, w2, hap, hown2, hbel2⟩ := append_text (P := Try.prog) (ty := 61) Try.underlying61 hi hz0 hz1 hz2 Try.underlying9 hown s (by omega) hbel.size
  have HO := Lib.hid hown2
  have HAP := Lib.hid hap
  clear hown hown2 hap hn1 hnl
  go_wp2_with (at_builtin; refine wpList_append_run rfl _ _ _ _ rfl rfl rfl HAP.out ?_)
  go_ret
  refine ⟨A2, _, c2, rfl, ?_, hbel.trans hbel2⟩
  have e := HO.out
  rw [textB, ← List.append_assoc, bv_app]
  have e2 : (s.data.toList.length : Int) = (s.size : Int) := by rw [Array.length_toList]; rfl
  rw [e2]
  exact e

theorem num_nil (w : World) (k : Int) (hk1 : -9223372036854775808 ≤ k) (hk2 : k ≤ 9223372036854775807) :
    Calls Try.prog 47 #[.slice none 0 0, .int .i64 k] w fun e w' => ∃ A n c, e = .returned (.slice A n c) ∧ w'.ownsRow w.heap.size 5 1 (.slice A n c) n (bv (numB k)) ∧ Below w.heap.size w w' :=
  num_any (l := []) (Sl.nil_ w 0) (by omega) (by omega) hk1 hk2
theorem text_nil (w : World) (s : ByteArray) (hs : s.size ≤ 35184372088832) :
    Calls Try.prog 49 #[.slice none 0 0, .string s] w fun e w' => ∃ A n c, e = .returned (.slice A n c) ∧ w'.ownsRow w.heap.size 5 1 (.slice A n c) n (bv (textB s.data.toList)) ∧ Below w.heap.size w w' :=
  text_any (l := []) (Sl.nil_ w 0) (by omega) (by omega) hs
end Go.Proofs.Ytjpkemamfccfdaa
/- Put: the project's. -/
namespace Go.Proofs.Ytjpkemamfccfdaa
set_option linter.unusedVariables false
open Go.RowKit

theorem own_base {w : World} {base base' e n : Nat} {v : Value} {xs : List Value} (h : w.ownsRow base e 1 v n xs) (hb : base' ≤ base) : w.ownsRow base' e 1 v n xs := by
  obtain ⟨h1, h2⟩ := h
  refine ⟨h1, ?_⟩
  rcases h2 with h2 | ⟨g, cap, cur, a, b, r⟩
  · exact .inl h2
  · exact .inr ⟨g, cap, cur, a, Nat.le_trans hb b, r⟩
theorem put_text {k n : Int} {s : ByteArray} (h : inT k = true) : putB ⟨k, n, s⟩ = numB k ++ textB s.data.toList := by unfold putB; rw [if_pos h]; rfl
theorem put_num {k n : Int} {s : ByteArray} (h : inT k = false) : putB ⟨k, n, s⟩ = numB k ++ numB n := by unfold putB; rw [if_neg (by rw [h]; simp)]

set_option maxHeartbeats 1600000 in
theorem vput_any {w : World} {B n c : Nat} {A : Option Addr} {l : List UInt8} (h : Sl w B A n c (bv l)) (hB : B ≤ w.heap.size) (hn : n ≤ 1000000) {k m : Int} {s : ByteArray} (hk : -9223372036854775808 ≤ k ∧ k ≤ 9223372036854775807) (hm : -9223372036854775808 ≤ m ∧ m ≤ 9223372036854775807) (hs : s.size ≤ 1000000) :
    Calls Try.prog 50 #[.slice A n c, .agg #[.int .i64 k, .int .i64 m, .string s]] w fun e w' => ∃ A' n' c', e = .returned (.slice A' n' c') ∧ w'.ownsRow w.heap.size 5 1 (.slice A' n' c') n' (bv (l ++ putB ⟨k, m, s⟩)) ∧ Below w.heap.size w w' := by
  have hlen := h.len
  rw [bv_len] at hlen
  have h0 := num_any (k := k) (h.lit_keep hB (.cells #[.int .i64 k, .int .i64 m, .string s] 25)) (by rw [size_al]; omega) (by omega) hk.1 hk.2
  have HL := Lib.hid hlen
  have H0 := Lib.hid h0
  have HI := Lib.hid (inT_any k)
  have HN := Lib.hid (numB_len hk.1 hk.2)
  clear h h0 hlen
  go_enter Try.func50, Try.ntmps50
  go_wp2_with fail
  refine H0.out.mono ?_
  rintro e w1 ⟨A1, n1, c1, rfl, hown, hb1⟩
  have hn1 : n1 ≤ 1000010 := by have := hown.1; have e := HL.out; have e2 := HN.out; simp [bv_len] at this; omega
  have b1 := ((Bx.made w k m s).then_ hb1).c3
  have D1 := Lib.hid (Below.lit hb1)
  have S1 := Lib.hid (Sl.of_own hown)
  clear hown hb1
  cases ht : inT k
  · have c2 := num_any (k := m) S1.out (Nat.le_refl _) (by omega) hm.1 hm.2
    have C2 := Lib.hid c2
    have HT := Lib.hid ht
    clear c2
    have hi := HI.out w1
    rw [ht] at hi
    have HI1 := Lib.hid hi
    clear hi ht
    go_wp2_with fail
    refine HI1.out.mono ?_
    rintro e w2 ⟨rfl, hw2⟩
    subst hw2
    go_wp2_with fail
    refine C2.out.mono ?_
    rintro e w3 ⟨A3, n3, c3, rfl, hown, hb3⟩
    have O3 := Lib.hid hown
    have D3 := Lib.hid (below_step D1.out hb3)
    clear hown hb3
    go_wp2_with fail
    go_ret
    refine ⟨A3, n3, c3, rfl, ?_, D3.out⟩
    rw [put_num HT.out, ← List.append_assoc]
    exact own_base O3.out D1.out.size
  · have c2 := text_any (s := s) S1.out (Nat.le_refl _) (by omega) (by omega)
    have C2 := Lib.hid c2
    have HT := Lib.hid ht
    clear c2
    have hi := HI.out w1
    rw [ht] at hi
    have HI1 := Lib.hid hi
    clear hi ht
    go_wp2_with fail
    refine HI1.out.mono ?_
    rintro e w2 ⟨rfl, hw2⟩
    subst hw2
    go_wp2_with fail
    refine C2.out.mono ?_
    rintro e w3 ⟨A3, n3, c3, rfl, hown, hb3⟩
    have O3 := Lib.hid hown
    have D3 := Lib.hid (below_step D1.out hb3)
    clear hown hb3
    go_wp2_with fail
    go_ret
    refine ⟨A3, n3, c3, rfl, ?_, D3.out⟩
    rw [put_text HT.out, ← List.append_assoc]
    exact own_base O3.out D1.out.size
end Go.Proofs.Ytjpkemamfccfdaa
/- ask.Put: bytes behind a row of the call's own, what is read lying apart from it. -/
namespace Go.Proofs.Ytjpkemamfccfdaa
set_option linter.unusedVariables false
open Go.Shelf Go.RowKit Go.Lib Go.Sort

/-- The bytes of an attribute, of a request. -/
def givB (g : Giv) : List UInt8 := numB g.cat ++ (textB (bl g.name) ++ (numB (g.bag.length : Int) ++ g.bag.flatMap putB))
def reqB (l : List Giv) : List UInt8 := numB (l.length : Int) ++ l.flatMap givB

/-- A row of bytes of the call's own, apart from R, which is as it was. -/
structure PutW (R : Nat → Prop) (base : Nat) (w2 wr : World) (A : Option Addr) (n c : Nat) (l : List UInt8) : Prop where
  own : wr.ownsRow base 5 1 (.slice A n c) n (bv l)
  out : ∀ g, (Value.slice A n c).ownBlock = some g → ¬ R g
  kept : Kept R w2 wr
  bel : Below base w2 wr
  le : base ≤ w2.heap.size
  hR : ∀ b, R b → b < w2.heap.size
theorem PutW.len {R : Nat → Prop} {base n c : Nat} {w2 wr : World} {A : Option Addr} {l : List UInt8} (h : PutW R base w2 wr A n c l) : l.length = n := by
  have := h.own.1
  rw [bv_len] at this
  omega
theorem PutW.then_ {R : Nat → Prop} {base n c : Nat} {w2 wr w3 : World} {A : Option Addr} {l : List UInt8} (h : PutW R base w2 wr A n c l) (hb : Below wr.heap.size wr w3) : PutW R base w2 w3 A n c l :=
  ⟨own_then h.own hb, h.out, h.kept.trans (Kept.all hb R), h.bel.trans (hb.mono (Nat.le_trans h.le h.kept.1)), h.le, h.hR⟩
theorem PutW.append {R : Nat → Prop} {base n c : Nat} {w2 wr : World} {A : Option Addr} {l : List UInt8} (h : PutW R base w2 wr A n c l) {B m c2 ty : Nat} {A2 : Option Addr} {ys : List UInt8} (hy : Sl wr B A2 m c2 (bv ys)) (hn : n + m ≤ 1000000) :
    ∃ A' c' w', (Builtin.append_ #[61, 61] ty #[.slice A n c, .slice A2 m c2]).run Try.prog wr = .ok (.slice A' (n + m) c') w' ∧ PutW R base w2 w' A' (n + m) c' (l ++ ys) := by
  obtain ⟨i, hi, hz, hs, hb⟩ := info_parts u8info
  have hfl : Fl wr 1 A2 m (bv ys) := by
    refine ⟨by rw [hy.len]; omega, fun v hv => ?_, ?_⟩
    · obtain ⟨x, _, rfl⟩ := List.mem_map.1 hv; rfl
    · rcases hy.2.2.2 with h0 | ⟨b, o, e, _, hc⟩
      · exact .inl h0
      · exact .inr ⟨b, o, e, hc⟩
  obtain ⟨A', c', w', r, o, b, gr, ob⟩ := append_rows (ty := ty) (c2 := c2) (m := m) Try.underlying61 hi hz hs hb rfl (by omega) (by omega) h.own hfl hn (Nat.le_trans h.le h.kept.1)
  refine ⟨A', c', w', r, ⟨by rw [bv_app]; exact o, fun g hg => ?_, h.kept.trans ⟨gr.size, fun k hk hlt => gr.block k hlt fun e => h.out k e.symm hk⟩, h.bel.trans b, h.le, h.hR⟩⟩
  rcases ob with e | e
  · exact h.out g (e ▸ hg)
  · intro hR
    have := h.hR g hR
    rw [e] at hg
    injection hg with hg
    have := h.kept.1
    omega
/-- From a later world on, with more to be kept. -/
theorem PutW.again {R R' : Nat → Prop} {base n c : Nat} {w2 wr : World} {A : Option Addr} {l : List UInt8} (h : PutW R base w2 wr A n c l) (hR : ∀ b, R' b → b < wr.heap.size) (ho : ∀ g, (Value.slice A n c).ownBlock = some g → ¬ R' g) : PutW R' base wr wr A n c l :=
  ⟨h.own, ho, Kept.refl _ _, Below.refl _ _, Nat.le_trans h.le h.kept.1, hR⟩
/-- .. and back. -/
theorem PutW.back {R R' : Nat → Prop} {base n c n' c' : Nat} {w2 wr w3 : World} {A A' : Option Addr} {l l' : List UInt8} (h : PutW R base w2 wr A n c l) (h' : PutW R' base wr w3 A' n' c' l') (hRR : ∀ b, R b → R' b) : PutW R base w2 w3 A' n' c' l' :=
  ⟨h'.own, fun g hg hr => h'.out g hg (hRR g hr), h.kept.trans ⟨h'.kept.1, fun k hk hlt => h'.kept.2 k (hRR k hk) hlt⟩, h.bel.trans h'.bel, h.le, h.hR⟩
/-- With a block just laid. -/
theorem PutW.more {R : Nat → Prop} {base n c : Nat} {w2 wr : World} {A : Option Addr} {l : List UInt8} (h : PutW R base w2 wr A n c l) (o : Obj) : PutW (fun b => R b ∨ b = wr.heap.size) base (wr.alloc o) (wr.alloc o) A n c l := by
  have hb : Below wr.heap.size wr (wr.alloc o) := (Below.refl _ _).alloc (Nat.le_refl _) _
  refine (h.then_ hb).again (fun b hbb => ?_) fun g hg => ?_
  · rw [size_al]
    rcases hbb with hbb | hbb
    · have := h.hR b hbb; have := h.kept.1; omega
    · omega
  · rintro (hr | hr)
    · exact h.out g hg hr
    · have := h.own.lt g hg; omega
theorem PutW.less {R : Nat → Prop} {base n c n' c' : Nat} {w2 wr w3 : World} {A A' : Option Addr} {l l' : List UInt8} {o : Obj} (h : PutW R base w2 wr A n c l) (h' : PutW (fun b => R b ∨ b = wr.heap.size) base (wr.alloc o) w3 A' n' c' l') : PutW R base w2 w3 A' n' c' l' := by
  have hb : Below wr.heap.size wr (wr.alloc o) := (Below.refl _ _).alloc (Nat.le_refl _) _
  exact (h.then_ hb).again (fun b hbb => by rw [size_al]; have := h.hR b hbb; have := h.kept.1; omega) h.out |> fun p => (h.then_ hb).back h' fun b hr => .inl hr
end Go.Proofs.Ytjpkemamfccfdaa
/- A sum over a row whose places are changed (plain). -/
namespace Go.Proofs.Ytjpkemamfccfdaa
set_option linter.unusedVariables false

def sumTo : Nat → (Nat → Nat) → Nat
  | 0, _ => 0
  | n + 1, f => sumTo n f + f n
theorem sumTo_congr {f g : Nat → Nat} : ∀ {n : Nat}, (∀ i, i < n → f i = g i) → sumTo n f = sumTo n g
  | 0, _ => rfl
  | n + 1, h => by simp only [sumTo]; rw [sumTo_congr fun i hi => h i (by omega), h n (by omega)]
theorem sumTo_zero : ∀ n : Nat, sumTo n (fun _ => 0) = 0
  | 0 => rfl
  | n + 1 => by simp only [sumTo]; rw [sumTo_zero n]
theorem sumTo_add (f g : Nat → Nat) : ∀ n : Nat, sumTo n (fun i => f i + g i) = sumTo n f + sumTo n g
  | 0 => rfl
  | n + 1 => by simp only [sumTo]; rw [sumTo_add f g n]; omega
theorem sumTo_swap (F : Nat → Nat → Nat) (m : Nat) : ∀ n : Nat, sumTo n (fun i => sumTo m (F i)) = sumTo m (fun j => sumTo n fun i => F i j)
  | 0 => (sumTo_zero m).symm
  | n + 1 => by simp only [sumTo]; rw [sumTo_swap F m n, ← sumTo_add]
theorem sumTo_one (w : Nat → Nat) (k : Nat) : ∀ n : Nat, sumTo n (fun j => if k = j then w j else 0) = if k < n then w k else 0
  | 0 => by simp [sumTo]
  | n + 1 => by
    simp only [sumTo]
    rw [sumTo_one w k n]
    by_cases h : k = n
    · subst h; simp
    · by_cases h2 : k < n
      · rw [if_pos h2, if_neg h, if_pos (by omega)]; rfl
      · rw [if_neg h2, if_neg h, if_neg (by omega)]
theorem sumTo_mix {σ τ : Nat → Nat} {n : Nat} (w : Nat → Nat) (h : ∀ i, i < n → σ i < n ∧ τ i < n ∧ τ (σ i) = i ∧ σ (τ i) = i) : sumTo n (fun i => w (σ i)) = sumTo n w := by
  have e1 : sumTo n (fun i => w (σ i)) = sumTo n (fun i => sumTo n fun j => if σ i = j then w j else 0) :=
    sumTo_congr fun i hi => by rw [sumTo_one, if_pos (h i hi).1]
  rw [e1, sumTo_swap]
  refine sumTo_congr fun j hj => ?_
  rw [sumTo_congr (g := fun i => if τ j = i then w j else 0) fun i hi => by
    by_cases e : σ i = j
    · rw [if_pos e, if_pos (by rw [← e]; exact (h i hi).2.2.1)]
    · rw [if_neg e, if_neg (fun e2 => e (by rw [← e2]; exact (h j hj).2.2.2))], sumTo_one (fun _ => w j), if_pos (h j hj).2.1]
theorem mix_sum {α : Type} {f g : Nat → α} {n : Nat} (w : α → Nat) (h : Mix 0 n f g) : sumTo n (fun i => w (g i)) = sumTo n (fun i => w (f i)) := by
  obtain ⟨_, σ, τ, x⟩ := h
  rw [sumTo_congr (g := fun i => w (f (σ i))) fun i hi => by rw [(x i (by omega) hi).2.2.2.2.2.2]]
  exact sumTo_mix (fun i => w (f i)) fun i hi => ⟨(x i (by omega) hi).2.1, (x i (by omega) hi).2.2.2.1, (x i (by omega) hi).2.2.2.2.1, (x i (by omega) hi).2.2.2.2.2.1⟩

theorem take_g {d : Array Gh} {k : Nat} (h : k < d.size) : (d.toList.map Gh.g)[k]? = some (rowF d k).g := by
  rw [List.getElem?_map, List.getElem?_eq_getElem (by simpa using h)]
  simp [rowF, h]
theorem len_take {d : Array Gh} (f : Giv → List UInt8) : ∀ k : Nat, k ≤ d.size → (((d.toList.map Gh.g).take k).flatMap f).length = sumTo k fun i => (f (rowF d i).g).length
  | 0, _ => rfl
  | k + 1, h => by
    have hx := take_g (d := d) (k := k) (by omega)
    obtain ⟨hk, e⟩ := List.getElem?_eq_some_iff.1 hx
    rw [List.take_succ_eq_append_getElem hk, List.flatMap_append, List.length_append, len_take f k (by omega), e]
    simp [sumTo]
/-- The bytes are as many, in whatever order. -/
theorem mix_len {d d' : Array Gh} {n : Nat} (f : Giv → List UInt8) (h : Mix 0 n (rowF d) (rowF d')) (hd : d.size = n) (hd' : d'.size = n) : ((d'.toList.map Gh.g).flatMap f).length = ((d.toList.map Gh.g).flatMap f).length := by
  have e1 := len_take (d := d) f n (by omega)
  have e2 := len_take (d := d') f n (by omega)
  rw [List.take_of_length_le (by simp [hd])] at e1
  rw [List.take_of_length_le (by simp [hd'])] at e2
  rw [e1, e2]
  exact mix_sum (fun x => (f x.g).length) h
/-- What each attribute is, each in the other order is. -/
theorem mix_all {d d' : Array Gh} {n : Nat} {p : Giv → Prop} (h : Mix 0 n (rowF d) (rowF d')) (hd : d.size = n) (hd' : d'.size = n) (hp : ∀ g ∈ d.toList.map Gh.g, p g) : ∀ g ∈ d'.toList.map Gh.g, p g := by
  intro g hg
  obtain ⟨j, hj, e⟩ := List.getElem_of_mem hg
  have hj' : j < n := by simp at hj; omega
  have h1 := take_g (d := d') (k := j) (by omega)
  rw [List.getElem?_eq_getElem hj, e] at h1
  obtain ⟨_, σ, τ, x⟩ := h
  obtain ⟨_, p2, _, _, _, _, p7⟩ := x j (by omega) hj'
  have h2 := take_g (d := d) (k := σ j) (by omega)
  rw [← p7] at h2
  rw [Option.some.inj h1]
  exact hp _ (List.mem_of_getElem? h2)
end Go.Proofs.Ytjpkemamfccfdaa
/- A value stored over another one in its block. -/
namespace Go.Proofs.Ytjpkemamfccfdaa
open Go.RowKit

/-- A value stored over another one, cell by cell. -/
theorem Bx.put {w : World} {g : Nat} {k n : Int} {s : ByteArray} (h : Bx w g k n s) (k' n' : Int) (s' : ByteArray) : Bx (((w.setCell ⟨g, 0, none⟩ (.int .i64 k')).setCell ⟨g, 1, none⟩ (.int .i64 n')).setCell ⟨g, 2, none⟩ (.string s')) g k' n' s' := by
  unfold Bx
  simpa using ((Ob.put h 0 (.int .i64 k')).put 1 (.int .i64 n')).put 2 (.string s')
theorem Bx.past {w : World} {g g' : Nat} {k n : Int} {s : ByteArray} (h : Bx w g k n s) (hne : g ≠ g') (a b c : Value) : Bx (((w.setCell ⟨g', 0, none⟩ a).setCell ⟨g', 1, none⟩ b).setCell ⟨g', 2, none⟩ c) g k n s :=
  h.only (((Only.refl.setCell (p := ⟨g', 0, none⟩) rfl a).setCell (p := ⟨g', 1, none⟩) rfl b).setCell (p := ⟨g', 2, none⟩) rfl c) hne
theorem below_put {w0 w : World} {g B : Nat} (h : Below B w0 w) (hg : B ≤ g) (a b c : Value) : Below B w0 (((w.setCell ⟨g, 0, none⟩ a).setCell ⟨g, 1, none⟩ b).setCell ⟨g, 2, none⟩ c) :=
  ((h.setCell (p := ⟨g, 0, none⟩) hg a).setCell (p := ⟨g, 1, none⟩) hg b).setCell (p := ⟨g, 2, none⟩) hg c
end Go.Proofs.Ytjpkemamfccfdaa
/- strings.Clone. -/
namespace Go.Proofs.Ytjpkemamfccfdaa
set_option linter.unusedVariables false
open Go.RowKit

set_option maxRecDepth 10000 in
set_option maxHeartbeats 4000000 in
theorem slclone_any (s : ByteArray) (w : World) (hlim : s.size ≤ 1000000) :
    Calls Try.prog 75 #[.string s] w fun e w' => e = .returned (.string s) ∧ Below w.heap.size w w' := by
  by_cases h0 : s.size = 0
  · have hs : s = ⟨#[]⟩ := by
      apply ByteArray.ext
      exact Array.eq_empty_of_size_eq_zero h0
    subst hs
    clear h0 hlim
    go_enter Try.func75, Try.ntmps75
    go_wp2_with fail
    go_ret
    exact ⟨rfl, Below.refl _ _⟩
  · obtain ⟨i0, hi, hz0, hz1, hz2⟩ := info_parts u8info
    have hinfo : (Try.prog.info? 5).map (·.size) = some 1 := by rw [hi]; simp [hz1]
    have hco : Try.prog.cellsOf 5 = 1 := by simp [Program.cellsOf, hi, hz1]
    obtain ⟨M, hM⟩ : ∃ M, M = madeCells (Value.int .u8 0).cells (((s.size : Nat) : Int).toNat * i0.size) := ⟨_, rfl⟩
    have hMs : M.size = s.size := by rw [hM, size_madeCells, hz1]; simp
    have hmk : ∀ W : World, (Instr.makeSlice 61 (.int .i64 (s.size : Int)) (.int .i64 (s.size : Int))).run Try.prog W = .ok (.slice (some ⟨W.heap.size, 0, none⟩) s.size s.size) (W.alloc (.cells M 5)) := fun W => by
      have h := run_make (P := Try.prog) W 61 5 i0 (.int .u8 0) Try.underlying61 hi hz0 .i64 .i64 (s.size : Int) (s.size : Int) (by omega) (by omega) (by rw [hz2]; omega) (by omega)
      rw [← hM] at h
      simpa using h
    clear hM
    have hcp := Lib.run_copy_row_string (P := Try.prog) (w.alloc (.cells M 5)) 61 9 3 5 w.heap.size 0 s.size s.size s M 5 Try.underlying61 hinfo (heap_alloc_new w _) (Nat.le_refl _) (by omega)
    obtain ⟨Y, hY⟩ : ∃ Y, Y = (M.toList.take 0 ++ Lib.byteCells s.data.toList ++ M.toList.drop (0 + s.size)).toArray := ⟨_, rfl⟩
    rw [← hY] at hcp
    have hYl : Y.toList = Lib.byteCells s.data.toList := by
      rw [hY, List.toList_toArray, List.take_zero, List.nil_append, List.drop_of_length_le (by rw [Array.length_toList]; omega), List.append_nil]
    have hYs : Y.size = s.size := by rw [← Array.length_toList, hYl, Lib.byteCells_length, ← Lib.size_eq]
    have hgY : ((w.alloc (.cells M 5)).setRow w.heap.size Y).heap[w.heap.size]? = some (.cells Y 5 (0, 0)) := setRow_heap _ _ M _ 5 (0, 0) (heap_alloc_new w _)
    have hne : s.data.toList ≠ [] := fun e => h0 (by rw [Lib.size_eq, e]; rfl)
    have hUS := Lib.run_unsafeString_row (P := Try.prog) ((w.alloc (.cells M 5)).setRow w.heap.size Y) 117 3 9 5 Try.underlying117 hco w.heap.size Y.size (by unfold World.shape?; rw [hgY]) s.data.toList hne (by rw [← Lib.size_eq]; omega) (by rw [← Lib.size_eq]; omega)
      (fun j x hx => Lib.cells_of_row hgY Y.size j _ (by rw [List.take_of_length_le (by rw [Array.length_toList]; exact Nat.le_refl _), hYl]; simp [Lib.byteCells, hx]))
    rw [← Lib.size_eq] at hUS
    have H0 := Lib.hid hYl
    have H1 := Lib.hid hne
    have H2 := Lib.hid hgY
    clear hY hYl hne hgY hco hinfo hi hz0 hz1 hz2
    go_enter Try.func75, Try.ntmps75
    go_wp2_with fail
    go_ret
    have hb1 : Below w.heap.size w (w.alloc (.cells M 5)) := (Below.refl _ w).alloc (Nat.le_refl _) _
    have hb2 : Below w.heap.size (w.alloc (.cells M 5)) ((w.alloc (.cells M 5)).setRow w.heap.size Y) := ⟨rfl, rfl, rfl, by simp, fun k hk => setRow_other _ _ _ _ (by omega)⟩
    exact ⟨rfl, Lib.below_freeze (hb1.trans hb2) (p := ⟨w.heap.size, 0, none⟩) (Nat.le_refl _) _⟩

set_option maxHeartbeats 800000 in
theorem clone_any (s : ByteArray) (w : World) (hlim : s.size ≤ 1000000) :
    Calls Try.prog 60 #[.string s] w fun e w' => e = .returned (.string s) ∧ Below w.heap.size w w' := by
  have H := Lib.hid (slclone_any s w hlim)
  clear hlim
  go_enter Try.func60, Try.ntmps60
  go_wp2_with (go_at_call 75; refine H.out.mono ?_; rintro e w' ⟨rfl, hb⟩)
  go_ret
  exact ⟨rfl, hb⟩
end Go.Proofs.Ytjpkemamfccfdaa
