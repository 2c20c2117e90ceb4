/- Several texts in one: Mk, Cells, MarkRow, Comb, MkLaws, KeepLeft, KeepSmall, PolCountsM, PolicyNamesM, EvalMath. -/
import Derived.Test.YtmoglaknmlhpgaaGreatDoorOnlF
import Derived.Test.YtmoglaknmlhpgaaGreatDoorOnlA
import Derived.Test.YtmoglaknmlhpgaaGreatDoorOnlC
import Derived.Test.YtmoglaknmlhpgaaGreatDoorOnlE
/- Marks as pairs of quarters; the algorithms over lists of them (plain). -/
namespace Go.Proofs.YtmoglaknmlhpgaaGreatDoor

abbrev Mk := Fin 5 × Fin 5
def joinM (j m : Mk) : Mk := (hiF j.1 m.1, hiF j.2 m.2)
def turnM (j : Mk) : Mk := (j.2, j.1)
def overM (j : Mk) : Mk := (overP j.1 j.2, overD j.1 j.2)
def rightK (m : Mk) : Bool := rightM m.1 m.2
def firstM (j m : Mk) : Mk := if j = (0, 0) then m else j
def onlyM (j m : Mk) : Mk := if j = (0, 0) then m else if m = (0, 0) then j else (2, 2)
def sureB (j : Mk) : Bool := j = (0, 0) || j = (4, 0) || j = (0, 4)
def sureM (j : Mk) : Mk := if sureB j then j else (2, 2)
def stepM (a : Fin 6) (j m : Mk) : Mk := if a = 2 then firstM j m else if a = 3 then onlyM j m else joinM j m
def decideM (a : Fin 6) (j : Mk) : Mk :=
 if a = 0 then overM j else if a = 1 then turnM (overM (turnM j)) else if a = 2 then j else if a = 3 then sureM j
 else if a = 4 then (if j.1 = 4 then (4, 0) else (0, 4)) else (if j.2 = 4 then (0, 4) else (4, 0))
def foldM (a : Fin 6) (l : List Mk) : Mk := l.foldl (stepM a) (0, 0)
def makeM (a : Fin 6) (l : List Mk) : Mk := decideM a (foldM a l)
def Six (l : List Mk) : Prop := ∀ m ∈ l, rightK m = true

theorem hi_0l : ∀ i : Fin 5, hiF 0 i = i := by decide +kernel
theorem hi_0r : ∀ i : Fin 5, hiF i 0 = i := by decide +kernel
theorem hi_assoc : ∀ i j k : Fin 5, hiF (hiF i j) k = hiF i (hiF j k) := by decide +kernel
theorem join_0l (m : Mk) : joinM (0, 0) m = m := by obtain ⟨p, d⟩ := m; simp only [joinM, hi_0l]
theorem join_0r (m : Mk) : joinM m (0, 0) = m := by obtain ⟨p, d⟩ := m; simp only [joinM, hi_0r]
theorem join_assoc (x y z : Mk) : joinM (joinM x y) z = joinM x (joinM y z) := by simp only [joinM, hi_assoc]

theorem step_0l (a : Fin 6) (m : Mk) : stepM a (0, 0) m = m := by
 unfold stepM
 split
 ·simp [firstM]
 ·split
  ·simp [onlyM]
  ·exact join_0l m
theorem step_0r (a : Fin 6) (m : Mk) : stepM a m (0, 0) = m := by
 unfold stepM
 split
 ·unfold firstM; split
  ·next h => exact h.symm
  ·rfl
 ·split
  ·unfold onlyM; split
   ·next h => exact h.symm
   ·simp
  ·exact join_0r m
theorem step_assoc (a : Fin 6) (x y z : Mk) : stepM a (stepM a x y) z = stepM a x (stepM a y z) := by
 unfold stepM
 split
 ·unfold firstM
  by_cases h : x = (0, 0) <;> simp [h]
 ·split
  ·unfold onlyM
   by_cases hx : x = (0, 0)
   ·simp [hx]
   ·by_cases hy : y = (0, 0)
    ·simp [hx, hy]
    ·by_cases hz : z = (0, 0)
     ·simp [hx, hy, hz]
     ·simp [hx, hy, hz]
  ·exact join_assoc x y z
theorem fold_from (a : Fin 6) (l : List Mk) : ∀ x, l.foldl (stepM a) x = stepM a x (foldM a l) := by
 induction l with
 | nil => intro x; exact (step_0r a x).symm
 | cons m l ih =>
  intro x
  have e : foldM a (m :: l) = stepM a m (foldM a l) := by
   show List.foldl (stepM a) (stepM a (0, 0) m) l = _
   rw [ih, step_0l]
  rw [List.foldl_cons, ih, e, step_assoc]
theorem fold_app (a : Fin 6) (l k : List Mk) : foldM a (l ++ k) = stepM a (foldM a l) (foldM a k) := by
 rw [foldM, List.foldl_append, fold_from]; rfl
theorem fold_take (a : Fin 6) {l : List Mk} {k : Nat} {m : Mk} (h : l[k]? = some m) : foldM a (l.take (k + 1)) = stepM a (foldM a (l.take k)) m := by
 obtain ⟨hk, e⟩ := List.getElem?_eq_some_iff.1 h
 rw [List.take_succ_eq_append_getElem hk, e, fold_app]
 show stepM a _ (stepM a (0, 0) m) = _
 rw [step_0l]
end Go.Proofs.YtmoglaknmlhpgaaGreatDoor
/- append of one cell to a row of the call's own. -/
namespace Go.Proofs.YtmoglaknmlhpgaaGreatDoor
set_option linter.unusedVariables false
open Go.RowKit

theorem append_cell {P : Program} {T E : TypeId} {i : TypeInfo} {z x : Value} {by_ : Nat} (ht : P.underlying T = some (.slice E)) (hi : P.info? E = some i) (hz : i.zero = some z) (hz1 : z.oneCell' = true) (hs : i.size = 1) (hb : i.bytes = by_) (hby : by_ ≤ 1000) (h1 : x.oneCell' = true)
  {w : World} {base n c ty : Nat} {A : Option Addr} {xs : List Value} (h : w.ownsRow base E 1 (.slice A n c) n xs) (hn : n ≤ 1000000) (hbase : base ≤ w.heap.size) :
  ∃ A' c' w', (Builtin.append_ #[T, T] ty #[.slice A n c, .slice (some ⟨w.heap.size, 0, none⟩) 1 1]).run P (w.alloc (.cells #[x] E)) = .ok (.slice A' (n + 1) c') w' ∧
   w'.ownsRow base E 1 (.slice A' (n + 1) c') (n + 1) (xs ++ [x]) ∧ Below base w w' := by
 obtain ⟨v', w', hrun, h2, h3, h4⟩ := run_append_own (P := P) (w.alloc (.cells #[x] E)) base T ty E i z 1 by_ ht hi hz hs hb (by cases z <;> first | rfl | cases hz1) (by omega) (.slice A n c) n xs (h.alloc _)
  ⟨w.heap.size, 0, none⟩ 1 1 [x] rfl (by
   intro j u hu
   match j, hu with
   | 0, hu => simp at hu; subst hu; simp [Addr.add, World.cell?_alloc_at]
   | j + 1, hu => simp at hu) (by simpa using h1) (by unfold maxLen; omega) (by
    have : (n + 1) * by_ ≤ 1000001 * 1000 := Nat.mul_le_mul (by omega) hby
    omega) (by simp; omega)
 have hform : ∃ A' c', v' = .slice A' (n + 1) c' := by
  rcases h2.2 with ⟨_, hz⟩ | ⟨g, cap, cur, hv, _⟩
  ·omega
  ·exact ⟨_, _, hv⟩
 obtain ⟨A', c', rfl⟩ := hform
 refine ⟨A', c', w', hrun, h2, ?_⟩
 refine ((Below.refl base w).alloc hbase _).grown h3 (by simp; omega) (fun k hk => ?_)
 exact (h.lt k hk).1
end Go.Proofs.YtmoglaknmlhpgaaGreatDoor
/- Rows of marks: cells, and what a slice of them reads as. -/
namespace Go.Proofs.YtmoglaknmlhpgaaGreatDoor
set_option linter.unusedVariables false
open Go.RowKit

def mcell (m : Mk) : Value := .complex .f64 (fl m.1) (fl m.2)
def mv (l : List Mk) : List Value := l.map mcell
theorem mv_len (l : List Mk) : (mv l).length = l.length := by simp [mv]
theorem mv_app (l m : List Mk) : mv (l ++ m) = mv l ++ mv m := by simp [mv]
theorem mv_get {l : List Mk} {k : Nat} {m : Mk} (h : l[k]? = some m) : (mv l)[k]? = some (mcell m) := by simp [mv, h]
theorem one_mv {l : List Mk} : ∀ v ∈ mv l, v.oneCell' = true := by
 intro v hv
 obtain ⟨c, _, rfl⟩ := List.mem_map.1 hv
 rfl
theorem Sl.mlen {w : World} {B n c : Nat} {A : Option Addr} {l : List Mk} (h : Sl w B A n c (mv l)) : l.length = n := by rw [← mv_len]; exact h.1
theorem Sl.mark {w : World} {B n c : Nat} {A : Option Addr} {l : List Mk} (h : Sl w B A n c (mv l)) {k : Nat} (hk : k < n) : ∃ b o p d, A = some ⟨b, o, none⟩ ∧ b < B ∧ l[k]? = some (p, d) ∧ w.cell? ⟨b, o + k, none⟩ = some (.complex .f64 (fl p) (fl d)) := by
 obtain ⟨b, o, u, e, hb, hx, hc⟩ := h.at_ hk
 have hl : k < l.length := by rw [h.mlen]; exact hk
 have hg := List.getElem?_eq_getElem hl
 rw [mv_get hg] at hx
 injection hx with hx
 subst hx
 exact ⟨b, o, l[k].1, l[k].2, e, hb, hg, hc⟩
theorem markinfo : (Tryz.prog.info? 42).map (fun i => (i.zero, i.size, i.bytes)) = some (some (.complex .f64 0 0), 1, 16) := by kernel_rfl
end Go.Proofs.YtmoglaknmlhpgaaGreatDoor
/- Package combine: each function over marks whose parts are quarters. -/
namespace Go.Proofs.YtmoglaknmlhpgaaGreatDoor
set_option linter.unusedVariables false
open Go.RowKit
attribute [local go_sem] eq0 feq2 eq4 fgt0 gt2 ord_eq ord_gt ord_lt run_max_fl

def algB (a : Int) : Bool := decide (1 ≤ a) && decide (a ≤ 6)
def algN (a : Fin 6) : Int := 1 + (a.val : Int)
theorem alg6 : ∀ a : Fin 6, a = 0 ∧ algN a = 1 ∨ a = 1 ∧ algN a = 2 ∨ a = 2 ∧ algN a = 3 ∨ a = 3 ∧ algN a = 4 ∨ a = 4 ∧ algN a = 5 ∨ a = 5 ∧ algN a = 6 := by decide +kernel
theorem ret_m {m : Mk} {p d : Fin 5} (h : (p, d) = m) : Ending.returned (.complex .f64 (fl p) (fl d)) = .returned (mcell m) := by rw [← h]; rfl

theorem ret_k {a b : Nat} {m : Mk} (h : a = fl m.1) (k : b = fl m.2) : Ending.returned (.complex .f64 a b) = .returned (mcell m) := by rw [h, k]; rfl
theorem only_two {j m : Mk} (h : ¬ j = (0, 0)) (k : ¬ m = (0, 0)) : onlyM j m = (2, 2) := by rw [onlyM, if_neg h, if_neg k]

set_option maxHeartbeats 800000 in
theorem cright_any (a : Int) (w : World) : Calls Tryz.prog 100 #[.int .i64 a] w fun z w' => z = .returned (.bool (algB a)) ∧ w = w' := by
 by_cases h1 : 1 ≤ a
 ·by_cases h2 : a ≤ 6
  ·go_enter Tryz.func100, Tryz.ntmps100
   go_wp2
   go_ret
   exact ⟨ret_bool (by simp [algB, h1, h2]), rfl⟩
  ·go_enter Tryz.func100, Tryz.ntmps100
   go_wp2
   go_ret
   exact ⟨ret_bool (by simp [algB, h1, h2]), rfl⟩
 ·go_enter Tryz.func100, Tryz.ntmps100
  go_wp2
  go_ret
  exact ⟨ret_bool (by unfold algB; rw [decide_eq_false (by omega)]; rfl), rfl⟩
set_option maxHeartbeats 800000 in
theorem first_any (p d q e : Fin 5) (w : World) : Calls Tryz.prog 130 #[.complex .f64 (fl p) (fl d), .complex .f64 (fl q) (fl e)] w fun z w' => z = .returned (mcell (firstM (p, d) (q, e))) ∧ w = w' := by
 by_cases h : (p == 0 && d == 0) = true
 ·have hk : (p, d) = ((0, 0) : Mk) := by simpa using h
  go_enter Tryz.func130, Tryz.ntmps130
  go_wp2
  go_ret
  exact ⟨ret_m (by rw [hk]; rfl), rfl⟩
 ·have hk : ¬ (p, d) = ((0, 0) : Mk) := by simpa using h
  have h' : (p == 0 && d == 0) = false := by simpa using h
  clear h
  go_enter Tryz.func130, Tryz.ntmps130
  go_wp2
  go_ret
  exact ⟨ret_m (by rw [firstM, if_neg hk]), rfl⟩
set_option maxHeartbeats 800000 in
theorem only_any (p d q e : Fin 5) (w : World) : Calls Tryz.prog 131 #[.complex .f64 (fl p) (fl d), .complex .f64 (fl q) (fl e)] w fun z w' => z = .returned (mcell (onlyM (p, d) (q, e))) ∧ w = w' := by
 by_cases h : (p == 0 && d == 0) = true
 ·have hk : (p, d) = ((0, 0) : Mk) := by simpa using h
  go_enter Tryz.func131, Tryz.ntmps131
  go_wp2
  go_ret
  exact ⟨ret_m (by rw [hk]; rfl), rfl⟩
 ·have hk : ¬ (p, d) = ((0, 0) : Mk) := by simpa using h
  have h' : (p == 0 && d == 0) = false := by simpa using h
  clear h
  by_cases g : (q == 0 && e == 0) = true
  ·have gk : (q, e) = ((0, 0) : Mk) := by simpa using g
   go_enter Tryz.func131, Tryz.ntmps131
   go_wp2
   go_ret
   exact ⟨ret_m (by rw [onlyM, if_neg hk, if_pos gk]), rfl⟩
  ·have gk : ¬ (q, e) = ((0, 0) : Mk) := by simpa using g
   have g' : (q == 0 && e == 0) = false := by simpa using g
   clear g
   go_enter Tryz.func131, Tryz.ntmps131
   go_wp2
   go_ret
   exact ⟨ret_k (by rw [only_two hk gk, fl2]) (by rw [only_two hk gk, fl2]), rfl⟩
set_option maxHeartbeats 3200000 in
theorem sure_any (p d : Fin 5) (w : World) : Calls Tryz.prog 134 #[.complex .f64 (fl p) (fl d)] w fun z w' => z = .returned (mcell (sureM (p, d))) ∧ w = w' := by
 obtain rfl | rfl | rfl | rfl | rfl := five p
 all_goals
  obtain rfl | rfl | rfl | rfl | rfl := five d
  all_goals
   go_enter Tryz.func134, Tryz.ntmps134
   go_wp2
   go_ret
   exact ⟨ret_k (by decide +kernel) (by decide +kernel), rfl⟩
set_option maxHeartbeats 800000 in
theorem unless_any (p a b c d : Fin 5) (w : World) : Calls Tryz.prog 135 #[.float .f64 (fl p), .complex .f64 (fl a) (fl b), .complex .f64 (fl c) (fl d)] w fun z w' => z = .returned (mcell (if p = 4 then (a, b) else (c, d))) ∧ w = w' := by
 by_cases h : p = 4
 ·have hb : (p == 4) = true := by simp [h]
  rw [if_pos h]
  clear h
  go_enter Tryz.func135, Tryz.ntmps135
  go_wp2
  go_ret
  exact ⟨rfl, rfl⟩
 ·have hb : (p == 4) = false := by simp [h]
  rw [if_neg h]
  clear h
  go_enter Tryz.func135, Tryz.ntmps135
  go_wp2
  go_ret
  exact ⟨rfl, rfl⟩
set_option maxHeartbeats 800000 in
theorem step_any (a : Fin 6) (p d q e : Fin 5) (w : World) : Calls Tryz.prog 102 #[.int .i64 (algN a), .complex .f64 (fl p) (fl d), .complex .f64 (fl q) (fl e)] w fun z w' => z = .returned (mcell (stepM a (p, d) (q, e))) ∧ w = w' := by
 have c1 := Lib.hid (join_any p d q e)
 have c2 := Lib.hid (first_any p d q e)
 have c3 := Lib.hid (only_any p d q e)
 obtain ⟨rfl, h⟩ | ⟨rfl, h⟩ | ⟨rfl, h⟩ | ⟨rfl, h⟩ | ⟨rfl, h⟩ | ⟨rfl, h⟩ := alg6 a
 all_goals
  rw [h]
  clear h
  go_enter Tryz.func102, Tryz.ntmps102
  go_wp2_with fail
  first
   | refine (c1.out _).mono ?_
   | refine (c2.out _).mono ?_
   | refine (c3.out _).mono ?_
  rintro z w' ⟨rfl, rfl⟩
  go_wp2
  go_ret
  exact ⟨rfl, rfl⟩
set_option maxHeartbeats 1600000 in
theorem decide_any (a : Fin 6) (p d : Fin 5) (w : World) : Calls Tryz.prog 103 #[.int .i64 (algN a), .complex .f64 (fl p) (fl d)] w fun z w' => z = .returned (mcell (decideM a (p, d))) ∧ w = w' := by
 have u1 := unless_any p 4 0 0 4
 have u2 := unless_any d 0 4 4 0
 rw [fl0, fl4] at u1
 rw [fl0, fl4] at u2
 generalize hm : (if p = 4 then ((4, 0) : Mk) else (0, 4)) = m at u1
 generalize hk : (if d = 4 then ((0, 4) : Mk) else (4, 0)) = k at u2
 have HM := Lib.hid hm
 have HK := Lib.hid hk
 clear hm hk
 have c1 := Lib.hid (over_any p d)
 have c2 := Lib.hid (turn_any p d)
 have c3 := Lib.hid (over_any d p)
 have c4 := Lib.hid (turn_any (overP d p) (overD d p))
 have c5 := Lib.hid (sure_any p d)
 have c6 := Lib.hid u1
 have c7 := Lib.hid u2
 clear u1 u2
 obtain ⟨rfl, h⟩ | ⟨rfl, h⟩ | ⟨rfl, h⟩ | ⟨rfl, h⟩ | ⟨rfl, h⟩ | ⟨rfl, h⟩ := alg6 a
 all_goals
  rw [h]
  clear h
  go_enter Tryz.func103, Tryz.ntmps103
  go_wp2_with fail
 ·refine (c1.out _).mono ?_
  rintro z w' ⟨rfl, rfl⟩
  go_wp2
  go_ret
  exact ⟨rfl, rfl⟩
 ·refine (c2.out _).mono ?_
  rintro z w' ⟨rfl, rfl⟩
  go_wp2_with fail
  refine (c3.out _).mono ?_
  rintro z w' ⟨rfl, rfl⟩
  go_wp2_with fail
  refine (c4.out _).mono ?_
  rintro z w' ⟨rfl, rfl⟩
  go_wp2
  go_ret
  exact ⟨rfl, rfl⟩
 ·go_ret
  exact ⟨rfl, rfl⟩
 ·refine (c5.out _).mono ?_
  rintro z w' ⟨rfl, rfl⟩
  go_wp2
  go_ret
  exact ⟨rfl, rfl⟩
 ·refine (c6.out _).mono ?_
  rintro z w' ⟨rfl, rfl⟩
  go_wp2
  go_ret
  exact ⟨congrArg (fun m => Ending.returned (mcell m)) HM.out.symm, rfl⟩
 ·refine (c7.out _).mono ?_
  rintro z w' ⟨rfl, rfl⟩
  go_wp2
  go_ret
  exact ⟨congrArg (fun m => Ending.returned (mcell m)) HK.out.symm, rfl⟩
set_option maxHeartbeats 800000 in
theorem cmarks_any {w : World} {B n c : Nat} {A : Option Addr} {l : List Mk} (h : Sl w B A n c (mv l)) :
  Calls Tryz.prog 101 #[.slice A n c] w fun z w' => z = .returned (.bool (l.all rightK)) ∧ w = w' := by
 have hcap := h.cap
 have hle := h.le
 unfold maxLen at hcap
 have H := Lib.hid h
 have HL := Lib.hid h.mlen
 clear h
 go_enter Tryz.func101, Tryz.ntmps101
 go_wp2_with fail
 go_loop [7] (fun i => ∃ k : Nat, k ≤ n ∧ i = .int .i64 k ∧ (l.take k).all rightK = true) (fun i => n - (intOf i).toNat)
 case atStart => exact ⟨0, Nat.zero_le _, rfl, rfl⟩
 case round =>
  obtain ⟨k, hk, rfl, ht⟩ := hrel
  have HT := Lib.hid ht
  clear ht
  by_cases hlt : k < n
  ·obtain ⟨b, o, p, d, rfl, _, hx, hc⟩ := H.out.mark hlt
   have HX := Lib.hid hx
   clear hx
   have c1 := mright_any p d
   by_cases hr : rightM p d = true
   ·rw [hr] at c1
    have C1 := Lib.hid c1
    have HR := Lib.hid hr
    clear c1 hr
    go_wp2_with fail
    refine (C1.out _).mono ?_
    rintro z w' ⟨rfl, rfl⟩
    go_wp2_with fail
    go_round
    case rel =>
     refine ⟨k + 1, by omega, by go_num, ?_⟩
     obtain ⟨hk', e⟩ := List.getElem?_eq_some_iff.1 HX.out
     rw [List.take_succ_eq_append_getElem hk', e, List.all_append, HT.out]
     simpa [rightK] using HR.out
    case measure => simp [intOf]; omega
   ·have hr' : rightM p d = false := by simpa using hr
    rw [hr'] at c1
    have C1 := Lib.hid c1
    have HR := Lib.hid hr'
    clear c1 hr hr'
    go_wp2_with fail
    refine (C1.out _).mono ?_
    rintro z w' ⟨rfl, rfl⟩
    go_wp2_with fail
    go_ret
    refine ⟨ret_bool ?_, rfl⟩
    symm
    rw [List.all_eq_false]
    exact ⟨(p, d), List.mem_of_getElem? HX.out, by simpa [rightK] using HR.out⟩
  ·obtain rfl : k = n := by omega
   go_wp2_with fail
   go_ret
   refine ⟨ret_bool ?_, rfl⟩
   have := HT.out
   rw [List.take_of_length_le (by rw [HL.out]; omega)] at this
   exact this.symm

def allK (a : Int) (l : List Mk) : Mk × Int := if algB a && l.all rightK then (makeM (if a = 2 then 1 else if a = 3 then 2 else if a = 4 then 3 else if a = 5 then 4 else if a = 6 then 5 else 0) l, 0) else ((0, 0), 1)
theorem allK_right (a : Fin 6) {l : List Mk} (h : Six l) : allK (algN a) l = (makeM a l, 0) := by
 have hr : l.all rightK = true := List.all_eq_true.2 h
 unfold allK
 rw [hr]
 obtain ⟨rfl, e⟩ | ⟨rfl, e⟩ | ⟨rfl, e⟩ | ⟨rfl, e⟩ | ⟨rfl, e⟩ | ⟨rfl, e⟩ := alg6 a <;> rw [e] <;> rfl
theorem alg_of {a : Int} (h : algB a = true) : ∃ i : Fin 6, a = algN i := by
 simp only [algB, Bool.and_eq_true, decide_eq_true_eq] at h
 refine ⟨⟨(a - 1).toNat, by omega⟩, ?_⟩
 unfold algN
 simp only
 omega
set_option maxHeartbeats 800000 in
theorem all_six {w : World} {B n c : Nat} {A : Option Addr} {l : List Mk} (a : Fin 6) (h : Sl w B A n c (mv l)) (h6 : Six l) :
  Calls Tryz.prog 65 #[.int .i64 (algN a), .slice A n c] w fun z w' => z = .returned (.tuple #[mcell (makeM a l), .int .i64 0]) ∧ w = w' := by
 have hcap := h.cap
 have hle := h.le
 unfold maxLen at hcap
 have hall := fun w => (fun (h : Sl w B A n c (mv l)) => cmarks_any h)
 rw [List.all_eq_true.2 h6] at hall
 have hr := cright_any (algN a)
 have hb : algB (algN a) = true := by obtain ⟨rfl, e⟩ | ⟨rfl, e⟩ | ⟨rfl, e⟩ | ⟨rfl, e⟩ | ⟨rfl, e⟩ | ⟨rfl, e⟩ := alg6 a <;> rfl
 rw [hb] at hr
 have HALL := Lib.hid (hall w h)
 have HR := Lib.hid hr
 have H := Lib.hid h
 have HL := Lib.hid h.mlen
 clear h hall hr hb
 generalize hn : algN a = x at *
 have HN := Lib.hid hn
 clear hn
 go_enter Tryz.func65, Tryz.ntmps65
 go_wp2_with fail
 refine (HR.out _).mono ?_
 rintro z w' ⟨rfl, rfl⟩
 go_wp2_with fail
 refine HALL.out.mono ?_
 rintro z w' ⟨rfl, rfl⟩
 go_wp2_with fail
 go_loop [6, 19] (fun j i => ∃ k : Nat, k ≤ n ∧ i = .int .i64 k ∧ ∃ p d : Fin 5, j = .complex .f64 (fl p) (fl d) ∧ foldM a (l.take k) = (p, d)) (fun _ i => n - (intOf i).toNat)
 case atStart => exact ⟨0, Nat.zero_le _, rfl, 0, 0, by rw [fl0], rfl⟩
 case round =>
  obtain ⟨k, hk, rfl, p, d, rfl, ht⟩ := hrel
  have HT := Lib.hid ht
  clear ht
  by_cases hlt : k < n
  ·obtain ⟨b, o, q, e, rfl, _, hx, hc⟩ := H.out.mark hlt
   have HX := Lib.hid hx
   clear hx
   have c1 := step_any a p d q e
   rw [HN.out] at c1
   have C1 := Lib.hid c1
   clear c1
   go_wp2_with fail
   refine (C1.out _).mono ?_
   rintro z w' ⟨rfl, rfl⟩
   go_wp2_with fail
   go_round
   case rel => exact ⟨k + 1, by omega, by go_num, _, _, rfl, by rw [fold_take a HX.out, HT.out]⟩
   case measure => simp [intOf]; omega
  ·obtain rfl : k = n := by omega
   have c1 := decide_any a p d
   rw [HN.out] at c1
   have C1 := Lib.hid c1
   clear c1
   go_wp2_with fail
   refine (C1.out _).mono ?_
   rintro z w' ⟨rfl, rfl⟩
   go_wp2_with fail
   go_ret2
   have := HT.out
   rw [List.take_of_length_le (by rw [HL.out]; omega)] at this
   exact ⟨by unfold makeM; rw [this]; rfl, rfl⟩
theorem all_to {w : World} {B n c : Nat} {A : Option Addr} {l : List Mk} (a : Fin 6) {p d : Fin 5} (h : Sl w B A n c (mv l)) (h6 : Six l) (hm : makeM a l = (p, d)) :
  Calls Tryz.prog 65 #[.int .i64 (1 + (a.val : Int)), .slice A n c] w fun z w' => z = .returned (.tuple #[.complex .f64 (fl p) (fl d), .int .i64 0]) ∧ w = w' := by
 have := all_six a h h6
 rw [hm] at this
 exact this
end Go.Proofs.YtmoglaknmlhpgaaGreatDoor
/- What the algorithms make of rows of the six (plain): turned, sure, one alone, many. -/
namespace Go.Proofs.YtmoglaknmlhpgaaGreatDoor

end Go.Proofs.YtmoglaknmlhpgaaGreatDoor
/- bailiffkeep: how much may be gone through: takes, text. -/
namespace Go.Proofs.YtmoglaknmlhpgaaGreatDoor
set_option linter.unusedVariables false
open Go.RowKit

def Lf (w : World) (g m : Nat) : Prop := Ob w g 53 #[.int .i64 (m : Int)]
def Taking (f : FuncId) (args : Array Value) (w : World) (g m c : Nat) : Prop :=
 Calls Tryz.prog f args w fun e w' => e = .returned (.bool (decide (c ≤ m))) ∧ Only g w w' ∧ (c ≤ m → Lf w' g (m - c))
theorem Only.kept {g : Nat} {w w' : World} (h : Only g w w') {R : Nat → Prop} (hR : ∀ b, R b → b ≠ g) : Kept R w w' := ⟨h.le, fun b hb hl => h.heap hl (hR b hb)⟩
theorem Only.alloc (g : Nat) (w : World) (o : Obj) : Only g w (w.alloc o) := Only.of_below ((Below.refl _ _).alloc (Nat.le_refl _) _)

theorem takes_any {w : World} {g m n : Nat} (hl : Lf w g m) (hm : m ≤ 3000) (hn : n ≤ maxLen) : Taking 14 #[.pointer (some ⟨g, 0, none⟩), .int .i64 (n : Int)] w g m n := by
 unfold Taking
 have c0 := hl.cell 0
 have f0 := hl.frozen 0
 have HL := Lib.hid hl
 unfold maxLen at hn
 clear hl
 by_cases h : n ≤ m
 ·have h' : ¬ (m : Int) < (n : Int) := by omega
  have e : (m : Int) - (n : Int) = ((m - n : Nat) : Int) := by omega
  have HD := Lib.hid h
  clear h
  go_enter Tryz.func14, Tryz.ntmps14
  go_wp2_with fail
  go_ret
  refine ⟨ret_bool (decide_eq_true HD.out).symm, Only.refl.setCell rfl _, fun _ => ?_⟩
  have := HL.out.put 0 (.int .i64 ((m - n : Nat) : Int))
  simpa [Lf] using this
 ·have h' : (m : Int) < (n : Int) := by omega
  have HD := Lib.hid h
  clear h
  go_enter Tryz.func14, Tryz.ntmps14
  go_wp2_with fail
  go_ret
  exact ⟨ret_bool (decide_eq_false HD.out).symm, Only.refl, fun h => absurd h HD.out⟩

def textC (s : ByteArray) : Nat := 1 + s.size / 8
theorem ktext_any {w : World} {g m : Nat} (s : ByteArray) (hl : Lf w g m) (hm : m ≤ 3000) (hs : s.size ≤ maxLen) : Taking 15 #[.pointer (some ⟨g, 0, none⟩), .string s] w g m (textC s) := by
 unfold maxLen at hs
 have HT := Lib.hid (takes_any (n := textC s) hl hm (by unfold maxLen textC; omega))
 have e : ((textC s : Nat) : Int) = 1 + (s.size : Int) / 8 := by unfold textC; omega
 unfold Taking at HT ⊢
 rw [e] at HT
 clear hl e
 go_enter Tryz.func15, Tryz.ntmps15
 go_wp2_with (go_at_call 14; refine HT.out.mono ?_; rintro e w1 ⟨rfl, hb, hw⟩)
 go_ret
 exact ⟨rfl, hb, hw⟩

def sumC {α : Type} (f : α → Nat) : List α → Nat
 | [] => 0
 | x :: l => f x + sumC f l
theorem sumC_app {α : Type} (f : α → Nat) : ∀ (l m : List α), sumC f (l ++ m) = sumC f l + sumC f m
 | [], m => by simp [sumC]
 | x :: l, m => by simp only [List.cons_append, sumC, sumC_app f l m]; omega
theorem sumC_take {α : Type} {f : α → Nat} {l : List α} {k : Nat} {x : α} (h : l[k]? = some x) : sumC f (l.take (k + 1)) = sumC f (l.take k) + f x := by
 obtain ⟨hk, rfl⟩ := List.getElem?_eq_some_iff.1 h
 rw [List.take_succ_eq_append_getElem hk, sumC_app]
 rfl
theorem sumC_zero {α : Type} (f : α → Nat) (l : List α) : sumC f (l.take 0) = 0 := by simp [sumC]
theorem sumC_all {α : Type} {f : α → Nat} {l : List α} {n : Nat} (h : l.length = n) : sumC f (l.take n) = sumC f l := by rw [List.take_of_length_le (by omega)]
theorem sumC_le {α : Type} {f : α → Nat} {l : List α} {k : Nat} {x : α} (h : l[k]? = some x) : sumC f (l.take k) + f x ≤ sumC f l := by
 rw [← sumC_take h]
 have := sumC_app f (l.take (k + 1)) (l.drop (k + 1))
 rw [List.take_append_drop] at this
 omega
theorem sumC_mem {α : Type} {f : α → Nat} {l : List α} {x : α} (h : x ∈ l) : f x ≤ sumC f l := by
 obtain ⟨k, hk, rfl⟩ := List.getElem_of_mem h
 have := sumC_le (f := f) (List.getElem?_eq_getElem hk)
 omega
theorem Lf.alloc {w : World} {g m : Nat} (h : Lf w g m) (o : Obj) : Lf (w.alloc o) g m := Ob.keep h (Below.heap_alloc w o g (Ob.lt h))
end Go.Proofs.YtmoglaknmlhpgaaGreatDoor
/- bailiffkeep: how much of a policy may be gone through: obls. -/
namespace Go.Proofs.YtmoglaknmlhpgaaGreatDoor
set_option linter.unusedVariables false
open Go.RowKit

def dutC (o : Dut) : Nat := textC o.arg
def dutsC (l : List Dut) : Nat := l.length + sumC dutC l
def matC (m : Mat) : Nat := textC m.a.name + textC m.v.s
def allC (l : List Mat) : Nat := 1 + l.length + sumC matC l
def anyC (l : List (List Mat)) : Nat := 1 + l.length + sumC allC l
def tgC (t : Tgt) : Nat := 1 + t.length + sumC anyC t


set_option maxHeartbeats 1600000 in
theorem kobls_any {w : World} {R : Nat → Prop} {g m n c : Nat} {A : Option Addr} {l : List Dut} (hl : Lf w g m) (hm : m ≤ 3000) (hR : ∀ b, R b → b ≠ g) (h : Dus w R A n c l) :
  Taking 27 #[.pointer (some ⟨g, 0, none⟩), .slice A n c] w g m (dutsC l) := by
 have hle := Rw.le h
 have hcap := Rw.cap h
 have HL := Lib.hid (Rw.len h)
 have HT := Lib.hid (takes_any (n := n) hl hm (by omega))
 have H := Lib.hid h
 have HR := Lib.hid hR
 have HM := Lib.hid hm
 unfold maxLen at hcap
 unfold Taking at HT ⊢
 have HC : Hid (dutsC l = n + sumC dutC l) := by show dutsC l = _; unfold dutsC; rw [HL.out]
 generalize hcc : dutsC l = cc at *
 clear hcc h hl hR hm
 by_cases h1 : n ≤ m
 ·rw [decide_eq_true h1] at HT
  have H1 := Lib.hid h1
  clear h1
  go_enter Tryz.func27, Tryz.ntmps27
  go_wp2_with (go_at_call 14; refine HT.out.mono ?_; rintro e w1 ⟨rfl, hb, hw⟩; have B1 := Lib.hid hb; have W1 := Lib.hid (hw H1.out); clear hb hw)
  go_loopw [14] (fun i wr => ∃ k mk : Nat, k ≤ n ∧ i = .int .i64 k ∧ sumC dutC (l.take k) + mk = m - n ∧ Lf wr g mk ∧ Only g w wr) (fun i _ => n - (intOf i).toNat)
  case atStart => exact ⟨0, m - n, Nat.zero_le _, rfl, by rw [sumC_zero]; omega, W1.out, B1.out⟩
  case round =>
   obtain ⟨k, mk, hk, rfl, hs, hlf, hb⟩ := hrel
   have HS := Lib.hid hs
   have HB := Lib.hid hb
   have HF := Lib.hid hlf
   clear hs hb hlf
   by_cases hlt : k < n
   ·obtain ⟨b, o, x, rfl, hRb, hbl, hx, hok, c0, c1, c2⟩ := (H.out.keep (HB.out.kept HR.out) (fun _ h _ => h)).at_ hlt
    have HX := Lib.hid hx
    have HXT := Lib.hid (ktext_any x.arg (HF.out.alloc (.cells #[.int .i64 x.on, .int .i64 x.kind, .string x.arg] 65)) (by have := HS.out; have := HM.out; omega) hok.2.2)
    unfold Taking at HXT
    clear hx hok
    by_cases h2 : textC x.arg ≤ mk
    ·rw [decide_eq_true h2] at HXT
     have H2 := Lib.hid h2
     clear h2
     go_wp2_with (go_at_call 15; refine HXT.out.mono ?_; rintro e w2 ⟨rfl, hb, hw⟩; have B2 := Lib.hid hb; have W2 := Lib.hid (hw H2.out); clear hb hw)
     go_roundw
     case rel => exact ⟨k + 1, mk - textC x.arg, by omega, by go_num, by rw [sumC_take HX.out]; have := HS.out; have := H2.out; show _ + textC x.arg + _ = _; omega, W2.out, HB.out.trans ((Only.alloc _ _ _).trans B2.out)⟩
     case measure => simp [intOf]; omega
    ·rw [decide_eq_false h2] at HXT
     have H2 := Lib.hid h2
     clear h2
     go_wp2_with (go_at_call 15; refine HXT.out.mono ?_; rintro e w2 ⟨rfl, hb, hw⟩; have B2 := Lib.hid hb; clear hb hw)
     go_ret
     have hbad : ¬ cc ≤ m := by
      have := sumC_le (f := dutC) HX.out
      have := HC.out; have := HS.out; have := H1.out; have := H2.out
      have e : dutC x = textC x.arg := rfl
      omega
     exact ⟨ret_bool (decide_eq_false hbad).symm, HB.out.trans ((Only.alloc _ _ _).trans B2.out), fun h => absurd h hbad⟩
   ·obtain rfl : k = n := by omega
    go_wp2
    go_ret
    have hs := HS.out
    rw [sumC_all HL.out] at hs
    have := HC.out
    have := H1.out
    exact ⟨ret_bool (decide_eq_true (by omega)).symm, HB.out, fun _ => by rw [show m - cc = mk by omega]; exact HF.out⟩
 ·rw [decide_eq_false h1] at HT
  have H1 := Lib.hid h1
  clear h1
  go_enter Tryz.func27, Tryz.ntmps27
  go_wp2_with (go_at_call 14; refine HT.out.mono ?_; rintro e w1 ⟨rfl, hb, hw⟩; have B1 := Lib.hid hb; clear hb hw)
  go_ret
  have hbad : ¬ cc ≤ m := by have := HC.out; have := H1.out; omega
  exact ⟨ret_bool (decide_eq_false hbad).symm, B1.out, fun h => absurd h hbad⟩
end Go.Proofs.YtmoglaknmlhpgaaGreatDoor
/- What a right policy's run leaves; a kid of it by itself (plain). -/
namespace Go.Proofs.YtmoglaknmlhpgaaGreatDoor
set_option linter.unusedVariables false

def Sub (t s : Seen) : Prop := (∀ x, metB x t.ids = true → metB x s.ids = true) ∧ t.n ≤ s.n
theorem metB_app (x : ByteArray) (l m : List ByteArray) : metB x (l ++ m) = (metB x l || metB x m) := by simp [metB, List.any_append]
theorem Sub.app {t s : Seen} (h : Sub t s) (add : List ByteArray) (m : Nat) : Sub ⟨t.ids ++ add, t.n + m⟩ ⟨s.ids ++ add, s.n + m⟩ := by
 refine ⟨fun x hx => ?_, by have := h.2; show t.n + m ≤ s.n + m; omega⟩
 rw [metB_app, Bool.or_eq_true] at hx ⊢
 exact hx.imp (h.1 x) id
theorem idS_sub {x : ByteArray} {s t s1 : Seen} (h : idS x s = some s1) (hs : Sub t s) : idS x t = some ⟨t.ids ++ [x], t.n⟩ ∧ s1 = ⟨s.ids ++ [x], s.n⟩ := by
 unfold idS at h ⊢
 split at h
 ·rename_i hc
  refine ⟨?_, (Option.some.inj h).symm⟩
  rw [if_pos]
  refine ⟨hc.1, ?_⟩
  cases hm : metB x t.ids with
  | false => rfl
  | true =>
   have := hs.1 x hm
   rw [hc.2] at this
   cases this
 ·cases h
theorem rule_n {r : Rul} {s s' : Seen} (h : ruleS r s = (0, s')) : s'.n = s.n + 1 ∧ s'.n ≤ 64 := by
 unfold ruleS at h
 cases hi : idS r.id s with
 | none => rw [hi] at h; simp at h
 | some s1 =>
  rw [hi] at h
  simp only at h
  have h1 := (idS_sub hi (t := s) ⟨fun _ h => h, Nat.le_refl _⟩).2
  split at h
  ·simp at h
  ·rename_i hn
   simp only [Prod.mk.injEq] at h
   rw [← h.2]
   subst h1
   exact ⟨rfl, Nat.le_of_not_lt hn⟩
end Go.Proofs.YtmoglaknmlhpgaaGreatDoor
/- PolicyNames: what becomes of a right policy whose names, rules or kids are changed (plain). -/
namespace Go.Proofs.YtmoglaknmlhpgaaGreatDoor
set_option linter.unusedVariables false

end Go.Proofs.YtmoglaknmlhpgaaGreatDoor
/- Decisions by a policy, plainly (chapter 14): P14.1 to P14.4 written out; what they come to. -/
namespace Go.Proofs.YtmoglaknmlhpgaaGreatDoor
set_option linter.unusedVariables false

structure Res where
 m : Mk
 ob : List Dut
def noRes : Res := ⟨(0, 0), []⟩
def dutsM (l : List Dut) (m : Mk) : List Dut :=
 if m = (4, 0) then l.filter (fun o => decide (o.on = 1)) else if m = (0, 4) then l.filter (fun o => decide (o.on = 2)) else []
def effM (deny : Bool) : Mk := if deny = true then (0, 4) else (4, 0)
def indM (m : Mk) : Mk := (indetP m.1 m.2, indetD m.1 m.2)
def ruleO (t c : Int) (r : Rul) : Res :=
 if t = 0 ∨ t = 2 ∧ c = 0 then noRes else if t = 1 ∨ c = 1 then ⟨indM (effM r.deny), []⟩ else ⟨effM r.deny, dutsM r.ob (effM r.deny)⟩
def ruleV (ask : List Giv) (r : Rul) : Res := ruleO (metI ask r.tg) (condP ask r.cond) r
def alongV (alg : Int) (m : Mk) : List Res → List Dut
 | [] => []
 | r :: l => if r.m = m then (if alg = 3 then r.ob else r.ob ++ alongV alg m l) else alongV alg m l
def joinV (alg : Int) (l : List Res) : Mk := (allK alg (l.map Res.m)).1
def polV (t alg : Int) (ob : List Dut) (l : List Res) : Res :=
 if t = 0 then noRes else if t = 1 then ⟨indM (joinV alg l), []⟩ else ⟨joinV alg l, alongV alg (joinV alg l) l ++ dutsM ob (joinV alg l)⟩
mutual
def evV (ask : List Giv) : Pol → Res
 | .mk id set alg tg rules kids ob => polV (metI ask tg) alg ob (rules.map (ruleV ask) ++ decL ask kids)
def decL (ask : List Giv) : List Pol → List Res
 | [] => []
 | p :: l => evV ask p :: decL ask l
end
theorem decL_map (ask : List Giv) : ∀ l : List Pol, decL ask l = l.map (evV ask)
 | [] => rfl
 | p :: l => by rw [decL, decL_map ask l]; rfl
def partsV (ask : List Giv) (p : Pol) : List Res := p.rules.map (ruleV ask) ++ p.kids.map (evV ask)
theorem decV_eq (ask : List Giv) (p : Pol) : evV ask p = polV (metI ask p.tg) p.alg p.ob (partsV ask p) := by
 obtain ⟨id, set, alg, tg, rules, kids, ob⟩ := p
 show evV ask (.mk id set alg tg rules kids ob) = polV (metI ask tg) alg ob (rules.map (ruleV ask) ++ kids.map (evV ask))
 rw [evV, decL_map]

def obR : List Rul → Nat
 | [] => 0
 | r :: l => r.ob.length + obR l
mutual
def szP : Pol → Nat
 | .mk id set alg tg rules kids ob => 1 + rules.length + ob.length + obR rules + szL kids
def szL : List Pol → Nat
 | [] => 0
 | p :: l => szP p + szL l
end
theorem szP_eq (p : Pol) : szP p = 1 + p.rules.length + p.ob.length + obR p.rules + szL p.kids := by
 obtain ⟨id, set, alg, tg, rules, kids, ob⟩ := p
 show szP (.mk id set alg tg rules kids ob) = 1 + rules.length + ob.length + obR rules + szL kids
 rw [szP]
theorem szP_pos (p : Pol) : 1 ≤ szP p := by rw [szP_eq]; omega
theorem szL_len : ∀ l : List Pol, l.length ≤ szL l
 | [] => Nat.zero_le _
 | p :: l => by have h1 := szP_pos p; have h2 := szL_len l; rw [szL]; simp only [List.length_cons]; omega
theorem dutsM_len (l : List Dut) (m : Mk) : (dutsM l m).length ≤ l.length := by
 unfold dutsM
 split
 ·exact List.length_filter_le _ _
 ·split
  ·exact List.length_filter_le _ _
  ·exact Nat.zero_le _
theorem ruleT_len (t c : Int) (r : Rul) : (ruleO t c r).ob.length ≤ r.ob.length := by
 unfold ruleO noRes
 split
 ·exact Nat.zero_le _
 ·split
  ·exact Nat.zero_le _
  ·exact dutsM_len _ _
def obS : List Res → Nat
 | [] => 0
 | r :: l => r.ob.length + obS l
theorem obS_app (l m : List Res) : obS (l ++ m) = obS l + obS m := by
 induction l with
 | nil => simp [obS]
 | cons r l ih => simp only [List.cons_append, obS, ih]; omega
theorem obS_take (l : List Res) (k : Nat) : obS (l.take k) ≤ obS l := by
 have h := obS_app (l.take k) (l.drop k)
 rw [List.take_append_drop] at h
 omega
theorem along_len (alg : Int) (m : Mk) : ∀ l : List Res, (alongV alg m l).length ≤ obS l
 | [] => Nat.zero_le _
 | r :: l => by
  have ih := along_len alg m l
  unfold alongV obS
  split
  ·split
   ·omega
   ·rw [List.length_append]; omega
  ·omega
theorem polV_len (t alg : Int) (ob : List Dut) (l : List Res) : (polV t alg ob l).ob.length ≤ obS l + ob.length := by
 unfold polV noRes
 split
 ·exact Nat.zero_le _
 ·split
  ·exact Nat.zero_le _
  ·have h1 := along_len alg (joinV alg l) l
   have h2 := dutsM_len ob (joinV alg l)
   show (alongV alg (joinV alg l) l ++ dutsM ob (joinV alg l)).length ≤ _
   rw [List.length_append]
   omega
theorem obS_rules (ask : List Giv) : ∀ l : List Rul, obS (l.map (ruleV ask)) ≤ obR l
 | [] => Nat.le_refl _
 | r :: l => by
  have ih := obS_rules ask l
  have h := ruleT_len (metI ask r.tg) (condP ask r.cond) r
  rw [List.map_cons, obS, obR]
  unfold ruleV at ih ⊢
  omega
mutual
theorem ev_len (ask : List Giv) : ∀ p : Pol, (evV ask p).ob.length ≤ szP p
 | .mk id set alg tg rules kids ob => by
  have h1 := polV_len (metI ask tg) alg ob (rules.map (ruleV ask) ++ decL ask kids)
  have h2 := obS_rules ask rules
  have h3 := decs_len ask kids
  rw [obS_app] at h1
  rw [evV, szP]
  omega
theorem decs_len (ask : List Giv) : ∀ l : List Pol, obS (decL ask l) ≤ szL l
 | [] => Nat.zero_le _
 | p :: l => by
  have h1 := ev_len ask p
  have h2 := decs_len ask l
  rw [decL, obS, szL]
  omega
end
theorem parts_len (ask : List Giv) (p : Pol) : (partsV ask p).length ≤ szP p ∧ obS (partsV ask p) + p.ob.length ≤ szP p := by
 have h2 := obS_rules ask p.rules
 have h3 := decs_len ask p.kids
 have h4 := szL_len p.kids
 rw [decL_map] at h3
 rw [szP_eq]
 unfold partsV
 rw [obS_app, List.length_append, List.length_map, List.length_map]
 omega

theorem along_app {alg : Int} (h : alg ≠ 3) (m : Mk) (l k : List Res) : alongV alg m (l ++ k) = alongV alg m l ++ alongV alg m k := by
 induction l with
 | nil => rfl
 | cons r l ih =>
  rw [List.cons_append]
  simp only [alongV, if_neg h]
  split
  ·rw [ih, List.append_assoc]
  ·exact ih
theorem along_none {alg : Int} {m : Mk} : ∀ {l : List Res} (k : List Res), (∀ r ∈ l, r.m ≠ m) → alongV alg m (l ++ k) = alongV alg m k
 | [], k, _ => rfl
 | r :: l, k, h => by
  rw [List.cons_append]
  conv => lhs; unfold alongV
  rw [if_neg (h r (by simp))]
  exact along_none k (fun x hx => h x (by simp [hx]))

theorem polE_parts {d : Nat} {p : Pol} {s s' : Seen} (h : polS (d + 1) p s = (0, s')) : fitsB p = true ∧ tgE p.tg = 0 ∧ obE p.ob = 0 ∧ p.rules.length ≤ 16 ∧ p.kids.length ≤ 16 ∧ ∃ s1 s2, firstS ruleS p.rules s1 = (0, s2) ∧ firstS (polS d) p.kids s2 = (0, s') := by
 rw [polS] at h
 cases hi : idS p.id s with
 | none => rw [hi] at h; simp at h
 | some s1 =>
  rw [hi] at h
  simp only at h
  split at h
  ·simp at h
  rename_i c1
  split at h
  ·rename_i c2; simp only [Prod.mk.injEq] at h; exact absurd h.1 c2
  rename_i c2
  split at h
  ·simp at h
  rename_i c3
  split at h
  ·rename_i c4; rw [h] at c4; exact absurd rfl c4
  rename_i c4
  have c4' : (firstS ruleS p.rules s1).1 = 0 := by simpa using c4
  have c2' : orE (tgE p.tg) (obE p.ob) = 0 := by simpa using c2
  unfold orE at c2'
  split at c2'
  ·rename_i h0; exact absurd c2' h0
  rename_i h0
  exact ⟨by simpa using c1, by simpa using h0, c2', by omega, by omega, s1, (firstS ruleS p.rules s1).2, by rw [← c4'], h⟩
theorem firsts_all {α : Type} {f : α → Seen → Int × Seen} : ∀ {l : List α} {s s' : Seen}, firstS f l s = (0, s') → ∀ x ∈ l, ∃ a b, f x a = (0, b)
 | [], _, _, _, x, hx => by simp at hx
 | y :: l, s, s', h, x, hx => by
  simp only [firstS] at h
  split at h
  ·rename_i h0; rw [h] at h0; exact absurd rfl h0
  ·rename_i h0
   have h0 : (f y s).1 = 0 := by simpa using h0
   rcases List.mem_cons.1 hx with rfl | hx
   ·exact ⟨s, (f x s).2, by rw [← h0]⟩
   ·exact firsts_all h x hx
theorem ob_eight {l : List Dut} (h : obE l = 0) : l.length ≤ 8 := by
 unfold obE at h
 split at h
 ·cases h
 ·omega
theorem rule_parts {r : Rul} {s s' : Seen} (h : ruleS r s = (0, s')) : tgE r.tg = 0 ∧ exprE r.cond = 0 ∧ obE r.ob = 0 := by
 unfold ruleS at h
 cases hi : idS r.id s with
 | none => rw [hi] at h; simp at h
 | some s1 =>
  rw [hi] at h
  simp only at h
  split at h
  ·simp at h
  ·simp only [Prod.mk.injEq] at h
   have h := h.1
   unfold orE at h
   split at h
   ·rename_i h0; exact absurd h h0
   ·rename_i h0
    split at h
    ·rename_i h1; exact absurd h h1
    ·rename_i h1
     exact ⟨by simpa using h0, by simpa using h1, h⟩
theorem obR_le {k : Nat} : ∀ {l : List Rul}, (∀ r ∈ l, r.ob.length ≤ k) → obR l ≤ l.length * k
 | [], _ => Nat.zero_le _
 | r :: l, h => by
  have h1 := h r (by simp)
  have h2 := obR_le (l := l) (fun x hx => h x (by simp [hx]))
  rw [obR, List.length_cons, Nat.add_mul]
  omega
theorem szL_le {k : Nat} : ∀ {l : List Pol}, (∀ p ∈ l, szP p ≤ k) → szL l ≤ l.length * k
 | [], _ => Nat.zero_le _
 | p :: l, h => by
  have h1 := h p (by simp)
  have h2 := szL_le (l := l) (fun x hx => h x (by simp [hx]))
  rw [szL, List.length_cons, Nat.add_mul]
  omega
def capP : Nat → Nat
 | 0 => 0
 | d + 1 => 153 + 16 * capP d
theorem sz_cap : ∀ (d : Nat) {p : Pol} {s s' : Seen}, polS d p s = (0, s') → szP p ≤ capP d
 | 0, p, s, s', h => by simp [polS] at h
 | d + 1, p, s, s', h => by
  obtain ⟨_, _, h3, h4, h5, s1, s2, h6, h7⟩ := polE_parts h
  have e1 := ob_eight h3
  have e2 : obR p.rules ≤ p.rules.length * 8 := obR_le fun r hr => by
   obtain ⟨a, b, e⟩ := firsts_all h6 r hr
   exact ob_eight (rule_parts e).2.2
  have e3 : szL p.kids ≤ p.kids.length * capP d := szL_le fun k hk => by
   obtain ⟨a, b, e⟩ := firsts_all h7 k hk
   exact sz_cap d e
  have e4 : p.kids.length * capP d ≤ 16 * capP d := Nat.mul_le_mul_right _ h5
  rw [szP_eq, capP]
  omega
end Go.Proofs.YtmoglaknmlhpgaaGreatDoor
