/- CombineRuns; the six decisions of a number, a row of them. -/
import Derived.Test.YtjkigjgpdbedmaaComb
import Derived.Test.YtjkigjgpdbedmaaOpen
namespace Go.Proofs.Ytjkigjgpdbedmaa
set_option linter.unusedVariables false
open Go.RowKit
attribute [local go_sem] eq0 eq2 eq4 gt0 gt2 ord_eq ord_gt ord_lt run_max_fl

theorem k00 : (FloatKind.f64.format.order 0 0 == some .eq) = true := by decide +kernel
theorem k22 : (FloatKind.f64.format.order 4602678819172646912 4602678819172646912 == some .eq) = true := by decide +kernel
theorem k44 : (FloatKind.f64.format.order 4607182418800017408 4607182418800017408 == some .eq) = true := by decide +kernel

theorem Below.lits {w w' : World} (o : Obj) (h : Below (w.heap.size + 1) (w.alloc o) w') : Below w.heap.size w w' := ((Below.refl _ w).alloc (Nat.le_refl _) o).trans (h.mono (by omega))
/-- All of a row that has just been written. -/
theorem all_lit (a : Fin 6) (l : List Mk) (n : Nat) (m : Mk) (hl : l.length = n) (hn : n ≤ 100) (h6 : Six l) (hm : makeM a l = m) (w : World) :
    Calls Try.prog 11 #[.int .i64 (algN a), .slice (some ⟨w.heap.size, 0, none⟩) n n] (w.alloc (.cells (mv l).toArray 23)) fun z w' => z = .returned (.tuple #[mcell m, .int .i64 0]) ∧ w.alloc (.cells (mv l).toArray 23) = w' := by
  rw [← hm]
  exact all_six a (Sl.lit w 23 (mv l) n (by rw [mv_len]; exact hl) (by unfold maxLen; omega)) h6
theorem sixOf {l : List Mk} (h : l.all rightK = true) : Six l := List.all_eq_true.1 h
set_option maxHeartbeats 1600000 in
theorem runs_any (w : World) : Calls Try.prog 3 #[] w fun e w' => e = .returned (.bool true) ∧ Below w.heap.size w w' := by
  have c1 := all_lit 0 [(4, 0), (0, 2)] 2 (2, 2) rfl (by omega) (sixOf (by decide +kernel)) (by decide +kernel)
  have c2 := all_lit 1 [(4, 0), (0, 2)] 2 (4, 0) rfl (by omega) (sixOf (by decide +kernel)) (by decide +kernel)
  have c3 := all_lit 2 [(0, 0), (0, 2), (4, 0)] 3 (0, 2) rfl (by omega) (sixOf (by decide +kernel)) (by decide +kernel)
  have c4 := all_lit 3 [(4, 0), (0, 0)] 2 (4, 0) rfl (by omega) (sixOf (by decide +kernel)) (by decide +kernel)
  have c5 := fun w => all_six (w := w) 4 (Sl.nil_ w 0) (sixOf (l := []) rfl)
  rw [show makeM 4 [] = (0, 4) by decide +kernel] at c5
  simp only [mv, mcell, List.map_cons, List.map_nil, fl0, fl2, fl4, show algN 0 = 1 from rfl, show algN 1 = 2 from rfl, show algN 2 = 3 from rfl, show algN 3 = 4 from rfl, show algN 4 = 5 from rfl] at c1 c2 c3 c4 c5
  have C1 := Lib.hid c1
  have C2 := Lib.hid c2
  have C3 := Lib.hid c3
  have C4 := Lib.hid c4
  have C5 := Lib.hid c5
  have D := Lib.hid (fun (w w' : World) (o : Obj) (h : Below w.heap.size w w') => h.alloc h.size o)
  clear c1 c2 c3 c4 c5
  go_enter Try.func3, Try.ntmps3
  go_wp2_with fail
  refine (C1.out w).mono ?_
  rintro e w' ⟨rfl, rfl⟩
  have D1 := Lib.hid (D.out w w (.cells #[.complex .f64 4607182418800017408 0, .complex .f64 0 4602678819172646912] 23) (Below.refl _ _))
  generalize w.alloc (.cells #[.complex .f64 4607182418800017408 0, .complex .f64 0 4602678819172646912] 23) = w1 at *
  go_wp2_with fail
  refine (C2.out w1).mono ?_
  rintro e w' ⟨rfl, rfl⟩
  have D2 := Lib.hid (D.out w w1 (.cells #[.complex .f64 4607182418800017408 0, .complex .f64 0 4602678819172646912] 23) D1.out)
  clear D1
  generalize w1.alloc (.cells #[.complex .f64 4607182418800017408 0, .complex .f64 0 4602678819172646912] 23) = w2 at *
  go_wp2_with fail
  refine (C3.out w2).mono ?_
  rintro e w' ⟨rfl, rfl⟩
  have D3 := Lib.hid (D.out w w2 (.cells #[.complex .f64 0 0, .complex .f64 0 4602678819172646912, .complex .f64 4607182418800017408 0] 23) D2.out)
  clear D2
  generalize w2.alloc (.cells #[.complex .f64 0 0, .complex .f64 0 4602678819172646912, .complex .f64 4607182418800017408 0] 23) = w3 at *
  go_wp2_with fail
  refine (C4.out w3).mono ?_
  rintro e w' ⟨rfl, rfl⟩
  have D4 := Lib.hid (D.out w w3 (.cells #[.complex .f64 4607182418800017408 0, .complex .f64 0 0] 23) D3.out)
  clear D3
  generalize w3.alloc (.cells #[.complex .f64 4607182418800017408 0, .complex .f64 0 0] 23) = w4 at *
  go_wp2_with fail
  refine (C5.out w4).mono ?_
  rintro e w' ⟨rfl, rfl⟩
  have a0 := k00
  have a2 := k22
  have a4 := k44
  go_wp2_with fail
  go_ret
  exact ⟨rfl, D4.out⟩
theorem combineRuns_walk (w : World) : Calls Try.prog 3 #[] w fun e w' => e = .returned (.bool true) ∧ Below w.heap.size w w' := runs_any w

def sx (n : Int) : Fin 6 := ⟨(withinOf n 0 5).toNat, by have := within_le (n := n) (lo := 0) (hi := 5) (by omega); omega⟩
theorem sx_eq (n : Int) : withinOf n 0 5 = ((sx n).val : Int) := by
  have := within_le (n := n) (lo := 0) (hi := 5) (by omega)
  simp only [sx]; omega
def sixM (i : Fin 6) : Mk := if i = 0 then (0, 0) else if i = 1 then (4, 0) else if i = 2 then (0, 4) else if i = 3 then (2, 0) else if i = 4 then (0, 2) else (2, 2)
theorem sixM_right : ∀ i, rightK (sixM i) = true := by decide +kernel
set_option maxHeartbeats 1600000 in
theorem six_any (n : Int) (w : World) : Calls Try.prog 21 #[.int .i64 n] w fun e w' => e = .returned (mcell (sixM (sx n))) ∧ w = w' := by
  have h := sx_eq n
  generalize sx n = i at *
  have HI := Lib.hid h
  clear h
  obtain rfl | rfl | rfl | rfl | rfl | rfl := six0 i
  all_goals
    go_enter Try.func21, Try.ntmps21
    go_wp2_with fail
    refine (within_any (n := n) (lo := 0) (hi := 5) (by omega) (by omega) (by omega)).mono ?_
    rintro e w' ⟨rfl, rfl⟩
    rw [HI.out]
    go_wp2
    go_ret
    exact ⟨ret_k (by decide +kernel) (by decide +kernel), rfl⟩
/-- What row makes of numbers. -/
def rowM (l : List Int) : List Mk := (l.take 20).map fun n => sixM (sx n)
theorem rowM_six (l : List Int) : Six (rowM l) := by
  intro m hm
  obtain ⟨n, _, rfl⟩ := List.mem_map.1 hm
  exact sixM_right _
theorem rowM_len (l : List Int) : (rowM l).length ≤ 20 := by simp only [rowM, List.length_map, List.length_take]; omega

/-- Numbers as cells. -/
def nv (l : List Int) : List Value := l.map fun n => Value.int .i64 n
theorem nv_get {l : List Int} {k : Nat} {x : Int} (h : l[k]? = some x) : (nv l)[k]? = some (.int .i64 x) := by simp [nv, h]
theorem Sl.nlen {w : World} {B n c : Nat} {A : Option Addr} {l : List Int} (h : Sl w B A n c (nv l)) : l.length = n := by have := h.1; simpa [nv] using this
theorem Sl.num {w : World} {B n c : Nat} {A : Option Addr} {l : List Int} (h : Sl w B A n c (nv l)) {k : Nat} (hk : k < n) : ∃ b o x, A = some ⟨b, o, none⟩ ∧ b < B ∧ l[k]? = some x ∧ w.cell? ⟨b, o + k, none⟩ = some (.int .i64 x) := by
  obtain ⟨b, o, u, e, hb, hx, hc⟩ := h.at_ hk
  have hl : k < l.length := by rw [h.nlen]; exact hk
  have hg := List.getElem?_eq_getElem hl
  rw [nv_get hg] at hx
  injection hx with hx
  subst hx
  exact ⟨b, o, l[k], e, hb, hg, hc⟩
theorem rowM_step {l : List Int} {k : Nat} {x : Int} (h : l[k]? = some x) (hk : k < 20) : rowM (l.take (k + 1)) = rowM (l.take k) ++ [sixM (sx x)] := by
  obtain ⟨hl, e⟩ := List.getElem?_eq_some_iff.1 h
  unfold rowM
  rw [List.take_take, List.take_take, Nat.min_eq_right (by omega), Nat.min_eq_right (by omega), List.take_succ_eq_append_getElem hl, e, List.map_append]
  rfl
set_option maxHeartbeats 1600000 in
theorem row_any {w : World} {B n c : Nat} {A : Option Addr} {l : List Int} (h : Sl w B A n c (nv l)) (hB : B ≤ w.heap.size) :
    Calls Try.prog 12 #[.slice A n c] w fun e w' => ∃ A' c', e = .returned (.slice A' (rowM l).length c') ∧ w'.ownsRow w.heap.size 23 1 (.slice A' (rowM l).length c') (rowM l).length (mv (rowM l)) ∧ Below w.heap.size w w' := by
  have hcap := h.cap
  have hle := h.le
  unfold maxLen at hcap
  have H := Lib.hid h
  have HL := Lib.hid h.nlen
  clear h
  go_enter Try.func12, Try.ntmps12
  go_wp2_with fail
  go_loopw [3, 4] (fun s i wr => ∃ k : Nat, k ≤ n ∧ k ≤ 20 ∧ i = .int .i64 k ∧ ∃ A' c', s = .slice A' k c' ∧ wr.ownsRow w.heap.size 23 1 (.slice A' k c') k (mv (rowM (l.take k))) ∧ Below w.heap.size w wr) (fun _ i _ => 20 - (intOf i).toNat)
  case atStart => exact ⟨0, Nat.zero_le _, by omega, rfl, none, 0, rfl, World.ownsRow_nil w _ _ _, Below.refl _ _⟩
  case round =>
    obtain ⟨k, hk, hk20, rfl, A', c', rfl, hown, hb⟩ := hrel
    have HO := Lib.hid hown
    have HB := Lib.hid hb
    clear hown hb
    by_cases hlt : k < n
    · by_cases hlt2 : k < 20
      · obtain ⟨b, o, x, rfl, _, hx, hc⟩ := (H.out.below (HB.out.mono hB)).num hlt
        have HX := Lib.hid hx
        clear hx
        obtain ⟨A2, c2, w2, hrun, hown2, hb2⟩ := append_mark (ty := 27) (sixM (sx x)).1 (sixM (sx x)).2 HO.out (by omega) HB.out.size
        have HO2 := Lib.hid hown2
        have HB2 := Lib.hid (HB.out.trans hb2)
        have HAP := Lib.hid hrun
        clear hown2 hb2 hrun
        go_wp2_with fail
        refine (six_any x _).mono ?_
        rintro e w' ⟨rfl, rfl⟩
        unfold mcell
        go_wp2_with (at_builtin; refine wpList_append_run rfl _ _ _ _ rfl rfl rfl HAP.out ?_)
        go_roundw
        case rel => exact ⟨k + 1, by omega, by omega, by go_num, A2, c2, rfl, by rw [rowM_step HX.out hlt2]; exact HO2.out, HB2.out⟩
        case measure => simp [intOf]; omega
      · obtain rfl : k = 20 := by omega
        go_wp2_with fail
        go_ret
        have e : rowM l = rowM (l.take 20) := by unfold rowM; rw [List.take_take]; rfl
        have e2 : (rowM (l.take 20)).length = 20 := by rw [← e, rowM, List.length_map, List.length_take, HL.out]; omega
        rw [e, e2]
        exact ⟨A', c', rfl, HO.out, HB.out⟩
    · obtain rfl : k = n := by omega
      go_wp2_with fail
      go_ret
      have e : rowM l = rowM (l.take k) := by rw [List.take_of_length_le (by rw [HL.out]; omega)]
      have e2 : (rowM (l.take k)).length = k := by rw [← e, rowM, List.length_map, List.length_take, HL.out]; omega
      rw [e, e2]
      exact ⟨A', c', rfl, HO.out, HB.out⟩
end Go.Proofs.Ytjkigjgpdbedmaa
