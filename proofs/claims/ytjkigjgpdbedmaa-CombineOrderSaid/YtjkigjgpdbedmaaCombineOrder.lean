/- CombineOrder: the walk. -/
import Derived.Test.YtjkigjgpdbedmaaCombKit
import Derived.Test.YtjkigjgpdbedmaaMkLaws
import Derived.Test.YtjkigjgpdbedmaaMarkApp
namespace Go.Proofs.Ytjkigjgpdbedmaa
set_option linter.unusedVariables false
open Go.RowKit
attribute [local go_sem] eq0 eq2 eq4 gt0 gt2 ord_eq ord_gt ord_lt run_max_fl

def neNA (m : Mk) : Bool := m != (0, 0)
theorem filter_step {l : List Mk} {k : Nat} {m : Mk} (h : l[k]? = some m) : (l.take (k + 1)).filter neNA = (l.take k).filter neNA ++ if neNA m then [m] else [] := by
  obtain ⟨hk, e⟩ := List.getElem?_eq_some_iff.1 h
  rw [List.take_succ_eq_append_getElem hk, e, List.filter_append]
  congr 1
  rw [List.filter_cons, List.filter_nil]
theorem at_one (n : Int) (N : Nat) (h : 0 < N) (hk : N ≤ 1000) (w : World) : Calls Try.prog 13 #[.int .i64 n, .int .i64 0, .int .i64 ((N : Int) - 1)] w fun e w' => e = .returned (.int .i64 ((at_ n (N - 1) : Nat) : Int)) ∧ w = w' := by
  have e : (N : Int) - 1 = ((N - 1 : Nat) : Int) := by omega
  rw [e]
  exact at_any n (N - 1) (by omega) w
theorem own_below {w w' : World} {base size n : Nat} {e : TypeId} {v : Value} {xs : List Value} (h : w.ownsRow base e size v n xs) (hb : Below w.heap.size w w') : w'.ownsRow base e size v n xs :=
  h.kept (row := none) ⟨hb.os, hb.tape, hb.output, hb.size, fun k hk _ => hb.block k hk⟩ (by by_cases hv : v.ownBlock = none; exact .inl hv; exact .inr hv)
/-- The state of the second loop: what was taken, what is left. -/
def OrdRel (w3 : World) (l : List Mk) (t r i : Value) (wr : World) : Prop :=
  ∃ (T R : List Mk) (At Al : Option Addr) (n N ct cl k : Nat), t = .slice At n ct ∧ r = .slice Al N cl ∧ i = .int .i64 (k : Int) ∧ k + N = l.length ∧ (T ++ R).Perm l ∧
    wr.ownsRow w3.heap.size 23 1 (.slice At n ct) n (mv T) ∧ Sl wr wr.heap.size Al N cl (mv R) ∧ (∀ ad, Al = some ad → (Value.slice At n ct).ownBlock ≠ some ad.block) ∧ Below w3.heap.size w3 wr
theorem ord_perm {T R l : List Mk} {k : Nat} {m : Mk} (h : (T ++ R).Perm l) (hm : R[k]? = some m) : (T ++ [m] ++ (R.take k ++ R.drop (k + 1))).Perm l := by
  obtain ⟨hk, e⟩ := List.getElem?_eq_some_iff.1 hm
  refine List.Perm.trans ?_ h
  rw [List.append_assoc]
  refine List.Perm.append_left T ?_
  have : R = R.take k ++ m :: R.drop (k + 1) := by
    rw [← e, List.getElem_cons_drop, List.take_append_drop]
  conv => rhs; rw [this]
  show (m :: (R.take k ++ R.drop (k + 1))).Perm _
  exact List.perm_middle.symm
theorem Six.perm {l k : List Mk} (h : Six l) (p : k.Perm l) : Six k := fun m hm => h m (p.mem_iff.1 hm)
theorem make_perm {a : Fin 6} (ha : a ≠ 2) {l k : List Mk} (p : k.Perm l) : makeM a k = makeM a l := by unfold makeM; rw [fold_perm ha p]
theorem make_some (a : Fin 6) (l : List Mk) : makeM a (l.filter neNA) = makeM a l := by unfold makeM; rw [show l.filter neNA = l.filter (fun m => m != (0, 0)) from rfl, fold_some]

set_option maxHeartbeats 12800000 in
theorem combineOrder_walk (W : World) (g : Int) (hg : (Lit.int .i64 g).wf = true) (A : Option Addr) (n c : Nat) (h : ∃ l, Sl W W.heap.size A n c (nv l)) (A0 : Option Addr) (n0 c0 : Nat) (h0 : ∃ l, Sl W W.heap.size A0 n0 c0 (nv l)) :
    Calls Try.prog 5 #[.int .i64 g, .slice A n c, .slice A0 n0 c0] W fun e w' => e = .returned (.bool true) ∧ Below W.heap.size W w' := by
  clear hg
  obtain ⟨L, h⟩ := h
  obtain ⟨L0, h0⟩ := h0
  have hle0 := h0.le
  have hcap0 := h0.cap
  unfold maxLen at hcap0
  have CA := Lib.hid (alg_any g)
  have HR := Lib.hid (row_any h (Nat.le_refl _))
  have H6 := Lib.hid (rowM_six L)
  have h20 := rowM_len L
  have H0 := Lib.hid h0
  clear h h0
  generalize sx g = a at *
  generalize rowM L = l at *
  have ha : a.val < 6 := a.isLt
  obtain ⟨q0, e0, m0⟩ : ∃ p d : Fin 5, makeM a l = (p, d) := ⟨_, _, rfl⟩
  have M0 := Lib.hid m0
  clear m0
  go_enter Try.func5, Try.ntmps5
  go_wp2_with fail
  refine (CA.out _).mono ?_
  rintro x w' ⟨rfl, rfl⟩
  go_wp2_with fail
  refine HR.out.mono ?_
  rintro x w1 ⟨A1, c1, rfl, hown, hb⟩
  have hs := Sl.of_own hown
  have hle := hs.le
  have hcap := hs.cap
  unfold maxLen at hcap
  have HB1 := Lib.hid hb
  have HS := Lib.hid hs
  have C1 := Lib.hid (all_to a hs H6.out M0.out)
  clear hown hb hs HR
  go_wp2_with fail
  refine C1.out.mono ?_
  rintro x w' ⟨rfl, rfl⟩
  go_wp2_with fail
  go_loopw [11, 35] (fun s i wr => ∃ k : Nat, k ≤ l.length ∧ i = .int .i64 k ∧ ∃ A' n' c', s = .slice A' n' c' ∧ n' ≤ k ∧ wr.ownsRow w1.heap.size 23 1 (.slice A' n' c') n' (mv ((l.take k).filter neNA)) ∧ Below w1.heap.size w1 wr) (fun _ i _ => l.length - (intOf i).toNat)
  case atStart => exact ⟨0, Nat.zero_le _, rfl, none, 0, 0, rfl, Nat.le_refl _, World.ownsRow_nil w1 _ _ _, Below.refl _ _⟩
  case round =>
    obtain ⟨k, hk, rfl, A', n', c', rfl, hn', hown, hb⟩ := hrel
    have HO := Lib.hid hown
    have HB := Lib.hid hb
    clear hown hb
    by_cases hlt : k < l.length
    · obtain ⟨b, o, p, d, rfl, _, hx, hc⟩ := (HS.out.below HB.out).mark hlt
      have HX := Lib.hid hx
      clear hx
      by_cases hz : (p == 0 && d == 0) = true
      · have hz' : Hid (neNA (p, d) = false) := by
          show neNA (p, d) = false
          have : (p, d) = ((0, 0) : Mk) := by simpa using hz
          rw [this]; rfl
        go_wp2_with fail
        go_roundw
        case rel => exact ⟨k + 1, by omega, by go_num, A', n', c', rfl, by omega, by rw [filter_step HX.out, hz'.out]; simpa using HO.out, HB.out⟩
        case measure => simp [intOf]; omega
      · have hz1 : (p == 0 && d == 0) = false := by simpa using hz
        have hz' : Hid (neNA (p, d) = true) := by
          show neNA (p, d) = true
          simpa [neNA] using hz
        clear hz
        obtain ⟨A2, c2, w2, hrun, hown2, hb2⟩ := append_mark (ty := 27) p d HO.out (by omega) HB.out.size
        have HO2 := Lib.hid hown2
        have HB2 := Lib.hid (HB.out.trans hb2)
        have HAP := Lib.hid hrun
        clear hown2 hb2 hrun
        go_wp2_with (at_builtin; refine wpList_append_run rfl _ _ _ _ rfl rfl rfl HAP.out ?_)
        go_roundw
        case rel => exact ⟨k + 1, by omega, by go_num, A2, n' + 1, c2, rfl, by omega, by rw [filter_step HX.out, hz'.out]; exact HO2.out, HB2.out⟩
        case measure => simp [intOf]; omega
    · obtain rfl : k = l.length := by omega
      rw [List.take_length] at HO
      have hsS := Sl.of_own HO.out
      obtain ⟨A3, c3, w3, hrun, hown3, hb3, hg3, hob3⟩ := append_marks (ty := 27) (own_m1 wr) (((HS.out.below HB.out).more HB.out.size).lit_keep (Nat.le_refl _) (.cells #[] 23)) (by omega) (by simp)
      have HAP := Lib.hid hrun
      have D3 := Lib.hid (((Below.refl _ _).alloc (Nat.le_refl _) (.cells #[] 23)).trans hb3)
      have S3 := Lib.hid (hsS.then_ D3.out)
      have L3 := Lib.hid (Sl.of_own hown3)
      have DW := Lib.hid (below_step HB1.out (HB.out.trans (D3.out.mono HB.out.size)))
      clear hrun hown3 hb3 hg3 hob3 hsS
      simp only [Nat.zero_add, List.nil_append] at L3 HAP
      go_wp2_with (at_builtin; refine wpList_append_run rfl _ _ _ _ rfl rfl rfl HAP.out ?_)
      clear HB HO HAP D3 HS HB1 C1
      go_loopw [12, 15, 16] (fun t r i wr => OrdRel w3 l t r i wr) (fun _ _ i _ => l.length - (intOf i).toNat)
      case atStart => exact ⟨[], l, none, A3, 0, l.length, 0, c3, 0, rfl, rfl, rfl, by omega, List.Perm.refl _, World.ownsRow_nil w3 _ _ _, L3.out, fun ad _ hh => by (cases hh), Below.refl _ _⟩
      case round =>
        obtain ⟨T, R, At, Al, n, N, ct, cl, k, rfl, rfl, rfl, hkN0, hperm, hot, hsl, hne, hb⟩ := hrel
        have OT := Lib.hid hot
        have SL := Lib.hid hsl
        have NE := Lib.hid hne
        have HB := Lib.hid hb
        have PM := Lib.hid hperm
        have hlen : n ≤ 20 := by
          have e1 := hperm.length_eq
          have e2 := hot.1
          have e3 := hsl.mlen
          rw [mv_len] at e2
          rw [List.length_append] at e1
          omega
        have hcl := hsl.le
        have hclm := hsl.cap
        unfold maxLen at hclm
        clear hot hsl hne hb hperm
        by_cases hN : 0 < N
        · have HIN := Lib.hid (H0.out.below (below_step DW.out HB.out))
          by_cases hin : k < n0
          · obtain ⟨b0, o0, x, hA0, _, hx, hc0⟩ := HIN.out.num hin
            subst hA0
            have hkk := at_le x (N - 1)
            have CKK := Lib.hid (at_one x N hN (by omega))
            generalize at_ x (N - 1) = kk at *
            clear hx
            have hkN : kk < N := by omega
            obtain ⟨b, o, p, d, hAl, _, hy, hc⟩ := SL.out.mark hkN
            have HY := Lib.hid hy
            subst hAl
            clear hy
            obtain ⟨A4, c4, w4, hrun, hown4, hb4, hg4, hob4⟩ := append_marks (ty := 27) (OT.out.alloc (.cells #[.complex .f64 (fl p) (fl d)] 23)) (lit1 wr p d) (by omega) (by have := HB.out.size; simp; omega)
            have HAP := Lib.hid hrun
            have OT4 := Lib.hid hown4
            have SL4 := Lib.hid (Sl.grown (Sl.more (SL.out.lit_keep (Nat.le_refl _) (.cells #[.complex .f64 (fl p) (fl d)] 23)) (by simp)) hg4 NE.out)
            have HB4 := Lib.hid ((HB.out.alloc HB.out.size (.cells #[.complex .f64 (fl p) (fl d)] 23)).trans hb4)
            clear hrun hown4 hb4 hg4 hob4
            go_wp2_with fail
            refine (CKK.out _).mono ?_
            rintro x w' ⟨rfl, rfl⟩
            go_wp2_with (at_builtin; refine wpList_append_run rfl _ _ _ _ rfl rfl rfl HAP.out ?_)
            have hkc : kk ≤ cl := by omega
            have hk2 : (kk : Int) + 1 ≤ (N : Int) := by omega
            have hk3 : (0 : Int) ≤ (kk : Int) + 1 := by omega
            have hw : IntKind.i64.wrap ((kk : Int) + 1) = (kk : Int) + 1 := by rw [IntKind.wrap_i64]; omega
            have hkLe : kk ≤ N := by omega
            have hk1 : kk + 1 ≤ N := by omega
            have DA := Lib.hid (below_drewN ((Below.refl w4.heap.size w4).alloc (Nat.le_refl _) (.cells #[] 23)) 1)
            have SRC := Lib.hid (fun (W' : World) (hb : Below w4.heap.size w4 W') => SL4.out.below hb)
            go_region_law (first
              | (refine step_append_marks kk (R.take (kk)) (by exact own_m1 w4) (by exact (SRC.out _ DA.out).mtake hkLe) (by omega) (by rfl) (by omega) (by exact DA.out.size) rfl (.tmp 73) (.tmp 76) rfl (by simp [Act.eval]) (by simp [Act.eval]) ?_
                 rintro A6 c6 w6 o6 b6 g6
                 have O6 := Lib.hid o6
                 have B6 := Lib.hid (DA.out.trans b6)
                 clear o6 b6 g6)
              | (refine step_append_marks (N - 1) (R.take (kk) ++ R.drop (kk + 1)) (by exact O6.out) (by exact (SRC.out _ B6.out).mdrop hk1) (by omega) (by rfl) (by omega) (by exact B6.out.size) rfl (.tmp 77) (.tmp 81) rfl (by simp [Act.eval]) (by simp [Act.eval, Addr.add]) ?_
                 rintro A7 c7 w7 o7 b7 g7
                 generalize (if cl = kk + 1 then (some ⟨b, o, none⟩ : Option Addr) else some ⟨b, o + (kk + 1), none⟩) = A81
                 have O7 := Lib.hid o7
                 have B7 := Lib.hid (B6.out.trans b7)
                 clear o7 b7 g7))
            all_goals
              go_wp2_with fail
              go_roundw
              case rel =>
                refine ⟨T ++ [(p, d)], R.take (kk) ++ R.drop (kk + 1), A4, A7, n + 1, N - 1, c4, c7, k + 1, rfl, rfl, by go_num, by omega, ord_perm PM.out HY.out, own_below OT4.out B7.out, Sl.of_own O7.out, ?_, HB4.out.trans (B7.out.mono HB4.out.size)⟩
                rintro ad rfl hh
                have h1 := own_from O7.out rfl ad rfl
                have h2 := (OT4.out.lt _ hh).2
                omega
              case measure => simp [intOf]; omega
          · have hk0 : 0 + 1 ≤ N := by omega
            have hkN : 0 < N := by omega
            obtain ⟨b, o, p, d, hAl, _, hy, hc⟩ := SL.out.mark hkN
            rw [Nat.add_zero] at hc
            have HY := Lib.hid hy
            subst hAl
            clear hy
            obtain ⟨A4, c4, w4, hrun, hown4, hb4, hg4, hob4⟩ := append_marks (ty := 27) (OT.out.alloc (.cells #[.complex .f64 (fl p) (fl d)] 23)) (lit1 wr p d) (by omega) (by have := HB.out.size; simp; omega)
            have HAP := Lib.hid hrun
            have OT4 := Lib.hid hown4
            have SL4 := Lib.hid (Sl.grown (Sl.more (SL.out.lit_keep (Nat.le_refl _) (.cells #[.complex .f64 (fl p) (fl d)] 23)) (by simp)) hg4 NE.out)
            have HB4 := Lib.hid ((HB.out.alloc HB.out.size (.cells #[.complex .f64 (fl p) (fl d)] 23)).trans hb4)
            clear hrun hown4 hb4 hg4 hob4
            go_wp2_with (at_builtin; refine wpList_append_run rfl _ _ _ _ rfl rfl rfl HAP.out ?_)
            have hk2 : (1 : Int) ≤ (N : Int) := by omega
            have hk3 : ¬ (N : Int) < 1 := by omega
            have hw : IntKind.i64.wrap 1 = 1 := by decide
            have hkLe : 0 ≤ N := by omega
            have hk1 : 1 ≤ N := by omega
            have DA := Lib.hid (below_drewN ((Below.refl w4.heap.size w4).alloc (Nat.le_refl _) (.cells #[] 23)) 1)
            have SRC := Lib.hid (fun (W' : World) (hb : Below w4.heap.size w4 W') => SL4.out.below hb)
            go_region_law (first
              | (refine step_append_marks 0 (R.take (0)) (by exact own_m1 w4) (by exact (SRC.out _ DA.out).mtake hkLe) (by omega) (by rfl) (by omega) (by exact DA.out.size) rfl (.tmp 73) (.tmp 76) rfl (by simp [Act.eval]) (by simp [Act.eval]) ?_
                 rintro A6 c6 w6 o6 b6 g6
                 have O6 := Lib.hid o6
                 have B6 := Lib.hid (DA.out.trans b6)
                 clear o6 b6 g6)
              | (refine step_append_marks (N - 1) (R.take (0) ++ R.drop (1)) (by exact O6.out) (by exact (SRC.out _ B6.out).mdrop hk1) (by omega) (by rfl) (by omega) (by exact B6.out.size) rfl (.tmp 77) (.tmp 81) rfl (by simp [Act.eval]) (by simp [Act.eval, Addr.add]) ?_
                 rintro A7 c7 w7 o7 b7 g7
                 generalize (if cl = 1 then (some ⟨b, o, none⟩ : Option Addr) else some ⟨b, o + (1), none⟩) = A81
                 have O7 := Lib.hid o7
                 have B7 := Lib.hid (B6.out.trans b7)
                 clear o7 b7 g7))
            all_goals
              go_wp2_with fail
              go_roundw
              case rel =>
                refine ⟨T ++ [(p, d)], R.take (0) ++ R.drop (1), A4, A7, n + 1, N - 1, c4, c7, k + 1, rfl, rfl, by go_num, by omega, ord_perm PM.out HY.out, own_below OT4.out B7.out, Sl.of_own O7.out, ?_, HB4.out.trans (B7.out.mono HB4.out.size)⟩
                rintro ad rfl hh
                have h1 := own_from O7.out rfl ad rfl
                have h2 := (OT4.out.lt _ hh).2
                omega
              case measure => simp [intOf]; omega
        · obtain rfl : N = 0 := by omega
          have hR : R = [] := List.eq_nil_of_length_eq_zero SL.out.mlen
          have hP : T.Perm l := by have := PM.out; rw [hR, List.append_nil] at this; exact this
          obtain ⟨q1, e1, m1⟩ : ∃ p d : Fin 5, makeM a T = (p, d) := ⟨_, _, rfl⟩
          have C2 := Lib.hid (all_to a (Sl.of_own OT.out) (H6.out.perm hP) m1)
          have C3 := Lib.hid (all_to a (S3.out.then_ HB.out) (fun m hm => H6.out m (List.mem_filter.1 hm).1) ((make_some a l).trans M0.out))
          have DE := Lib.hid (below_step DW.out HB.out)
          have M1 := Lib.hid m1
          have HP := Lib.hid hP
          clear hR hP m1 PM OT SL NE HB S3 DW
          by_cases ha2 : a = 2
          · have hb2 : ((1 : Int) + (a.val : Int) == 3) = true := by rw [ha2]; rfl
            clear ha2
            go_wp2_with fail
            refine (C2.out).mono ?_
            rintro x w' ⟨rfl, rfl⟩
            go_wp2_with fail
            refine (C3.out).mono ?_
            rintro x w' ⟨rfl, rfl⟩
            go_wp2_with fail
            refine (runs_any _).mono ?_
            rintro x w9 ⟨rfl, hb9⟩
            have D9 := Lib.hid (below_step DE.out hb9)
            clear hb9
            go_wp2_with fail
            go_ret
            exact ⟨rfl, D9.out⟩
          · have hb2 : ((1 : Int) + (a.val : Int) == 3) = false := by
              rw [beq_eq_false_iff_ne]
              intro h
              exact ha2 (Fin.ext (by show a.val = 2; omega))
            have he : (q1, e1) = (q0, e0) := by rw [← M0.out, ← M1.out, make_perm ha2 HP.out]
            obtain ⟨rfl, rfl⟩ := Prod.mk.inj he
            clear ha2
            go_wp2_with fail
            refine (C2.out).mono ?_
            rintro x w' ⟨rfl, rfl⟩
            go_wp2_with fail
            refine (C3.out).mono ?_
            rintro x w' ⟨rfl, rfl⟩
            go_wp2_with fail
            refine (runs_any _).mono ?_
            rintro x w9 ⟨rfl, hb9⟩
            have D9 := Lib.hid (below_step DE.out hb9)
            clear hb9
            go_wp2_with fail
            go_ret
            exact ⟨rfl, D9.out⟩
end Go.Proofs.Ytjkigjgpdbedmaa
