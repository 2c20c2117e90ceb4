/- CombineTells: the walk. -/
import Derived.Test.YtjkigjgpdbedmaaCombRef
import Derived.Test.YtjkigjgpdbedmaaMarkRoom
import Derived.Deep.DeepCutAuto
namespace Go.Proofs.Ytjkigjgpdbedmaa
set_option linter.unusedVariables false
open Go.RowKit
attribute [local go_sem] eq0 eq2 eq4 gt0 gt2 ord_eq ord_gt ord_lt run_max_fl run_store_complex

/-- A row of the call's own, one cell of which is written. -/
theorem own_put {w : World} {base e n c : Nat} {A : Option Addr} {xs : List Value} (h : w.ownsRow base e 1 (.slice A n c) n xs) {k : Nat} (hk : k < n) :
    ∃ g, A = some ⟨g, 0, none⟩ ∧ base ≤ g ∧ (∃ u, w.cell? ⟨g, k, none⟩ = some u) ∧ w.frozen? ⟨g, k, none⟩ = false ∧ ∀ u, Sl (w.setCell ⟨g, k, none⟩ u) w.heap.size A n c (xs.set k u) := by
  have hlen := h.1
  rcases h.2 with ⟨hv, hn⟩ | ⟨g, cap, cur, hv, hb, hg, hnc, hcm, hcs, ht⟩
  · omega
  · injection hv with h1 h2 h3
    subst h1 h3
    have hob : Ob w g e cur := hg
    have hcell : ∀ j u, xs[j]? = some u → w.cell? ⟨g, j, none⟩ = some u := fun j u hu => by
      have := h.cells (g := g) rfl j u hu
      by_cases hj : j = 0
      · subst hj; simpa [Addr.add] using this
      · simpa [Addr.add, hj] using this
    have hkl : k < xs.length := by omega
    refine ⟨g, rfl, hb, ⟨_, hcell k _ (List.getElem?_eq_getElem hkl)⟩, hob.frozen k, fun u => ⟨by rw [List.length_set]; omega, hnc, hcm, .inr ⟨g, 0, rfl, hob.lt, fun j v hj => ?_⟩⟩⟩
    have hlt : k < cur.size := by omega
    rw [Nat.zero_add, (hob.put k u).cell j]
    rw [List.getElem?_set] at hj
    rw [Array.getElem?_setIfInBounds]
    by_cases hjk : k = j
    · subst hjk
      rw [if_pos rfl, if_pos hkl] at hj
      rw [if_pos rfl, if_pos hlt]
      exact hj
    · rw [if_neg hjk] at hj
      rw [if_neg hjk, ← hob.cell j]
      exact hcell j v hj
theorem mv_set (l : List Mk) (k : Nat) (p d : Fin 5) : (mv l).set k (.complex .f64 (fl p) (fl d)) = mv (l.set k (p, d)) := by
  unfold mv
  rw [List.map_set]
  rfl
theorem at_less (n : Int) (N : Nat) (h : 0 < N) (hk : N ≤ 1000) (w : World) : Calls Try.prog 13 #[.int .i64 n, .int .i64 0, .int .i64 ((N : Int) - 1)] w fun e w' => e = .returned (.int .i64 ((at_ n (N - 1) : Nat) : Int)) ∧ w = w' := by
  have e : (N : Int) - 1 = ((N - 1 : Nat) : Int) := by omega
  rw [e]
  exact at_any n (N - 1) (by omega) w

set_option maxHeartbeats 25600000 in
theorem combineTells_walk (W : World) (g : Int) (hg : (Lit.int .i64 g).wf = true) (A : Option Addr) (n c : Nat) (h : ∃ l, Sl W W.heap.size A n c (nv l)) (t : Int) (ht : (Lit.int .i64 t).wf = true) (odd : Bool) :
    Calls Try.prog 4 #[.int .i64 g, .slice A n c, .int .i64 t, .bool odd] W fun e w' => e = .returned (.bool true) ∧ Below W.heap.size W w' := by
  clear hg ht
  obtain ⟨L, h⟩ := h
  have hrow := row_any h (Nat.le_refl _)
  have h20 := rowM_len L
  clear h
  generalize rowM L = l at *
  generalize hN : l.length = N at *
  have HR := Lib.hid hrow
  clear hrow
  go_enter Try.func4, Try.ntmps4
  go_wp2_with fail
  refine HR.out.mono ?_
  rintro x w1 ⟨A1, c1, rfl, hown, hb⟩
  have hs := Sl.of_own hown
  have hle := hs.le
  have hcap := hs.cap
  unfold maxLen at hcap
  have HB1 := Lib.hid hb
  have HO := Lib.hid hown
  have HS := Lib.hid hs
  clear hown hb hs HR
  have tailNo : ∀ m, m = l → Hid (Sl w1 w1.heap.size A1 N c1 (mv m)) := fun m e => by rw [e]; exact HS.out
  by_cases hpos : 0 < N
  · cases odd
    · obtain ⟨m, hml⟩ : ∃ m, m = l := ⟨_, rfl⟩
      have HS2 := tailNo m hml
      have hm : m.length = N := by rw [hml]; exact hN
      have HB2 := HB1
      obtain ⟨w2, hw2⟩ : ∃ w2, w2 = w1 := ⟨_, rfl⟩
      rw [← hw2] at HS2 HB2
      subst hw2
      clear hml HO HS tailNo
      obtain ⟨P, D, E, hPE⟩ : ∃ (P D : Fin 5) (E : Int), allK g m = ((P, D), E) := ⟨_, _, _, rfl⟩
      have PE := Lib.hid hPE
      clear hPE
      by_cases h1 : 1 ≤ g
      · by_cases h2 : g ≤ 6
        · have CR := Lib.hid (fun w => (show algB g = true by simp [algB, h1, h2]) ▸ cright_any g w)
          have crm := mroomy_any HS2.out (Nat.le_refl _) (by omega)
          have CRM := Lib.hid crm
          clear crm
          go_wp2_with fail
          refine CRM.out.mono ?_
          rintro x w3 ⟨rfl, hob, hb3⟩
          have hfull := Ob.sl hob (n := N + 80) (by simp [mv_len, hm]) (by unfold maxLen; omega)
          have h3 := HS2.out.then_ hb3
          have hpre : Sl w3 (w2.heap.size + 1) (some ⟨w2.heap.size, 0, none⟩) N (N + 80) (mv m) := by
            have := hfull.take (k := N) (by omega)
            rwa [List.take_left' (by rw [mv_len]; exact hm)] at this
          have ca := all_any g hpre PE.out
          have ci := mintact_any hfull h3 (by omega)
          have CA := Lib.hid ca
          have CC := Lib.hid (refcomb_any g h3 (by omega) PE.out)
          have CI := Lib.hid ci
          have D3 := Lib.hid (below_step HB2.out hb3)
          clear hob hb3 hfull h3 hpre ca ci
          go_wp2_with fail
          refine (CA.out).mono ?_
          rintro x w' ⟨rfl, rfl⟩
          go_wp2_with fail
          refine (CC.out).mono ?_
          rintro x w' ⟨rfl, rfl⟩
          go_wp2_with fail
          refine (CR.out _).mono ?_
          rintro x w' ⟨rfl, rfl⟩
          go_wp2_with fail
          refine (CI.out).mono ?_
          rintro x w4 ⟨rfl, hb4⟩
          have D4 := Lib.hid (below_step D3.out hb4)
          clear hb4
          go_wp2_with fail
          refine (runs_any _).mono ?_
          rintro x w5 ⟨rfl, hb5⟩
          have D5 := Lib.hid (below_step D4.out hb5)
          clear hb5
          go_wp2_with fail
          go_ret
          exact ⟨ret_bool (by first | rfl | simp [*]), D5.out⟩
        · have CR := Lib.hid (fun w => (show algB g = false by unfold algB; rw [decide_eq_false h2, Bool.and_false]) ▸ cright_any g w)
          have crm := mroomy_any HS2.out (Nat.le_refl _) (by omega)
          have CRM := Lib.hid crm
          clear crm
          go_wp2_with fail
          refine CRM.out.mono ?_
          rintro x w3 ⟨rfl, hob, hb3⟩
          have hfull := Ob.sl hob (n := N + 80) (by simp [mv_len, hm]) (by unfold maxLen; omega)
          have h3 := HS2.out.then_ hb3
          have hpre : Sl w3 (w2.heap.size + 1) (some ⟨w2.heap.size, 0, none⟩) N (N + 80) (mv m) := by
            have := hfull.take (k := N) (by omega)
            rwa [List.take_left' (by rw [mv_len]; exact hm)] at this
          have ca := all_any g hpre PE.out
          have ci := mintact_any hfull h3 (by omega)
          have CA := Lib.hid ca
          have CC := Lib.hid (refcomb_any g h3 (by omega) PE.out)
          have CI := Lib.hid ci
          have D3 := Lib.hid (below_step HB2.out hb3)
          clear hob hb3 hfull h3 hpre ca ci
          go_wp2_with fail
          refine (CA.out).mono ?_
          rintro x w' ⟨rfl, rfl⟩
          go_wp2_with fail
          refine (CC.out).mono ?_
          rintro x w' ⟨rfl, rfl⟩
          go_wp2_with fail
          refine (CR.out _).mono ?_
          rintro x w' ⟨rfl, rfl⟩
          go_wp2_with fail
          refine (CI.out).mono ?_
          rintro x w4 ⟨rfl, hb4⟩
          have D4 := Lib.hid (below_step D3.out hb4)
          clear hb4
          go_wp2_with fail
          refine (runs_any _).mono ?_
          rintro x w5 ⟨rfl, hb5⟩
          have D5 := Lib.hid (below_step D4.out hb5)
          clear hb5
          go_wp2_with fail
          go_ret
          exact ⟨ret_bool (by first | rfl | simp [*]), D5.out⟩
      · have CR := Lib.hid (fun w => (show algB g = false by unfold algB; rw [decide_eq_false h1, Bool.false_and]) ▸ cright_any g w)
        have crm := mroomy_any HS2.out (Nat.le_refl _) (by omega)
        have CRM := Lib.hid crm
        clear crm
        go_wp2_with fail
        refine CRM.out.mono ?_
        rintro x w3 ⟨rfl, hob, hb3⟩
        have hfull := Ob.sl hob (n := N + 80) (by simp [mv_len, hm]) (by unfold maxLen; omega)
        have h3 := HS2.out.then_ hb3
        have hpre : Sl w3 (w2.heap.size + 1) (some ⟨w2.heap.size, 0, none⟩) N (N + 80) (mv m) := by
          have := hfull.take (k := N) (by omega)
          rwa [List.take_left' (by rw [mv_len]; exact hm)] at this
        have ca := all_any g hpre PE.out
        have ci := mintact_any hfull h3 (by omega)
        have CA := Lib.hid ca
        have CC := Lib.hid (refcomb_any g h3 (by omega) PE.out)
        have CI := Lib.hid ci
        have D3 := Lib.hid (below_step HB2.out hb3)
        clear hob hb3 hfull h3 hpre ca ci
        go_wp2_with fail
        refine (CA.out).mono ?_
        rintro x w' ⟨rfl, rfl⟩
        go_wp2_with fail
        refine (CC.out).mono ?_
        rintro x w' ⟨rfl, rfl⟩
        go_wp2_with fail
        refine (CR.out _).mono ?_
        rintro x w' ⟨rfl, rfl⟩
        go_wp2_with fail
        refine (CI.out).mono ?_
        rintro x w4 ⟨rfl, hb4⟩
        have D4 := Lib.hid (below_step D3.out hb4)
        clear hb4
        go_wp2_with fail
        refine (runs_any _).mono ?_
        rintro x w5 ⟨rfl, hb5⟩
        have D5 := Lib.hid (below_step D4.out hb5)
        clear hb5
        go_wp2_with fail
        go_ret
        exact ⟨ret_bool (by first | rfl | simp [*]), D5.out⟩
    · have hk := at_le t (N - 1)
      have CK := Lib.hid (at_less t N hpos (by omega))
      generalize at_ t (N - 1) = k at *
      obtain ⟨b, hA, hbase, ⟨u, hcell⟩, hfr, hput⟩ := own_put HO.out (k := k) (by omega)
      have hsl := hput (.complex .f64 4607182418800017408 4607182418800017408)
      have e4 := mv_set l k 4 4
      rw [fl4] at e4
      rw [e4] at hsl
      have hm : (l.set k (4, 4)).length = N := by rw [List.length_set, hN]
      have hsl' : Sl (w1.setCell ⟨b, k, none⟩ (.complex .f64 4607182418800017408 4607182418800017408)) (w1.setCell ⟨b, k, none⟩ (.complex .f64 4607182418800017408 4607182418800017408)).heap.size A1 N c1 (mv (l.set k (4, 4))) := hsl.more (by simp [World.setCell])
      have HS2 := Lib.hid hsl'
      have HB2 := Lib.hid (HB1.out.setCell (p := ⟨b, k, none⟩) hbase (.complex .f64 4607182418800017408 4607182418800017408))
      clear hput hsl hsl' e4 HO HS tailNo
      subst hA
      generalize l.set k (4, 4) = m at *
      go_wp2_with fail
      refine (CK.out _).mono ?_
      rintro x w' ⟨rfl, rfl⟩
      go_upto_region 4 with fail
      generalize w1.setCell ⟨b, k, none⟩ (.complex .f64 4607182418800017408 4607182418800017408) = w2 at *
      clear hcell hfr CK
      obtain ⟨P, D, E, hPE⟩ : ∃ (P D : Fin 5) (E : Int), allK g m = ((P, D), E) := ⟨_, _, _, rfl⟩
      have PE := Lib.hid hPE
      clear hPE
      by_cases h1 : 1 ≤ g
      · by_cases h2 : g ≤ 6
        · have CR := Lib.hid (fun w => (show algB g = true by simp [algB, h1, h2]) ▸ cright_any g w)
          have crm := mroomy_any HS2.out (Nat.le_refl _) (by omega)
          have CRM := Lib.hid crm
          clear crm
          go_wp2_with fail
          refine CRM.out.mono ?_
          rintro x w3 ⟨rfl, hob, hb3⟩
          have hfull := Ob.sl hob (n := N + 80) (by simp [mv_len, hm]) (by unfold maxLen; omega)
          have h3 := HS2.out.then_ hb3
          have hpre : Sl w3 (w2.heap.size + 1) (some ⟨w2.heap.size, 0, none⟩) N (N + 80) (mv m) := by
            have := hfull.take (k := N) (by omega)
            rwa [List.take_left' (by rw [mv_len]; exact hm)] at this
          have ca := all_any g hpre PE.out
          have ci := mintact_any hfull h3 (by omega)
          have CA := Lib.hid ca
          have CC := Lib.hid (refcomb_any g h3 (by omega) PE.out)
          have CI := Lib.hid ci
          have D3 := Lib.hid (below_step HB2.out hb3)
          clear hob hb3 hfull h3 hpre ca ci
          go_wp2_with fail
          refine (CA.out).mono ?_
          rintro x w' ⟨rfl, rfl⟩
          go_wp2_with fail
          refine (CC.out).mono ?_
          rintro x w' ⟨rfl, rfl⟩
          go_wp2_with fail
          refine (CR.out _).mono ?_
          rintro x w' ⟨rfl, rfl⟩
          go_wp2_with fail
          refine (CI.out).mono ?_
          rintro x w4 ⟨rfl, hb4⟩
          have D4 := Lib.hid (below_step D3.out hb4)
          clear hb4
          go_wp2_with fail
          refine (runs_any _).mono ?_
          rintro x w5 ⟨rfl, hb5⟩
          have D5 := Lib.hid (below_step D4.out hb5)
          clear hb5
          go_wp2_with fail
          go_ret
          exact ⟨ret_bool (by first | rfl | simp [*]), D5.out⟩
        · have CR := Lib.hid (fun w => (show algB g = false by unfold algB; rw [decide_eq_false h2, Bool.and_false]) ▸ cright_any g w)
          have crm := mroomy_any HS2.out (Nat.le_refl _) (by omega)
          have CRM := Lib.hid crm
          clear crm
          go_wp2_with fail
          refine CRM.out.mono ?_
          rintro x w3 ⟨rfl, hob, hb3⟩
          have hfull := Ob.sl hob (n := N + 80) (by simp [mv_len, hm]) (by unfold maxLen; omega)
          have h3 := HS2.out.then_ hb3
          have hpre : Sl w3 (w2.heap.size + 1) (some ⟨w2.heap.size, 0, none⟩) N (N + 80) (mv m) := by
            have := hfull.take (k := N) (by omega)
            rwa [List.take_left' (by rw [mv_len]; exact hm)] at this
          have ca := all_any g hpre PE.out
          have ci := mintact_any hfull h3 (by omega)
          have CA := Lib.hid ca
          have CC := Lib.hid (refcomb_any g h3 (by omega) PE.out)
          have CI := Lib.hid ci
          have D3 := Lib.hid (below_step HB2.out hb3)
          clear hob hb3 hfull h3 hpre ca ci
          go_wp2_with fail
          refine (CA.out).mono ?_
          rintro x w' ⟨rfl, rfl⟩
          go_wp2_with fail
          refine (CC.out).mono ?_
          rintro x w' ⟨rfl, rfl⟩
          go_wp2_with fail
          refine (CR.out _).mono ?_
          rintro x w' ⟨rfl, rfl⟩
          go_wp2_with fail
          refine (CI.out).mono ?_
          rintro x w4 ⟨rfl, hb4⟩
          have D4 := Lib.hid (below_step D3.out hb4)
          clear hb4
          go_wp2_with fail
          refine (runs_any _).mono ?_
          rintro x w5 ⟨rfl, hb5⟩
          have D5 := Lib.hid (below_step D4.out hb5)
          clear hb5
          go_wp2_with fail
          go_ret
          exact ⟨ret_bool (by first | rfl | simp [*]), D5.out⟩
      · have CR := Lib.hid (fun w => (show algB g = false by unfold algB; rw [decide_eq_false h1, Bool.false_and]) ▸ cright_any g w)
        have crm := mroomy_any HS2.out (Nat.le_refl _) (by omega)
        have CRM := Lib.hid crm
        clear crm
        go_wp2_with fail
        refine CRM.out.mono ?_
        rintro x w3 ⟨rfl, hob, hb3⟩
        have hfull := Ob.sl hob (n := N + 80) (by simp [mv_len, hm]) (by unfold maxLen; omega)
        have h3 := HS2.out.then_ hb3
        have hpre : Sl w3 (w2.heap.size + 1) (some ⟨w2.heap.size, 0, none⟩) N (N + 80) (mv m) := by
          have := hfull.take (k := N) (by omega)
          rwa [List.take_left' (by rw [mv_len]; exact hm)] at this
        have ca := all_any g hpre PE.out
        have ci := mintact_any hfull h3 (by omega)
        have CA := Lib.hid ca
        have CC := Lib.hid (refcomb_any g h3 (by omega) PE.out)
        have CI := Lib.hid ci
        have D3 := Lib.hid (below_step HB2.out hb3)
        clear hob hb3 hfull h3 hpre ca ci
        go_wp2_with fail
        refine (CA.out).mono ?_
        rintro x w' ⟨rfl, rfl⟩
        go_wp2_with fail
        refine (CC.out).mono ?_
        rintro x w' ⟨rfl, rfl⟩
        go_wp2_with fail
        refine (CR.out _).mono ?_
        rintro x w' ⟨rfl, rfl⟩
        go_wp2_with fail
        refine (CI.out).mono ?_
        rintro x w4 ⟨rfl, hb4⟩
        have D4 := Lib.hid (below_step D3.out hb4)
        clear hb4
        go_wp2_with fail
        refine (runs_any _).mono ?_
        rintro x w5 ⟨rfl, hb5⟩
        have D5 := Lib.hid (below_step D4.out hb5)
        clear hb5
        go_wp2_with fail
        go_ret
        exact ⟨ret_bool (by first | rfl | simp [*]), D5.out⟩
  · obtain rfl : N = 0 := by omega
    cases odd
    · obtain ⟨m, hml⟩ : ∃ m, m = l := ⟨_, rfl⟩
      have HS2 := tailNo m hml
      have hm : m.length = 0 := by rw [hml]; exact hN
      have HB2 := HB1
      obtain ⟨w2, hw2⟩ : ∃ w2, w2 = w1 := ⟨_, rfl⟩
      rw [← hw2] at HS2 HB2
      subst hw2
      clear hml HO HS tailNo
      obtain ⟨P, D, E, hPE⟩ : ∃ (P D : Fin 5) (E : Int), allK g m = ((P, D), E) := ⟨_, _, _, rfl⟩
      have PE := Lib.hid hPE
      clear hPE
      by_cases h1 : 1 ≤ g
      · by_cases h2 : g ≤ 6
        · have CR := Lib.hid (fun w => (show algB g = true by simp [algB, h1, h2]) ▸ cright_any g w)
          have crm := mroomy_any HS2.out (Nat.le_refl _) (by omega)
          simp only [Nat.zero_add] at crm
          have CRM := Lib.hid crm
          clear crm
          go_wp2_with fail
          refine CRM.out.mono ?_
          rintro x w3 ⟨rfl, hob, hb3⟩
          have hfull := Ob.sl hob (n := 0 + 80) (by simp [mv_len, hm]) (by unfold maxLen; omega)
          have h3 := HS2.out.then_ hb3
          have hpre : Sl w3 (w2.heap.size + 1) (some ⟨w2.heap.size, 0, none⟩) 0 (0 + 80) (mv m) := by
            have := hfull.take (k := 0) (by omega)
            rwa [List.take_left' (by rw [mv_len]; exact hm)] at this
          have ca := all_any g hpre PE.out
          have ci := mintact_any hfull h3 (by omega)
          simp only [Nat.zero_add] at ca ci
          have CA := Lib.hid ca
          have CC := Lib.hid (refcomb_any g h3 (by omega) PE.out)
          have CI := Lib.hid ci
          have D3 := Lib.hid (below_step HB2.out hb3)
          clear hob hb3 hfull h3 hpre ca ci
          go_wp2_with fail
          refine (CA.out).mono ?_
          rintro x w' ⟨rfl, rfl⟩
          go_wp2_with fail
          refine (CC.out).mono ?_
          rintro x w' ⟨rfl, rfl⟩
          go_wp2_with fail
          refine (CR.out _).mono ?_
          rintro x w' ⟨rfl, rfl⟩
          go_wp2_with fail
          refine (CI.out).mono ?_
          rintro x w4 ⟨rfl, hb4⟩
          have D4 := Lib.hid (below_step D3.out hb4)
          clear hb4
          go_wp2_with fail
          refine (runs_any _).mono ?_
          rintro x w5 ⟨rfl, hb5⟩
          have D5 := Lib.hid (below_step D4.out hb5)
          clear hb5
          go_wp2_with fail
          go_ret
          exact ⟨ret_bool (by first | rfl | simp [*]), D5.out⟩
        · have CR := Lib.hid (fun w => (show algB g = false by unfold algB; rw [decide_eq_false h2, Bool.and_false]) ▸ cright_any g w)
          have crm := mroomy_any HS2.out (Nat.le_refl _) (by omega)
          simp only [Nat.zero_add] at crm
          have CRM := Lib.hid crm
          clear crm
          go_wp2_with fail
          refine CRM.out.mono ?_
          rintro x w3 ⟨rfl, hob, hb3⟩
          have hfull := Ob.sl hob (n := 0 + 80) (by simp [mv_len, hm]) (by unfold maxLen; omega)
          have h3 := HS2.out.then_ hb3
          have hpre : Sl w3 (w2.heap.size + 1) (some ⟨w2.heap.size, 0, none⟩) 0 (0 + 80) (mv m) := by
            have := hfull.take (k := 0) (by omega)
            rwa [List.take_left' (by rw [mv_len]; exact hm)] at this
          have ca := all_any g hpre PE.out
          have ci := mintact_any hfull h3 (by omega)
          simp only [Nat.zero_add] at ca ci
          have CA := Lib.hid ca
          have CC := Lib.hid (refcomb_any g h3 (by omega) PE.out)
          have CI := Lib.hid ci
          have D3 := Lib.hid (below_step HB2.out hb3)
          clear hob hb3 hfull h3 hpre ca ci
          go_wp2_with fail
          refine (CA.out).mono ?_
          rintro x w' ⟨rfl, rfl⟩
          go_wp2_with fail
          refine (CC.out).mono ?_
          rintro x w' ⟨rfl, rfl⟩
          go_wp2_with fail
          refine (CR.out _).mono ?_
          rintro x w' ⟨rfl, rfl⟩
          go_wp2_with fail
          refine (CI.out).mono ?_
          rintro x w4 ⟨rfl, hb4⟩
          have D4 := Lib.hid (below_step D3.out hb4)
          clear hb4
          go_wp2_with fail
          refine (runs_any _).mono ?_
          rintro x w5 ⟨rfl, hb5⟩
          have D5 := Lib.hid (below_step D4.out hb5)
          clear hb5
          go_wp2_with fail
          go_ret
          exact ⟨ret_bool (by first | rfl | simp [*]), D5.out⟩
      · have CR := Lib.hid (fun w => (show algB g = false by unfold algB; rw [decide_eq_false h1, Bool.false_and]) ▸ cright_any g w)
        have crm := mroomy_any HS2.out (Nat.le_refl _) (by omega)
        simp only [Nat.zero_add] at crm
        have CRM := Lib.hid crm
        clear crm
        go_wp2_with fail
        refine CRM.out.mono ?_
        rintro x w3 ⟨rfl, hob, hb3⟩
        have hfull := Ob.sl hob (n := 0 + 80) (by simp [mv_len, hm]) (by unfold maxLen; omega)
        have h3 := HS2.out.then_ hb3
        have hpre : Sl w3 (w2.heap.size + 1) (some ⟨w2.heap.size, 0, none⟩) 0 (0 + 80) (mv m) := by
          have := hfull.take (k := 0) (by omega)
          rwa [List.take_left' (by rw [mv_len]; exact hm)] at this
        have ca := all_any g hpre PE.out
        have ci := mintact_any hfull h3 (by omega)
        simp only [Nat.zero_add] at ca ci
        have CA := Lib.hid ca
        have CC := Lib.hid (refcomb_any g h3 (by omega) PE.out)
        have CI := Lib.hid ci
        have D3 := Lib.hid (below_step HB2.out hb3)
        clear hob hb3 hfull h3 hpre ca ci
        go_wp2_with fail
        refine (CA.out).mono ?_
        rintro x w' ⟨rfl, rfl⟩
        go_wp2_with fail
        refine (CC.out).mono ?_
        rintro x w' ⟨rfl, rfl⟩
        go_wp2_with fail
        refine (CR.out _).mono ?_
        rintro x w' ⟨rfl, rfl⟩
        go_wp2_with fail
        refine (CI.out).mono ?_
        rintro x w4 ⟨rfl, hb4⟩
        have D4 := Lib.hid (below_step D3.out hb4)
        clear hb4
        go_wp2_with fail
        refine (runs_any _).mono ?_
        rintro x w5 ⟨rfl, hb5⟩
        have D5 := Lib.hid (below_step D4.out hb5)
        clear hb5
        go_wp2_with fail
        go_ret
        exact ⟨ret_bool (by first | rfl | simp [*]), D5.out⟩
    · obtain ⟨m, hml⟩ : ∃ m, m = l := ⟨_, rfl⟩
      have HS2 := tailNo m hml
      have hm : m.length = 0 := by rw [hml]; exact hN
      have HB2 := HB1
      obtain ⟨w2, hw2⟩ : ∃ w2, w2 = w1 := ⟨_, rfl⟩
      rw [← hw2] at HS2 HB2
      subst hw2
      clear hml HO HS tailNo
      obtain ⟨P, D, E, hPE⟩ : ∃ (P D : Fin 5) (E : Int), allK g m = ((P, D), E) := ⟨_, _, _, rfl⟩
      have PE := Lib.hid hPE
      clear hPE
      by_cases h1 : 1 ≤ g
      · by_cases h2 : g ≤ 6
        · have CR := Lib.hid (fun w => (show algB g = true by simp [algB, h1, h2]) ▸ cright_any g w)
          have crm := mroomy_any HS2.out (Nat.le_refl _) (by omega)
          simp only [Nat.zero_add] at crm
          have CRM := Lib.hid crm
          clear crm
          go_wp2_with fail
          refine CRM.out.mono ?_
          rintro x w3 ⟨rfl, hob, hb3⟩
          have hfull := Ob.sl hob (n := 0 + 80) (by simp [mv_len, hm]) (by unfold maxLen; omega)
          have h3 := HS2.out.then_ hb3
          have hpre : Sl w3 (w2.heap.size + 1) (some ⟨w2.heap.size, 0, none⟩) 0 (0 + 80) (mv m) := by
            have := hfull.take (k := 0) (by omega)
            rwa [List.take_left' (by rw [mv_len]; exact hm)] at this
          have ca := all_any g hpre PE.out
          have ci := mintact_any hfull h3 (by omega)
          simp only [Nat.zero_add] at ca ci
          have CA := Lib.hid ca
          have CC := Lib.hid (refcomb_any g h3 (by omega) PE.out)
          have CI := Lib.hid ci
          have D3 := Lib.hid (below_step HB2.out hb3)
          clear hob hb3 hfull h3 hpre ca ci
          go_wp2_with fail
          refine (CA.out).mono ?_
          rintro x w' ⟨rfl, rfl⟩
          go_wp2_with fail
          refine (CC.out).mono ?_
          rintro x w' ⟨rfl, rfl⟩
          go_wp2_with fail
          refine (CR.out _).mono ?_
          rintro x w' ⟨rfl, rfl⟩
          go_wp2_with fail
          refine (CI.out).mono ?_
          rintro x w4 ⟨rfl, hb4⟩
          have D4 := Lib.hid (below_step D3.out hb4)
          clear hb4
          go_wp2_with fail
          refine (runs_any _).mono ?_
          rintro x w5 ⟨rfl, hb5⟩
          have D5 := Lib.hid (below_step D4.out hb5)
          clear hb5
          go_wp2_with fail
          go_ret
          exact ⟨ret_bool (by first | rfl | simp [*]), D5.out⟩
        · have CR := Lib.hid (fun w => (show algB g = false by unfold algB; rw [decide_eq_false h2, Bool.and_false]) ▸ cright_any g w)
          have crm := mroomy_any HS2.out (Nat.le_refl _) (by omega)
          simp only [Nat.zero_add] at crm
          have CRM := Lib.hid crm
          clear crm
          go_wp2_with fail
          refine CRM.out.mono ?_
          rintro x w3 ⟨rfl, hob, hb3⟩
          have hfull := Ob.sl hob (n := 0 + 80) (by simp [mv_len, hm]) (by unfold maxLen; omega)
          have h3 := HS2.out.then_ hb3
          have hpre : Sl w3 (w2.heap.size + 1) (some ⟨w2.heap.size, 0, none⟩) 0 (0 + 80) (mv m) := by
            have := hfull.take (k := 0) (by omega)
            rwa [List.take_left' (by rw [mv_len]; exact hm)] at this
          have ca := all_any g hpre PE.out
          have ci := mintact_any hfull h3 (by omega)
          simp only [Nat.zero_add] at ca ci
          have CA := Lib.hid ca
          have CC := Lib.hid (refcomb_any g h3 (by omega) PE.out)
          have CI := Lib.hid ci
          have D3 := Lib.hid (below_step HB2.out hb3)
          clear hob hb3 hfull h3 hpre ca ci
          go_wp2_with fail
          refine (CA.out).mono ?_
          rintro x w' ⟨rfl, rfl⟩
          go_wp2_with fail
          refine (CC.out).mono ?_
          rintro x w' ⟨rfl, rfl⟩
          go_wp2_with fail
          refine (CR.out _).mono ?_
          rintro x w' ⟨rfl, rfl⟩
          go_wp2_with fail
          refine (CI.out).mono ?_
          rintro x w4 ⟨rfl, hb4⟩
          have D4 := Lib.hid (below_step D3.out hb4)
          clear hb4
          go_wp2_with fail
          refine (runs_any _).mono ?_
          rintro x w5 ⟨rfl, hb5⟩
          have D5 := Lib.hid (below_step D4.out hb5)
          clear hb5
          go_wp2_with fail
          go_ret
          exact ⟨ret_bool (by first | rfl | simp [*]), D5.out⟩
      · have CR := Lib.hid (fun w => (show algB g = false by unfold algB; rw [decide_eq_false h1, Bool.false_and]) ▸ cright_any g w)
        have crm := mroomy_any HS2.out (Nat.le_refl _) (by omega)
        simp only [Nat.zero_add] at crm
        have CRM := Lib.hid crm
        clear crm
        go_wp2_with fail
        refine CRM.out.mono ?_
        rintro x w3 ⟨rfl, hob, hb3⟩
        have hfull := Ob.sl hob (n := 0 + 80) (by simp [mv_len, hm]) (by unfold maxLen; omega)
        have h3 := HS2.out.then_ hb3
        have hpre : Sl w3 (w2.heap.size + 1) (some ⟨w2.heap.size, 0, none⟩) 0 (0 + 80) (mv m) := by
          have := hfull.take (k := 0) (by omega)
          rwa [List.take_left' (by rw [mv_len]; exact hm)] at this
        have ca := all_any g hpre PE.out
        have ci := mintact_any hfull h3 (by omega)
        simp only [Nat.zero_add] at ca ci
        have CA := Lib.hid ca
        have CC := Lib.hid (refcomb_any g h3 (by omega) PE.out)
        have CI := Lib.hid ci
        have D3 := Lib.hid (below_step HB2.out hb3)
        clear hob hb3 hfull h3 hpre ca ci
        go_wp2_with fail
        refine (CA.out).mono ?_
        rintro x w' ⟨rfl, rfl⟩
        go_wp2_with fail
        refine (CC.out).mono ?_
        rintro x w' ⟨rfl, rfl⟩
        go_wp2_with fail
        refine (CR.out _).mono ?_
        rintro x w' ⟨rfl, rfl⟩
        go_wp2_with fail
        refine (CI.out).mono ?_
        rintro x w4 ⟨rfl, hb4⟩
        have D4 := Lib.hid (below_step D3.out hb4)
        clear hb4
        go_wp2_with fail
        refine (runs_any _).mono ?_
        rintro x w5 ⟨rfl, hb5⟩
        have D5 := Lib.hid (below_step D4.out hb5)
        clear hb5
        go_wp2_with fail
        go_ret
        exact ⟨ret_bool (by first | rfl | simp [*]), D5.out⟩
end Go.Proofs.Ytjkigjgpdbedmaa
