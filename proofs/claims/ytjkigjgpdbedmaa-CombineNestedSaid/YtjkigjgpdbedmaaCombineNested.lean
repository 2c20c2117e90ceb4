/- CombineNested: the walk. -/
import Derived.Test.YtjkigjgpdbedmaaCombKit
namespace Go.Proofs.Ytjkigjgpdbedmaa
set_option linter.unusedVariables false
open Go.RowKit
attribute [local go_sem] eq0 eq2 eq4 gt0 gt2 ord_eq ord_gt ord_lt run_max_fl

set_option maxHeartbeats 3200000 in
theorem combineNested_walk (W : World) (g : Int) (hg : (Lit.int .i64 g).wf = true) (A : Option Addr) (n c : Nat) (h : ∃ l, Sl W W.heap.size A n c (nv l)) (t : Int) (ht : (Lit.int .i64 t).wf = true) :
    Calls Try.prog 9 #[.int .i64 g, .slice A n c, .int .i64 t] W fun e w' => e = .returned (.bool true) ∧ Below W.heap.size W w' := by
  clear hg ht
  obtain ⟨L, h⟩ := h
  have c0 := alg_any g
  have hrow := row_any h (Nat.le_refl _)
  have h6 := rowM_six L
  have h20 := rowM_len L
  generalize sx g = a at *
  generalize rowM L = l at *
  have ha : a.val < 6 := a.isLt
  have hk := at_le t l.length
  have ck := at_any t l.length (by omega)
  generalize at_ t l.length = k at *
  obtain ⟨p, d, hp⟩ : ∃ p d : Fin 5, makeM a (l.take k) = (p, d) := ⟨_, _, rfl⟩
  obtain ⟨q, e, hq⟩ : ∃ q e : Fin 5, makeM a (l.drop k) = (q, e) := ⟨_, _, rfl⟩
  obtain ⟨r, f, hr⟩ : ∃ r f : Fin 5, makeM a l = (r, f) := ⟨_, _, rfl⟩
  have hz : makeM a [(p, d), (q, e)] = (r, f) := by
    rw [← hp, ← hq, make_nested a (h6.take k) (h6.drop k), List.take_append_drop, hr]
  have z6 : Six [(p, d), (q, e)] := by
    intro m hm
    simp only [List.mem_cons, List.not_mem_nil, or_false] at hm
    rcases hm with rfl | rfl
    · rw [← hp]; exact make_right a (h6.take k)
    · rw [← hq]; exact make_right a (h6.drop k)
  have C0 := Lib.hid c0
  have CK := Lib.hid ck
  have HR := Lib.hid hrow
  clear c0 ck hrow h
  go_enter Try.func9, Try.ntmps9
  go_wp2_with fail
  refine (C0.out _).mono ?_
  rintro x w' ⟨rfl, rfl⟩
  go_wp2_with fail
  refine HR.out.mono ?_
  rintro x w1 ⟨A1, c1, rfl, hown, hb⟩
  have hs := Sl.of_own hown
  have hle := hs.le
  have hcap := hs.cap
  unfold maxLen at hcap
  have hb1 := Lib.hid hb
  clear hown hb
  have C1 := Lib.hid (all_to a (hs.mtake hk) (h6.take k) hp)
  have hd := hs.mdrop hk
  have c4 := all_to a (Sl.lit w1 23 (mv [(p, d), (q, e)]) 2 rfl (by unfold maxLen; omega)) z6 hz
  simp only [mv, mcell, List.map_cons, List.map_nil] at c4
  have C4 := Lib.hid c4
  clear c4
  have C3 := Lib.hid (all_to a (hs.keep fun k hk => Below.heap_alloc w1 (.cells #[.complex .f64 (fl p) (fl d), .complex .f64 (fl q) (fl e)] 23) k hk) h6 hr)
  by_cases hck : c1 = k
  · subst hck
    rw [if_pos rfl] at hd
    have e1 : l.length - c1 = 0 := by omega
    rw [e1, Nat.sub_self] at hd
    have C2 := Lib.hid (all_to a hd (h6.drop c1) hq)
    clear hs hd
    go_wp2_with fail
    refine (CK.out _).mono ?_
    rintro x w' ⟨rfl, rfl⟩
    go_wp2_with fail
    refine (C1.out).mono ?_
    rintro x w' ⟨rfl, rfl⟩
    go_wp2_with fail
    refine (C2.out).mono ?_
    rintro x w' ⟨rfl, rfl⟩
    go_wp2_with fail
    refine (C4.out).mono ?_
    rintro x w' ⟨rfl, rfl⟩
    have hb2 := Lib.hid (hb1.out.alloc hb1.out.size (.cells #[.complex .f64 (fl p) (fl d), .complex .f64 (fl q) (fl e)] 23))
    generalize w1.alloc (.cells #[.complex .f64 (fl p) (fl d), .complex .f64 (fl q) (fl e)] 23) = w2 at *
    go_wp2_with fail
    refine (C3.out).mono ?_
    rintro x w' ⟨rfl, rfl⟩
    go_wp2_with fail
    refine (runs_any _).mono ?_
    rintro x w3 ⟨rfl, hb3⟩
    have hb4 := Lib.hid (below_step hb2.out hb3)
    clear hb3
    go_wp2_with fail
    go_ret
    exact ⟨rfl, hb4.out⟩
  · rw [if_neg hck] at hd
    have C2 := Lib.hid (all_to a hd (h6.drop k) hq)
    clear hs hd
    go_wp2_with fail
    refine (CK.out _).mono ?_
    rintro x w' ⟨rfl, rfl⟩
    go_wp2_with fail
    refine (C1.out).mono ?_
    rintro x w' ⟨rfl, rfl⟩
    go_wp2_with fail
    refine (C2.out).mono ?_
    rintro x w' ⟨rfl, rfl⟩
    go_wp2_with fail
    refine (C4.out).mono ?_
    rintro x w' ⟨rfl, rfl⟩
    have hb2 := Lib.hid (hb1.out.alloc hb1.out.size (.cells #[.complex .f64 (fl p) (fl d), .complex .f64 (fl q) (fl e)] 23))
    generalize w1.alloc (.cells #[.complex .f64 (fl p) (fl d), .complex .f64 (fl q) (fl e)] 23) = w2 at *
    go_wp2_with fail
    refine (C3.out).mono ?_
    rintro x w' ⟨rfl, rfl⟩
    go_wp2_with fail
    refine (runs_any _).mono ?_
    rintro x w3 ⟨rfl, hb3⟩
    have hb4 := Lib.hid (below_step hb2.out hb3)
    clear hb3
    go_wp2_with fail
    go_ret
    exact ⟨rfl, hb4.out⟩
end Go.Proofs.Ytjkigjgpdbedmaa
