/- CombineTurns: the walk. -/
import Derived.Test.YtjkigjgpdbedmaaCombKit
import Derived.Test.YtjkigjgpdbedmaaMkLaws
namespace Go.Proofs.Ytjkigjgpdbedmaa
set_option linter.unusedVariables false
open Go.RowKit
attribute [local go_sem] eq0 eq2 eq4 gt0 gt2 ord_eq ord_gt ord_lt run_max_fl

theorem map_step {l : List Mk} {k : Nat} {m : Mk} (h : l[k]? = some m) (f : Mk → Mk) : (l.take (k + 1)).map f = (l.take k).map f ++ [f m] := by
  obtain ⟨hk, e⟩ := List.getElem?_eq_some_iff.1 h
  rw [List.take_succ_eq_append_getElem hk, e, List.map_append]
  rfl
set_option maxHeartbeats 6400000 in
theorem combineTurns_walk (W : World) (A : Option Addr) (n c : Nat) (h : ∃ l, Sl W W.heap.size A n c (nv l)) :
    Calls Try.prog 7 #[.slice A n c] W fun e w' => e = .returned (.bool true) ∧ Below W.heap.size W w' := by
  obtain ⟨L, h⟩ := h
  have hrow := row_any h (Nat.le_refl _)
  have h6 := rowM_six L
  have h20 := rowM_len L
  generalize rowM L = l at *
  obtain ⟨q0, e0, m0⟩ : ∃ p d : Fin 5, makeM 0 l = (p, d) := ⟨_, _, rfl⟩
  obtain ⟨q2, e2, m2⟩ : ∃ p d : Fin 5, makeM 2 l = (p, d) := ⟨_, _, rfl⟩
  obtain ⟨q4, e4, m4⟩ : ∃ p d : Fin 5, makeM 4 l = (p, d) := ⟨_, _, rfl⟩
  have t1 : makeM 1 (l.map turnM) = (e0, q0) := by rw [make_turn0, m0]; rfl
  have t2 : makeM 2 (l.map turnM) = (e2, q2) := by rw [make_turn2, m2]; rfl
  have t5 : makeM 5 (l.map turnM) = (e4, q4) := by rw [make_turn4, m4]; rfl
  have hu : (q4 = 4 ∧ e4 = 0) ∨ (q4 = 0 ∧ e4 = 4) := by
    rcases make_unless l with u | u
    · rw [m4] at u; exact .inl ⟨congrArg Prod.fst u, congrArg Prod.snd u⟩
    · rw [m4] at u; exact .inr ⟨congrArg Prod.fst u, congrArg Prod.snd u⟩
  have HR := Lib.hid hrow
  clear hrow h
  go_enter Try.func7, Try.ntmps7
  go_wp2_with fail
  refine HR.out.mono ?_
  rintro x w1 ⟨A1, c1, rfl, hown, hb⟩
  have hs := Sl.of_own hown
  have hle := hs.le
  have hcap := hs.cap
  unfold maxLen at hcap
  have HB1 := Lib.hid hb
  have HS := Lib.hid hs
  clear hown hb hs
  go_wp2_with fail
  go_loopw [4, 23] (fun s i wr => ∃ k : Nat, k ≤ l.length ∧ i = .int .i64 k ∧ ∃ A' c', s = .slice A' k c' ∧ wr.ownsRow w1.heap.size 23 1 (.slice A' k c') k (mv ((l.take k).map turnM)) ∧ Below w1.heap.size w1 wr) (fun _ i _ => l.length - (intOf i).toNat)
  case atStart => exact ⟨0, Nat.zero_le _, rfl, none, 0, rfl, World.ownsRow_nil w1 _ _ _, Below.refl _ _⟩
  case round =>
    obtain ⟨k, hk, rfl, A', c', rfl, hown, hb⟩ := hrel
    have HO := Lib.hid hown
    have HB := Lib.hid hb
    clear hown hb
    by_cases hlt : k < l.length
    · obtain ⟨b, o, p, d, rfl, _, hx, hc⟩ := (HS.out.below HB.out).mark hlt
      have HX := Lib.hid hx
      clear hx
      obtain ⟨A2, c2, w2, hrun, hown2, hb2⟩ := append_mark (ty := 27) d p HO.out (by omega) HB.out.size
      have HO2 := Lib.hid hown2
      have HB2 := Lib.hid (HB.out.trans hb2)
      have HAP := Lib.hid hrun
      clear hown2 hb2 hrun
      go_wp2_with fail
      refine (turn_any p d _).mono ?_
      rintro e w' ⟨rfl, rfl⟩
      go_wp2_with (at_builtin; refine wpList_append_run rfl _ _ _ _ rfl rfl rfl HAP.out ?_)
      go_roundw
      case rel => exact ⟨k + 1, by omega, by go_num, A2, c2, rfl, by rw [map_step HX.out]; exact HO2.out, HB2.out⟩
      case measure => simp [intOf]; omega
    · obtain rfl : k = l.length := by omega
      have hs2 := Sl.of_own HO.out
      rw [List.take_length] at hs2
      have hs1 := HS.out.below HB.out
      have C0 := Lib.hid (all_at (x := 1) 0 (by decide +kernel) hs1 h6 m0)
      have C1 := Lib.hid (all_at (x := 2) 1 (by decide +kernel) hs2 h6.turn t1)
      have C4 := Lib.hid (all_at (x := 5) 4 (by decide +kernel) hs1 h6 m4)
      have C5 := Lib.hid (all_at (x := 6) 5 (by decide +kernel) hs2 h6.turn t5)
      have C2 := Lib.hid (all_at (x := 3) 2 (by decide +kernel) hs1 h6 m2)
      have C2' := Lib.hid (all_at (x := 3) 2 (by decide +kernel) hs2 h6.turn t2)
      have HBW := Lib.hid (below_step HB1.out HB.out)
      clear hs1 hs2 m0 m2 m4 t1 t2 t5
      obtain ⟨rfl, rfl⟩ | ⟨rfl, rfl⟩ := hu
      all_goals
        go_wp2_with fail
        refine (C0.out).mono ?_
        rintro x w' ⟨rfl, rfl⟩
        go_wp2_with fail
        refine (C1.out).mono ?_
        rintro x w' ⟨rfl, rfl⟩
        go_wp2_with fail
        refine (C4.out).mono ?_
        rintro x w' ⟨rfl, rfl⟩
        go_wp2_with fail
        refine (C5.out).mono ?_
        rintro x w' ⟨rfl, rfl⟩
        go_wp2_with fail
        refine (C2.out).mono ?_
        rintro x w' ⟨rfl, rfl⟩
        go_wp2_with fail
        refine (C2'.out).mono ?_
        rintro x w' ⟨rfl, rfl⟩
        go_wp2_with fail
        refine (turn_any _ _ _).mono ?_
        rintro x w' ⟨rfl, rfl⟩
        go_wp2_with fail
        refine (turn_any _ _ _).mono ?_
        rintro x w' ⟨rfl, rfl⟩
        go_wp2_with fail
        refine (turn_any _ _ _).mono ?_
        rintro x w' ⟨rfl, rfl⟩
        go_wp2_with fail
        refine (runs_any _).mono ?_
        rintro x w3 ⟨rfl, hb3⟩
        have hb4 := Lib.hid (below_step HBW.out hb3)
        clear hb3
        go_wp2_with fail
        go_ret
        exact ⟨rfl, hb4.out⟩
end Go.Proofs.Ytjkigjgpdbedmaa
