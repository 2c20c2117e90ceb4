/- AskRuns, in any world: Get and Put of no request. -/
import Derived.Test.YtincnopaclmppaaAskGet
import Derived.Test.YtincnopaclmppaaTextP
import Derived.Test.YtincnopaclmppaaSame
namespace Go.Proofs.Ytincnopaclmppaa
set_option linter.unusedVariables false
open Go.RowKit

set_option maxHeartbeats 800000 in
theorem insert_nil {c : Nat} (f : Value) (w : World) :
    Calls Try.prog 80 #[.slice none 0 0, .int .i64 0, .int .i64 0, f] w fun e w' => e = .returned (.tuple #[]) ∧ w' = w := by
  go_enter Try.func80, Try.ntmps80
  go_wp2
  go_loop [8] (fun i => i = .int .i64 1) (fun i => 0)
  case atStart => rfl
  case round =>
    obtain rfl := hrel
    go_wp2
    go_end0
    exact ⟨rfl, rfl⟩
set_option maxHeartbeats 800000 in
theorem stable_nil (f : Value) (w : World) :
    Calls Try.prog 71 #[.slice none 0 0, .int .i64 0, f] w fun e w' => e = .returned (.tuple #[]) ∧ w' = w := by
  go_enter Try.func71, Try.ntmps71
  go_wp2
  go_loop [7, 8] (fun i j => i = .int .i64 0 ∧ j = .int .i64 20) (fun i j => 0)
  case atStart => exact ⟨rfl, rfl⟩
  case round =>
    obtain ⟨rfl, rfl⟩ := hrel
    go_wp2_with (go_at_call 80; refine (insert_nil (c := 0) f w).mono ?_; rintro e w1 ⟨rfl, rfl⟩)
    go_loop [6] (fun i => i = .int .i64 20) (fun i => 0)
    case atStart => rfl
    case round =>
      obtain rfl := hrel
      go_wp2
      go_end0
      exact ⟨rfl, rfl⟩
theorem sorts_nil (f : Value) (w : World) :
    Calls Try.prog 50 #[.slice none 0 0, f] w fun e w' => e = .returned (.tuple #[]) ∧ w' = w := by
  go_enter Try.func50, Try.ntmps50
  go_wp2_with (go_at_call 71; refine (stable_nil f w).mono ?_; rintro e w1 ⟨rfl, rfl⟩)
  go_end0
  exact ⟨rfl, rfl⟩
theorem ordered_nil (w : World) :
    Calls Try.prog 31 #[.slice none 0 0] w fun e w' => e = .returned (.slice none 0 0) ∧ w' = w := by
  obtain ⟨i, hi, _, _, _⟩ := info_of givinfo
  have HR := Lib.hid (append_nil_src (ty := 47) (c := 0) Try.underlying47 hi (w := w) (World.ownsRow_nil w w.heap.size 49 3))
  clear hi
  go_enter Try.func31, Try.ntmps31
  go_wp2_with (first
    | (at_builtin; refine wpList_append_run rfl _ _ _ _ rfl rfl rfl HR.out ?_)
    | (go_at_call 50; refine (sorts_nil _ w).mono ?_; rintro e w1 ⟨rfl, rfl⟩))
  go_ret
  exact ⟨rfl, rfl⟩
set_option maxHeartbeats 800000 in
theorem put_nil (w : World) :
    Calls Try.prog 15 #[.slice none 0 0] w fun e w' => ∃ A n c, e = .returned (.slice A n c) ∧ Below w.heap.size w w' ∧ Sl w' w'.heap.size A n c (bv [0]) := by
  have HN := Lib.hid (num_nil w 0 (by omega) (by omega))
  go_enter Try.func15, Try.ntmps15
  go_wp2_with (first
    | (go_at_call 30; refine HN.out.mono ?_; rintro e w1 ⟨A, n, c, rfl, ho, hb⟩; have HO := Lib.hid ho; have HB := Lib.hid hb; clear ho hb)
    | (go_at_call 31; refine (ordered_nil _).mono ?_; rintro e w2 ⟨rfl, rfl⟩))
  go_loop [3, 14] (fun o i => o = .slice A n c ∧ i = .int .i64 0) (fun o i => 0)
  case atStart => exact ⟨rfl, rfl⟩
  case round =>
    obtain ⟨rfl, rfl⟩ := hrel
    go_wp2
    go_ret
    have e0 : numB 0 = [0] := by decide +kernel
    exact ⟨A, n, c, rfl, HB.out, Sl.of_own (by rw [← e0]; exact HO.out)⟩
set_option maxHeartbeats 1600000 in
theorem aruns_any (w : World) : Calls Try.prog 4 #[] w fun e w' => e = .returned (.bool true) ∧ Below w.heap.size w w' := by
  have HG := Lib.hid (aget_any (l := []) ⟨1, ⟨#[114, 111, 108, 101]⟩, true⟩ (Rw.nil_ 3 (GivAt w fun _ => True) w fun _ => True) (fun g hg => by cases hg))
  have e1 : getE [] ⟨1, ⟨#[114, 111, 108, 101]⟩, true⟩ = 4 := by rfl
  have e2 : getR [] ⟨1, ⟨#[114, 111, 108, 101]⟩, true⟩ = [] := by rfl
  rw [e1, e2] at HG
  clear e1 e2
  simp only at HG
  go_enter Try.func4, Try.ntmps4
  go_wp2_with (first
    | (go_at_call 13; refine HG.out.mono ?_; rintro e w1 ⟨A1, n1, c1, rfl, hb1, hv1⟩; obtain rfl : n1 = 0 := (Rw.len hv1).symm; have B1 := Lib.hid hb1; clear hb1 hv1)
    | (go_at_call 15; refine (put_nil _).mono ?_; rintro e w2 ⟨A2, n2, c2, rfl, hb2, hs2⟩; have B2 := Lib.hid (below_step B1.out hb2); have S2 := Lib.hid hs2
       have CS := Lib.hid (fun t => same_any (hs2.lit_keep (Nat.le_refl _) (.cells #[.int .u8 0] t)) (Sl.lit w2 t (bv [0]) 1 rfl (by simp [maxLen])))
       clear hb2 hs2)
    | (go_at_call 14; refine (CS.out _).mono ?_; rintro e w3 ⟨rfl, k3, rfl⟩))
  go_ret
  exact ⟨by simp, below_drewN (B2.out.alloc B2.out.size _) _⟩
end Go.Proofs.Ytincnopaclmppaa
