/- SumTells: the walk. -/
import Derived.Test.YtfehafeopoejgaaSumRuns
import Derived.Test.YtfehafeopoejgaaRoom
import Derived.Test.YtfehafeopoejgaaOpen
namespace Go.Proofs.Ytfehafeopoejgaa
set_option linter.unusedVariables false
open Go.RowKit

theorem sl_len {w : World} {B n c : Nat} {A : Option Addr} {l : List UInt8} (h : Sl w B A n c (bv l)) : Hid (l.length = n) := by show _ = _; rw [← bv_len]; exact h.len

/-- What Roomy made, whole and its beginning. -/
theorem room_sl {w : World} {g n : Nat} {t : TypeId} {l : List UInt8} (ho : Ob w g t (bv (l ++ List.replicate 80 7)).toArray) (hl : Hid (l.length = n)) (hn : n ≤ 300) :
    Hid (Sl w (g + 1) (some ⟨g, 0, none⟩) (n + 80) (n + 80) (bv (l ++ List.replicate 80 7))) ∧ Hid (Sl w (g + 1) (some ⟨g, 0, none⟩) n (n + 80) (bv l)) := by
  have h := hl.out
  have F : Sl w (g + 1) (some ⟨g, 0, none⟩) (n + 80) (n + 80) (bv (l ++ List.replicate 80 7)) := Ob.sl ho (by rw [bv_len, List.length_append, List.length_replicate]; omega) (by unfold maxLen; omega)
  refine ⟨F, ?_⟩
  have := F.take (k := n) (by omega)
  rw [← bv_take, List.take_left' h] at this
  exact this

set_option maxHeartbeats 6400000 in
theorem sumTells_walk (w : World) (p : Int) (hp : (Lit.int .u64 p).wf = true) (A : Option Addr) (n c : Nat) (hl : ∃ l, Sl w w.heap.size A n c (bv l)) :
    Calls Try.prog 4 #[.int .u64 p, .slice A n c] w fun e w' => e = .returned (.bool true) ∧ Below w.heap.size w w' := by
  obtain ⟨q, rfl, hq⟩ := wf_u64 hp
  clear hp
  have HQ := Lib.hid hq
  clear hq
  obtain ⟨l0, hl0⟩ := hl
  have hnc := hl0.le
  have hcap := hl0.cap
  unfold maxLen at hcap
  by_cases h300 : n ≤ 300
  case' pos =>
    obtain ⟨m, l, hl, hm, hmn⟩ : ∃ (m : Nat) (l : List UInt8), Sl w w.heap.size A m c (bv l) ∧ m ≤ 300 ∧ m = n := ⟨n, l0, hl0, h300, rfl⟩
    subst hmn
  case' neg =>
    obtain ⟨m, l, hl, hm, hmn⟩ : ∃ (m : Nat) (l : List UInt8), Sl w w.heap.size A m c (bv l) ∧ m ≤ 300 ∧ m = 300 := ⟨300, l0.take 300, by rw [bv_take]; exact hl0.take (by omega), by omega, rfl⟩
    subst hmn
  all_goals
    clear hl0
    have HL := Lib.hid hl
    have HLEN := sl_len hl
    clear hl
    go_enter Try.func4, Try.ntmps4
    go_wp2_with fail
    refine (roomy_any (x := 7) rfl HL.out (Nat.le_refl _) (by omega)).mono ?_
    rintro e w1 ⟨rfl, ho1, hb1⟩
    obtain ⟨F1, G1⟩ := room_sl ho1 HLEN hm
    have HG : Hid (w.heap.size + 1 ≤ w1.heap.size) := ho1.lt
    have B1 := Lib.hid hb1
    have L1 := Lib.hid (HL.out.below B1.out)
    clear ho1 hb1
    go_wp2_with fail
    refine (sum_any G1.out).mono ?_
    rintro e w2 ⟨rfl, rfl⟩
    go_wp2_with fail
    refine (refsum_any L1.out).mono ?_
    rintro e w2 ⟨rfl, rfl⟩
    unfold sv
    go_wp2_with fail
    refine (chain_any HQ.out G1.out).mono ?_
    rintro e w2 ⟨rfl, rfl⟩
    go_wp2_with fail
    refine (refchain_any HQ.out L1.out).mono ?_
    rintro e w2 ⟨rfl, rfl⟩
    unfold hv
    go_wp2_with fail
    refine (intact_any (x := 7) rfl F1.out L1.out (by omega)).mono ?_
    rintro e w2 ⟨rfl, hb2⟩
    have B2 := Lib.hid (below_step B1.out hb2)
    clear hb2
    go_wp2_with fail
    refine (runs_any _).mono ?_
    rintro e w3 ⟨rfl, hb3⟩
    have B3 := Lib.hid (below_step B2.out hb3)
    clear hb3
    go_wp2_with fail
    go_ret
    exact ⟨rfl, B3.out⟩
end Go.Proofs.Ytfehafeopoejgaa
