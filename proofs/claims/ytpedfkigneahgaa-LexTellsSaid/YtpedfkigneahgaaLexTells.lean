/- LexTells: the walk. -/
import Derived.Test.YtpedfkigneahgaaLexRuns
import Derived.Test.YtpedfkigneahgaaLexRefL
namespace Go.Proofs.Ytpedfkigneahgaa
set_option linter.unusedVariables false
open Go.RowKit

/-- What the law asks of a text, behind its cut. -/
theorem tells_same (t : ByteArray) (x : Except Nat (List Tk)) {W w1 w2 : World} {e1 e2 : Ending} (h1 : AllP W x e1 w1) (h2 : RLexP w1 x e2 w2) :
    ∃ (A A' : Option Addr) (n n' c c' : Nat) (k p : Int) (l : List Tk), e1 = .returned (.tuple #[.slice A n c, .int .i64 k, .int .i64 p]) ∧ e2 = .returned (.tuple #[.slice A' n' c', .int .i64 k, .int .i64 p]) ∧ Ts w2 w2.heap.size A n c l ∧ Ts w2 w2.heap.size A' n c' l ∧ n' = n ∧ Below W.heap.size W w1 ∧ Below w1.heap.size w1 w2 := by
  cases x with
  | error i =>
    exact ⟨none, none, 0, 0, 0, 0, 5, i, [], h1.1, h2.1, Ts.nil_ _ _, Ts.nil_ _ _, rfl, h1.2, h2.2⟩
  | ok ts =>
    obtain ⟨A, n, c, rfl, ho, hb⟩ := h1
    obtain ⟨A', n', c', rfl, ho', hb'⟩ := h2
    have hn : ts.length = n := by have := ho.1; rw [cells4_len] at this; omega
    have hn' : ts.length = n' := by have := ho'.1; rw [cells4_len] at this; omega
    have e : n' = n := by omega
    subst e
    exact ⟨A, A', n', n', c, c', 0, 0, ts, rfl, rfl, (Ts.of_own ho).then_ hb', Ts.of_own ho', rfl, hb, hb'⟩

set_option maxRecDepth 100000 in
set_option maxHeartbeats 1600000 in
theorem lexTells_walk (s : ByteArray) (hs : s.size ≤ maxLen) (w : World) : Calls Try.prog 4 #[.string s] w fun e w' => e = .returned (.bool true) ∧ Below w.heap.size w w' := by
  by_cases hbig : 4096 < s.size
  · have H1 := Lib.hid (fun w => all_big s hbig hs w)
    have H2 := Lib.hid (fun w => rlex_big s hbig hs w)
    have HR := Lib.hid (fun w => lexruns_any w)
    have TN := Lib.hid (Ts.nil_ w w.heap.size)
    have hb1 : (400 : Int) < (s.size : Int) := by omega
    have hb2 : decide ((s.size : Int) ≤ 4096) = false := decide_eq_false (by omega)
    have hb3 : ¬ (s.size : Int) ≤ 4096 := by omega
    unfold maxLen at hs
    go_enter Try.func4, Try.ntmps4
    go_wp2_with fail
    refine (H1.out _).mono ?_
    rintro e w1 ⟨rfl, rfl⟩
    go_wp2_with fail
    refine (H2.out _).mono ?_
    rintro e w1 ⟨rfl, rfl⟩
    go_wp2_with fail
    refine (tsame_any TN.out TN.out).mono ?_
    rintro e w3 ⟨rfl, q, rfl⟩
    go_wp2_with fail
    refine (HR.out _).mono ?_
    rintro e w4 ⟨rfl, hb4⟩
    go_wp2_with fail
    go_ret
    exact ⟨rfl, (below_drewN (Below.refl _ _) q).trans hb4⟩
  · have key : ∀ t : ByteArray, t.size ≤ 4096 → ∃ A A' n c c' k p, True := fun _ _ => ⟨0, 0, 0, 0, 0, 0, 0, trivial⟩
    clear key
    have HR := Lib.hid (fun w => lexruns_any w)
    by_cases h400 : 400 < s.size
    case' pos =>
      have hb1 : (400 : Int) < (s.size : Int) := by omega
      have hb2 : (s.size : Int) ≤ 4096 := by omega
      have hsz : (s.extract 0 400).size ≤ 4096 := by rw [ext_size _ (by omega)]; omega
      have H1 := Lib.hid (fun w => all_any (s.extract 0 400) hsz w)
      have H2 := Lib.hid (fun w => rlex_any (s.extract 0 400) hsz w)
      clear hsz
    case' neg =>
      have hb1 : ¬ (400 : Int) < (s.size : Int) := by omega
      have H1 := Lib.hid (fun w => all_any s (by omega) w)
      have H2 := Lib.hid (fun w => rlex_any s (by omega) w)
    all_goals
      unfold maxLen at hs
      go_enter Try.func4, Try.ntmps4
      go_wp2_with fail
      refine (H1.out _).mono ?_
      intro e1 w1 h1
      have HP1 := Lib.hid h1
      obtain ⟨A, n, c, k, p, he1⟩ : ∃ (A : Option Addr) (n c : Nat) (k p : Int), e1 = .returned (.tuple #[.slice A n c, .int .i64 k, .int .i64 p]) := by
        unfold AllP at h1
        split at h1
        · obtain ⟨A, n, c, rfl, _⟩ := h1; exact ⟨_, _, _, _, _, rfl⟩
        · exact ⟨_, _, _, _, _, h1.1⟩
      subst he1
      clear h1
      go_wp2_with fail
      refine (H2.out _).mono ?_
      intro e2 w2 h2
      obtain ⟨A1, A', n1, n', c1, c', k1, p1, l, he1, he2, t1, t2, hnn, b1, b2⟩ := tells_same s _ HP1.out h2
      simp only [Ending.returned.injEq, Value.tuple.injEq, Array.mk.injEq, List.cons.injEq, Value.slice.injEq, Value.int.injEq, and_true, true_and] at he1
      obtain ⟨⟨rfl, rfl, rfl⟩, rfl, rfl⟩ := he1
      subst he2 hnn
      have TX := Lib.hid t1
      have TY := Lib.hid t2
      have D2 := Lib.hid (below_step b1 b2)
      clear t1 t2 b1 b2 h2 HP1
      go_wp2_with fail
      refine (tsame_any TX.out TY.out).mono ?_
      rintro e w3 ⟨rfl, q, rfl⟩
      go_wp2_with fail
      refine (HR.out _).mono ?_
      rintro e w4 ⟨rfl, hb4⟩
      go_wp2_with fail
      go_ret
      exact ⟨rfl, (below_drewN D2.out q).trans (hb4.mono (by show _ ≤ w2.heap.size; exact D2.out.size))⟩
end Go.Proofs.Ytpedfkigneahgaa
