/- The law VarsAsks. -/
import Derived.Test.YtadjfkgnoklmiaaGreatVrsF
import Derived.Test.YtadjfkgnoklmiaaGreatVrsG
import Derived.Test.YtadjfkgnoklmiaaGreatVrsH
import Derived.Lib.MinMax
namespace Go.Proofs.YtadjfkgnoklmiaaGreat
set_option linter.unusedVariables false
open Go.RowKit

theorem vtg_lit (V : World) (g : Nat) (hg : V.heap.size = g) (m : Mat) (hm : m.ok) : Tg (((V.alloc (.cells #[.int .i64 m.a.cat, .string m.a.name, .bool m.a.must, .int .i64 m.op, .int .i64 m.v.k, .int .i64 m.v.n, .string m.v.s] 42)).alloc (.cells #[.slice (some ⟨g, 0, none⟩) 1 1] 55)).alloc (.cells #[.slice (some ⟨g + 1, 0, none⟩) 1 1] 56)) (fun _ => True) (some ⟨g + 1 + 1, 0, none⟩) 1 1 [[[m]]] := by
  subst hg
  have h1 : Ms (V.alloc (.cells #[.int .i64 m.a.cat, .string m.a.name, .bool m.a.must, .int .i64 m.op, .int .i64 m.v.k, .int .i64 m.v.n, .string m.v.s] 42)) (fun _ => True) (some ⟨V.heap.size, 0, none⟩) 1 1 [m] := by
    have := Rw.lit (k := 7) (P := fun vs (m : Mat) => vs = m.cells ∧ m.ok) (R := fun _ => True) V 42 Mat.cells [m] (n := 1) rfl (by omega) trivial (fun _ _ => rfl) (fun x hx => by simp at hx; subst hx; exact ⟨rfl, hm⟩)
    rw [show [m].flatMap Mat.cells = m.cells by simp] at this
    exact this
  generalize hw1 : V.alloc (.cells #[.int .i64 m.a.cat, .string m.a.name, .bool m.a.must, .int .i64 m.op, .int .i64 m.v.k, .int .i64 m.v.n, .string m.v.s] 42) = w1 at *
  have hs1 : w1.heap.size = V.heap.size + 1 := by rw [← hw1, size_al]
  have h2 : Als (w1.alloc (.cells #[.slice (some ⟨V.heap.size, 0, none⟩) 1 1] 55)) (fun _ => True) (some ⟨w1.heap.size, 0, none⟩) 1 1 [[m]] := by
    have := Rw.lit (k := 1) (P := fun vs (l : List Mat) => ∃ A n c, vs = [.slice A n c] ∧ Ms (w1.alloc (.cells #[.slice (some ⟨V.heap.size, 0, none⟩) 1 1] 55)) (fun _ => True) A n c l) (R := fun _ => True) w1 55 (fun _ => [.slice (some ⟨V.heap.size, 0, none⟩) 1 1]) [[m]] (n := 1) rfl (by omega) trivial (fun _ _ => rfl) (fun x hx => by
      simp at hx; subst hx; exact ⟨_, _, _, rfl, h1.keep (Kept.all ((Below.refl _ _).alloc (Nat.le_refl _) _) _) (fun _ h _ => h)⟩)
    exact this
  rw [← hs1]
  generalize hw2 : w1.alloc (.cells #[.slice (some ⟨V.heap.size, 0, none⟩) 1 1] 55) = w2 at *
  have hs2 : w2.heap.size = w1.heap.size + 1 := by rw [← hw2, size_al]
  have := Rw.lit (k := 1) (P := fun vs (l : List (List Mat)) => ∃ A n c, vs = [.slice A n c] ∧ Als (w2.alloc (.cells #[.slice (some ⟨w1.heap.size, 0, none⟩) 1 1] 56)) (fun _ => True) A n c l) (R := fun _ => True) w2 56 (fun _ => [.slice (some ⟨w1.heap.size, 0, none⟩) 1 1]) [[[m]]] (n := 1) rfl (by omega) trivial (fun _ _ => rfl) (fun x hx => by
    simp at hx; subst hx; exact ⟨_, _, _, rfl, h2.keep (Kept.all ((Below.refl _ _).alloc (Nat.le_refl _) _) _) (fun _ h _ => h)⟩)
  rw [hs2] at this
  exact this
def vaP (m : Mat) (l : List Nod) : Pol := .mk ⟨#[]⟩ false 0 [[[m]]] [⟨⟨#[]⟩, false, [], l, []⟩] [] []
theorem vcond_tri (ask : List Giv) (l : List Nod) : 0 ≤ condP ask l ∧ condP ask l ≤ 2 := by
  unfold condP
  split
  · decide
  · split
    · decide
    · split <;> decide
theorem vmatch_tri (ask : List Giv) (m : Mat) : 0 ≤ matchI ask m ∧ matchI ask m ≤ 2 := tri_match ask m
set_option maxRecDepth 100000 in
set_option maxHeartbeats 6400000 in
theorem varsAsks_walk (W : World) (m : Mat) (hm : m.ok) (A0 : Option Addr) (n0 c0 : Nat) (h0 : ∃ l, Nds W (fun _ => True) A0 n0 c0 l) (A2 : Option Addr) (n2 c2 : Nat) (h2 : ∃ l, Gvs W (fun _ => True) A2 n2 c2 l) :
    Calls Tryz.prog 4 #[m.val, .slice A0 n0 c0, .slice A2 n2 c2] W fun e w' => e = .returned (.bool true) ∧ Below W.heap.size W w' := by
  obtain ⟨l0, h0⟩ := h0
  obtain ⟨ask, h2⟩ := h2
  have b0 := Rw.le h0
  have m0 := Rw.cap h0
  unfold maxLen at m0
  obtain ⟨p0, hp0⟩ : ∃ p : Nat, min (n0 : Int) 20 = (p : Int) := ⟨(min (n0 : Int) 20).toNat, by omega⟩
  have y0 : (p0 : Int) ≤ (c0 : Int) := by omega
  have T0 : Hid (Nds W (fun _ => True) A0 p0 c0 (l0.take p0)) := h0.take (by omega)
  have T2 := Lib.hid h2
  have S0 : Hid (p0 ≤ 20) := by show _ ≤ _; omega
  have OM := Lib.hid (Ob.made W 42 #[.int .i64 m.a.cat, .string m.a.name, .bool m.a.must, .int .i64 m.op, .int .i64 m.v.k, .int .i64 m.v.n, .string m.v.s])
  have BM := Lib.hid ((Below.refl W.heap.size W).alloc (Nat.le_refl _) (.cells #[.int .i64 m.a.cat, .string m.a.name, .bool m.a.must, .int .i64 m.op, .int .i64 m.v.k, .int .i64 m.v.n, .string m.v.s] 42))
  have cM := OM.out.c7v
  generalize l0.take p0 = l at *
  have hlen := T0.out.len
  have s1 : (W.alloc (.cells #[.int .i64 m.a.cat, .string m.a.name, .bool m.a.must, .int .i64 m.op, .int .i64 m.v.k, .int .i64 m.v.n, .string m.v.s] 42)).heap.size = W.heap.size + 1 := size_al _ _
  have tg := vtg_lit (W.alloc (.cells #[.int .i64 m.a.cat, .string m.a.name, .bool m.a.must, .int .i64 m.op, .int .i64 m.v.k, .int .i64 m.v.n, .string m.v.s] 42)) (W.heap.size + 1) s1 m hm
  have s4 : ((((W.alloc (.cells #[.int .i64 m.a.cat, .string m.a.name, .bool m.a.must, .int .i64 m.op, .int .i64 m.v.k, .int .i64 m.v.n, .string m.v.s] 42)).alloc (.cells #[.int .i64 m.a.cat, .string m.a.name, .bool m.a.must, .int .i64 m.op, .int .i64 m.v.k, .int .i64 m.v.n, .string m.v.s] 42)).alloc (.cells #[.slice (some ⟨W.heap.size + 1, 0, none⟩) 1 1] 55)).alloc (.cells #[.slice (some ⟨W.heap.size + 1 + 1, 0, none⟩) 1 1] 56)).heap.size = W.heap.size + 1 + 1 + 1 + 1 := by rw [size_al, size_al, size_al, s1]
  have b14 : Below (W.alloc (.cells #[.int .i64 m.a.cat, .string m.a.name, .bool m.a.must, .int .i64 m.op, .int .i64 m.v.k, .int .i64 m.v.n, .string m.v.s] 42)).heap.size (W.alloc (.cells #[.int .i64 m.a.cat, .string m.a.name, .bool m.a.must, .int .i64 m.op, .int .i64 m.v.k, .int .i64 m.v.n, .string m.v.s] 42)) ((((W.alloc (.cells #[.int .i64 m.a.cat, .string m.a.name, .bool m.a.must, .int .i64 m.op, .int .i64 m.v.k, .int .i64 m.v.n, .string m.v.s] 42)).alloc (.cells #[.int .i64 m.a.cat, .string m.a.name, .bool m.a.must, .int .i64 m.op, .int .i64 m.v.k, .int .i64 m.v.n, .string m.v.s] 42)).alloc (.cells #[.slice (some ⟨W.heap.size + 1, 0, none⟩) 1 1] 55)).alloc (.cells #[.slice (some ⟨W.heap.size + 1 + 1, 0, none⟩) 1 1] 56)) := (((Below.refl _ _).alloc (Nat.le_refl _) _).alloc (by simp only [size_al]; omega) _).alloc (by simp only [size_al]; omega) _
  have b45 : Below ((((W.alloc (.cells #[.int .i64 m.a.cat, .string m.a.name, .bool m.a.must, .int .i64 m.op, .int .i64 m.v.k, .int .i64 m.v.n, .string m.v.s] 42)).alloc (.cells #[.int .i64 m.a.cat, .string m.a.name, .bool m.a.must, .int .i64 m.op, .int .i64 m.v.k, .int .i64 m.v.n, .string m.v.s] 42)).alloc (.cells #[.slice (some ⟨W.heap.size + 1, 0, none⟩) 1 1] 55)).alloc (.cells #[.slice (some ⟨W.heap.size + 1 + 1, 0, none⟩) 1 1] 56)).heap.size ((((W.alloc (.cells #[.int .i64 m.a.cat, .string m.a.name, .bool m.a.must, .int .i64 m.op, .int .i64 m.v.k, .int .i64 m.v.n, .string m.v.s] 42)).alloc (.cells #[.int .i64 m.a.cat, .string m.a.name, .bool m.a.must, .int .i64 m.op, .int .i64 m.v.k, .int .i64 m.v.n, .string m.v.s] 42)).alloc (.cells #[.slice (some ⟨W.heap.size + 1, 0, none⟩) 1 1] 55)).alloc (.cells #[.slice (some ⟨W.heap.size + 1 + 1, 0, none⟩) 1 1] 56)) (((((W.alloc (.cells #[.int .i64 m.a.cat, .string m.a.name, .bool m.a.must, .int .i64 m.op, .int .i64 m.v.k, .int .i64 m.v.n, .string m.v.s] 42)).alloc (.cells #[.int .i64 m.a.cat, .string m.a.name, .bool m.a.must, .int .i64 m.op, .int .i64 m.v.k, .int .i64 m.v.n, .string m.v.s] 42)).alloc (.cells #[.slice (some ⟨W.heap.size + 1, 0, none⟩) 1 1] 55)).alloc (.cells #[.slice (some ⟨W.heap.size + 1 + 1, 0, none⟩) 1 1] 56)).alloc (.cells #[.string ⟨#[]⟩, .bool false, .slice none 0 0, .slice A0 p0 c0, .slice none 0 0] 58)) := (Below.refl _ _).alloc (Nat.le_refl _) _
  have b15 := below_step b14 b45
  have bW5 := below_step BM.out b15
  have hnd := T0.out.keep (Kept.all bW5 _) (fun _ h _ => h)
  have hru : Rus (((((W.alloc (.cells #[.int .i64 m.a.cat, .string m.a.name, .bool m.a.must, .int .i64 m.op, .int .i64 m.v.k, .int .i64 m.v.n, .string m.v.s] 42)).alloc (.cells #[.int .i64 m.a.cat, .string m.a.name, .bool m.a.must, .int .i64 m.op, .int .i64 m.v.k, .int .i64 m.v.n, .string m.v.s] 42)).alloc (.cells #[.slice (some ⟨W.heap.size + 1, 0, none⟩) 1 1] 55)).alloc (.cells #[.slice (some ⟨W.heap.size + 1 + 1, 0, none⟩) 1 1] 56)).alloc (.cells #[.string ⟨#[]⟩, .bool false, .slice none 0 0, .slice A0 p0 c0, .slice none 0 0] 58)) (fun _ => True) (some ⟨W.heap.size + 1 + 1 + 1 + 1, 0, none⟩) 1 1 [⟨⟨#[]⟩, false, [], l, []⟩] := by
    have := Rw.lit (k := 5) (P := RulAt (((((W.alloc (.cells #[.int .i64 m.a.cat, .string m.a.name, .bool m.a.must, .int .i64 m.op, .int .i64 m.v.k, .int .i64 m.v.n, .string m.v.s] 42)).alloc (.cells #[.int .i64 m.a.cat, .string m.a.name, .bool m.a.must, .int .i64 m.op, .int .i64 m.v.k, .int .i64 m.v.n, .string m.v.s] 42)).alloc (.cells #[.slice (some ⟨W.heap.size + 1, 0, none⟩) 1 1] 55)).alloc (.cells #[.slice (some ⟨W.heap.size + 1 + 1, 0, none⟩) 1 1] 56)).alloc (.cells #[.string ⟨#[]⟩, .bool false, .slice none 0 0, .slice A0 p0 c0, .slice none 0 0] 58)) (fun _ => True)) (R := fun _ => True) ((((W.alloc (.cells #[.int .i64 m.a.cat, .string m.a.name, .bool m.a.must, .int .i64 m.op, .int .i64 m.v.k, .int .i64 m.v.n, .string m.v.s] 42)).alloc (.cells #[.int .i64 m.a.cat, .string m.a.name, .bool m.a.must, .int .i64 m.op, .int .i64 m.v.k, .int .i64 m.v.n, .string m.v.s] 42)).alloc (.cells #[.slice (some ⟨W.heap.size + 1, 0, none⟩) 1 1] 55)).alloc (.cells #[.slice (some ⟨W.heap.size + 1 + 1, 0, none⟩) 1 1] 56)) 58 (fun _ => [.string ⟨#[]⟩, .bool false, .slice none 0 0, .slice A0 p0 c0, .slice none 0 0]) [⟨⟨#[]⟩, false, [], l, []⟩] (n := 1) rfl (by omega) trivial (fun _ _ => rfl) (fun x hx => by
      simp at hx; subst hx
      exact ⟨none, 0, 0, A0, p0, c0, none, 0, 0, rfl, (show (⟨#[]⟩ : ByteArray).size ≤ maxLen by decide +kernel), Rw.nil_ _ _ _ _, hnd, Rw.nil_ _ _ _ _⟩)
    rw [s4] at this
    exact this
  have hsm := small_pol (d := 0) (p := vaP m l) (A3 := none) (n3 := 0) (k3 := 0) (A4 := none) (n4 := 0) (k4 := 0) (by show (⟨#[]⟩ : ByteArray).size ≤ maxLen; decide +kernel) (tg.keep (Kept.all b45 _) (fun _ h _ => h)) hru (Rw.nil_ _ _ _ _) (Rw.nil_ _ _ _ _)
  have SM : Hid (∀ b, decide (polC 1 (vaP m l) ≤ 3000) = b → Calls Tryz.prog 5 #[.agg #[.string ⟨#[]⟩, .bool false, .int .i64 0, .slice (some ⟨W.heap.size + 1 + 1 + 1, 0, none⟩) 1 1, .slice (some ⟨W.heap.size + 1 + 1 + 1 + 1, 0, none⟩) 1 1, .slice none 0 0, .slice none 0 0]] (((((W.alloc (.cells #[.int .i64 m.a.cat, .string m.a.name, .bool m.a.must, .int .i64 m.op, .int .i64 m.v.k, .int .i64 m.v.n, .string m.v.s] 42)).alloc (.cells #[.int .i64 m.a.cat, .string m.a.name, .bool m.a.must, .int .i64 m.op, .int .i64 m.v.k, .int .i64 m.v.n, .string m.v.s] 42)).alloc (.cells #[.slice (some ⟨W.heap.size + 1, 0, none⟩) 1 1] 55)).alloc (.cells #[.slice (some ⟨W.heap.size + 1 + 1, 0, none⟩) 1 1] 56)).alloc (.cells #[.string ⟨#[]⟩, .bool false, .slice none 0 0, .slice A0 p0 c0, .slice none 0 0] 58)) fun e w' => e = .returned (.bool b) ∧ Below (((((W.alloc (.cells #[.int .i64 m.a.cat, .string m.a.name, .bool m.a.must, .int .i64 m.op, .int .i64 m.v.k, .int .i64 m.v.n, .string m.v.s] 42)).alloc (.cells #[.int .i64 m.a.cat, .string m.a.name, .bool m.a.must, .int .i64 m.op, .int .i64 m.v.k, .int .i64 m.v.n, .string m.v.s] 42)).alloc (.cells #[.slice (some ⟨W.heap.size + 1, 0, none⟩) 1 1] 55)).alloc (.cells #[.slice (some ⟨W.heap.size + 1 + 1, 0, none⟩) 1 1] 56)).alloc (.cells #[.string ⟨#[]⟩, .bool false, .slice none 0 0, .slice A0 p0 c0, .slice none 0 0] 58)).heap.size (((((W.alloc (.cells #[.int .i64 m.a.cat, .string m.a.name, .bool m.a.must, .int .i64 m.op, .int .i64 m.v.k, .int .i64 m.v.n, .string m.v.s] 42)).alloc (.cells #[.int .i64 m.a.cat, .string m.a.name, .bool m.a.must, .int .i64 m.op, .int .i64 m.v.k, .int .i64 m.v.n, .string m.v.s] 42)).alloc (.cells #[.slice (some ⟨W.heap.size + 1, 0, none⟩) 1 1] 55)).alloc (.cells #[.slice (some ⟨W.heap.size + 1 + 1, 0, none⟩) 1 1] 56)).alloc (.cells #[.string ⟨#[]⟩, .bool false, .slice none 0 0, .slice A0 p0 c0, .slice none 0 0] 58)) w') := by
    intro b hb
    rw [← hb]
    exact hsm
  have B5 := Lib.hid bW5
  have O5 := Lib.hid (OM.out.below b15 OM.out.lt)
  have HM := Lib.hid hm
  have HL := Lib.hid hlen
  clear h0 h2 s1 tg s4 b14 b45 b15 bW5 hnd hru hsm hlen hm
  show Calls Tryz.prog 4 #[.agg #[.int .i64 m.a.cat, .string m.a.name, .bool m.a.must, .int .i64 m.op, .int .i64 m.v.k, .int .i64 m.v.n, .string m.v.s], .slice A0 n0 c0, .slice A2 n2 c2] W _
  by_cases c1 : polC 1 (vaP m l) ≤ 3000
  rotate_left
  · have S1 := Lib.hid (SM.out false (decide_eq_false c1))
    clear c1 SM
    go_enter Tryz.func4, Tryz.ntmps4
    go_wp2_with fail
    refine S1.out.mono ?_
    rintro e w1 ⟨rfl, hb⟩
    have D1 := Lib.hid (below_step B5.out hb)
    clear hb
    go_wp2_with fail
    refine (vruns_any _).mono ?_
    rintro e w9 ⟨rfl, hb⟩
    have D9 := Lib.hid (below_step D1.out hb)
    clear hb
    go_wp2_with fail
    go_ret
    exact ⟨rfl, D9.out⟩
    
  have S1 := Lib.hid (SM.out true (decide_eq_true c1))
  clear c1 SM
  have FE := Lib.hid (fun (b : Bool) (hb : decide (fewC ask ≤ 1200) = b) V (hV : Below W.heap.size W V) => (show Calls Tryz.prog 6 #[.slice A2 n2 c2] V fun e w' => e = .returned (.bool b) ∧ Below V.heap.size V w' from by rw [← hb]; exact few_any (T2.out.keep (Kept.all hV _) (fun _ h _ => h))))
  by_cases c2 : fewC ask ≤ 1200
  rotate_left
  · have F1 := Lib.hid (FE.out false (decide_eq_false c2))
    clear c2 FE
    go_enter Tryz.func4, Tryz.ntmps4
    go_wp2_with fail
    refine S1.out.mono ?_
    rintro e w1 ⟨rfl, hb⟩
    have D1 := Lib.hid (below_step B5.out hb)
    clear hb
    go_wp2_with fail
    refine (F1.out _ D1.out).mono ?_
    rintro e w2 ⟨rfl, hb⟩
    have D2 := Lib.hid (below_step D1.out hb)
    clear hb
    go_wp2_with fail
    refine (vruns_any _).mono ?_
    rintro e w9 ⟨rfl, hb⟩
    have D9 := Lib.hid (below_step D2.out hb)
    clear hb
    go_wp2_with fail
    go_ret
    exact ⟨rfl, D9.out⟩
    
  have F1 := Lib.hid (FE.out true (decide_eq_true c2))
  have HG := Lib.hid (few_short c2)
  clear c2 FE
  have ht := vmatch_tri ask m
  have hmet := met_one ask m
  have AM : Hid (∀ r, matchI ask m = r → ∀ V, Below W.heap.size W V → Calls Tryz.prog 9 #[.agg #[.int .i64 m.a.cat, .string m.a.name, .bool m.a.must, .int .i64 m.op, .int .i64 m.v.k, .int .i64 m.v.n, .string m.v.s, .slice none 0 0], .slice A2 n2 c2] V fun e w' => e = .returned (.int .i64 r) ∧ Below V.heap.size V w') := by
    intro r hr V hV
    have := vask_any (w := V) (a := matA m) (R := fun _ => True) (A := none) (n := 0) (c := 0) (Rw.nil_ _ _ _ _) HM.out (T2.out.keep (Kept.all hV _) (fun _ h _ => h)) HG.out
    rw [ask_mat, hr] at this
    exact this
  have MM : Hid (∀ r, matchI ask m = r → ∀ V, Below W.heap.size W V → ∀ g, Tg V (fun _ => True) (some ⟨g, 0, none⟩) 1 1 [[[m]]] → Calls Tryz.prog 12 #[.slice (some ⟨g, 0, none⟩) 1 1, .slice A2 n2 c2] V fun e w' => e = .returned (.int .i64 r) ∧ Below V.heap.size V w') := by
    intro r hr V hV g hg
    have := tgmet_any hg (T2.out.keep (Kept.all hV _) (fun _ h _ => h)) HG.out
    rw [hmet, hr] at this
    exact this
  obtain ⟨r, hr⟩ : ∃ r, matchI ask m = r := ⟨_, rfl⟩
  have AM1 := Lib.hid (AM.out r hr)
  have MM1 := Lib.hid (MM.out r hr)
  rw [hr] at ht
  have g0 : ¬ r < 0 := by omega
  have g2 : ¬ 2 < r := by omega
  clear AM MM hr hmet ht
  have hc2 := vcond_tri ask l
  have AC : Hid (0 < p0 → ∀ V, Below W.heap.size W V → Calls Tryz.prog 9 #[.agg #[.int .i64 0, .string ⟨#[]⟩, .bool false, .int .i64 0, .int .i64 0, .int .i64 0, .string ⟨#[]⟩, .slice A0 p0 c0], .slice A2 n2 c2] V fun e w' => e = .returned (.int .i64 (condP ask l)) ∧ Below V.heap.size V w') := by
    intro hp V hV
    have hne : l ≠ [] := by rintro rfl; have := HL.out; simp at this; omega
    have := vask_any (w := V) (a := conA l) (T0.out.keep (Kept.all hV _) (fun _ h _ => h)) zeroM_ok (T2.out.keep (Kept.all hV _) (fun _ h _ => h)) HG.out
    rw [ask_con ask hne] at this
    exact this
  have CC := Lib.hid (fun V (hV : Below W.heap.size W V) => econd_any (w := V) (T0.out.keep (Kept.all hV _) (fun _ h _ => h)) (T2.out.keep (Kept.all hV _) (fun _ h _ => h)) HG.out)
  generalize condP ask l = q at *
  have q0 := hc2.1
  have q2 := hc2.2
  clear hc2
  go_enter Tryz.func4, Tryz.ntmps4
  go_wp2_with fail
  refine S1.out.mono ?_
  rintro e w1 ⟨rfl, hb⟩
  have D1 := Lib.hid (below_step B5.out hb)
  have O1 := Lib.hid (O5.out.below hb O5.out.lt)
  clear hb
  go_wp2_with fail
  refine (F1.out _ D1.out).mono ?_
  rintro e w2 ⟨rfl, hb⟩
  have D2 := Lib.hid (below_step D1.out hb)
  have O2 := Lib.hid (O1.out.below hb O1.out.lt)
  clear hb cM
  have cM := O2.out.c7v
  go_wp2_with fail
  refine (AM1.out _ D2.out).mono ?_
  rintro e w3 ⟨rfl, hb⟩
  have D3 := Lib.hid (below_step D2.out hb)
  have O3 := Lib.hid (O2.out.below hb O2.out.lt)
  clear hb cM
  have cM := O3.out.c7v
  have a3 : Below w3.heap.size w3 (((w3.alloc (.cells #[.int .i64 m.a.cat, .string m.a.name, .bool m.a.must, .int .i64 m.op, .int .i64 m.v.k, .int .i64 m.v.n, .string m.v.s] 42)).alloc (.cells #[.slice (some ⟨w3.heap.size, 0, none⟩) 1 1] 55)).alloc (.cells #[.slice (some ⟨w3.heap.size + 1, 0, none⟩) 1 1] 56)) := (((Below.refl _ _).alloc (Nat.le_refl _) _).alloc (by simp only [size_al]; omega) _).alloc (by simp only [size_al]; omega) _
  have D4 := Lib.hid (below_step D3.out a3)
  have M4 := Lib.hid (MM1.out _ D4.out _ (vtg_lit w3 w3.heap.size rfl m HM.out))
  clear a3
  go_wp2_with fail
  refine M4.out.mono ?_
  rintro e w4 ⟨rfl, hb⟩
  have D5 := Lib.hid (below_step D4.out hb)
  clear hb cM
  by_cases hp : p0 = 0
  · subst hp
    go_wp2_with fail
    refine (vruns_any _).mono ?_
    rintro e w9 ⟨rfl, hb⟩
    have D9 := Lib.hid (below_step D5.out hb)
    clear hb
    go_wp2_with fail
    go_ret
    exact ⟨rfl, D9.out⟩
    
  · have hpi : ((p0 : Int) == 0) = false := by simpa using hp
    have AC1 := Lib.hid (AC.out (by omega))
    go_wp2_with fail
    refine (AC1.out _ D5.out).mono ?_
    rintro e w5 ⟨rfl, hb⟩
    have D6 := Lib.hid (below_step D5.out hb)
    clear hb
    go_wp2_with fail
    refine (CC.out _ D6.out).mono ?_
    rintro e w6 ⟨rfl, hb⟩
    have D7 := Lib.hid (below_step D6.out hb)
    clear hb
    go_wp2_with fail
    refine (vruns_any _).mono ?_
    rintro e w9 ⟨rfl, hb⟩
    have D9 := Lib.hid (below_step D7.out hb)
    clear hb
    go_wp2_with fail
    go_ret
    exact ⟨rfl, D9.out⟩
    
end Go.Proofs.YtadjfkgnoklmiaaGreat
