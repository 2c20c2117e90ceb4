/- Right, Rules (the project's), over any policy. -/
import Derived.Test.YtjpkemamfccfdaaGreatDoorPolSucc
namespace Go.Proofs.YtjpkemamfccfdaaGreatDoor
set_option linter.unusedVariables false
open Go.RowKit Go.Sort

theorem pol_four : PolOk 4 := pol_succ (pol_succ (pol_succ (pol_succ pol_zero (by omega)) (by omega)) (by omega)) (by omega)

theorem walk_ret2 {fn : Func} {p u : Tmp} {tmps : Array Value} {w : World} {g : Nat} {a b v : Value} (h : fn.results = #[.cell p 82, .tmp u]) (hp : tmps.getD p undef = .pointer (some ⟨g, 0, none⟩)) (hu : tmps.getD u undef = v) (hg : Ob w g 82 #[a, b]) :
    (results fn tmps).run Tryz.prog w = .ok (.tuple #[.agg #[a, b], v]) w := by
  rw [results_cell_tmp h, hp, hu]
  have hl := run_loadVar_row (P := Tryz.prog) w g 82 _ _ (0, 0) _ hg Tryz.underlying82 rfl (by kernel_rfl)
  simp [asAddr, hl, Result.andThen]

/-- A policy's cells, all there. -/
def PolIn (w : World) (R : Nat → Prop) (p : Pol) (A1 : Option Addr) (n1 k1 : Nat) (A2 : Option Addr) (n2 k2 : Nat) (A3 : Option Addr) (n3 k3 : Nat) (A4 : Option Addr) (n4 k4 : Nat) : Prop :=
  (p.id.size ≤ maxLen ∧ InI p.alg) ∧ Tg w R A1 n1 k1 p.tg ∧ Rus w R A2 n2 k2 p.rules ∧ (∃ m, Pls w R m A3 n3 k3 p.kids) ∧ Dus w R A4 n4 k4 p.ob
section
variable {w w' : World} {R R' : Nat → Prop} {p : Pol} {A1 A2 A3 A4 : Option Addr} {n1 k1 n2 k2 n3 k3 n4 k4 : Nat}
theorem PolIn.keep (h : PolIn w R p A1 n1 k1 A2 n2 k2 A3 n3 k3 A4 n4 k4) (hk : Kept R w w') (hR : ∀ b, R b → b < w.heap.size → R' b) : PolIn w' R' p A1 n1 k1 A2 n2 k2 A3 n3 k3 A4 n4 k4 := by
  obtain ⟨h0, h1, h2, ⟨m, h3⟩, h4⟩ := h
  exact ⟨h0, h1.keep hk hR, h2.keep hk hR, ⟨m, h3.keep hk hR⟩, h4.keep hk hR⟩
theorem PolIn.low (h : PolIn w R p A1 n1 k1 A2 n2 k2 A3 n3 k3 A4 n4 k4) : PolIn w (fun b => b < w.heap.size) p A1 n1 k1 A2 n2 k2 A3 n3 k3 A4 n4 k4 := h.keep (Kept.refl _ _) fun _ _ h => h
theorem PolIn.then_ (h : PolIn w R p A1 n1 k1 A2 n2 k2 A3 n3 k3 A4 n4 k4) (hb : Below w.heap.size w w') : PolIn w' R p A1 n1 k1 A2 n2 k2 A3 n3 k3 A4 n4 k4 := h.keep (Kept.all hb R) fun _ h _ => h

set_option maxRecDepth 100000 in
set_option maxHeartbeats 1600000 in
theorem through_any (h : PolIn w R p A1 n1 k1 A2 n2 k2 A3 n3 k3 A4 n4 k4) :
    Calls Tryz.prog 41 #[.agg #[.string p.id, .bool p.set, .int .i64 p.alg, .slice A1 n1 k1, .slice A2 n2 k2, .slice A3 n3 k3, .slice A4 n4 k4]] w
      fun e w' => ∃ (B n : Nat), e = .returned (.tuple #[.agg #[.map (some B), .int .i64 n], .int .i64 (rightE p)]) ∧ (rightE p = 0 → n = rulesN p) ∧ Below w.heap.size w w' := by
  have hmm := @run_makeMap Tryz.prog
  have h' := h.low
  have HP := Lib.hid h'
  obtain ⟨⟨hid, halg⟩, _⟩ := h
  have HID := Lib.hid hid
  clear h' hid halg
  have W0 : Hid (Wk ((((w.alloc (.cells #[.string p.id, .bool p.set, .int .i64 p.alg, .slice A1 n1 k1, .slice A2 n2 k2, .slice A3 n3 k3, .slice A4 n4 k4] 28)).alloc (.cells #[.map none, .int .i64 0] 82)).alloc (.map #[] 0)).alloc (.cells #[.map (some (w.heap.size + 1 + 1)), .int .i64 0] 82)) (w.heap.size + 1 + 1 + 1) (w.heap.size + 1 + 1) ⟨[], 0⟩) := by
    refine ⟨?_, ?_, by omega, Nat.le_refl _⟩
    · have := Ob.made (((w.alloc (.cells #[.string p.id, .bool p.set, .int .i64 p.alg, .slice A1 n1 k1, .slice A2 n2 k2, .slice A3 n3 k3, .slice A4 n4 k4] 28)).alloc (.cells #[.map none, .int .i64 0] 82)).alloc (.map #[] 0)) 82 #[.map (some (w.heap.size + 1 + 1)), .int .i64 0]
      rwa [size_al, size_al, size_al] at this
    · have := (MapIs.made ((w.alloc (.cells #[.string p.id, .bool p.set, .int .i64 p.alg, .slice A1 n1 k1, .slice A2 n2 k2, .slice A3 n3 k3, .slice A4 n4 k4] 28)).alloc (.cells #[.map none, .int .i64 0] 82))).below ((Below.refl _ (((w.alloc (.cells #[.string p.id, .bool p.set, .int .i64 p.alg, .slice A1 n1 k1, .slice A2 n2 k2, .slice A3 n3 k3, .slice A4 n4 k4] 28)).alloc (.cells #[.map none, .int .i64 0] 82)).alloc (.map #[] 0))).alloc (Nat.le_refl _) (.cells #[.map (some (w.heap.size + 1 + 1)), .int .i64 0] 82))
      rwa [size_al, size_al] at this
  have R0 : Hid (Ob ((((w.alloc (.cells #[.string p.id, .bool p.set, .int .i64 p.alg, .slice A1 n1 k1, .slice A2 n2 k2, .slice A3 n3 k3, .slice A4 n4 k4] 28)).alloc (.cells #[.map none, .int .i64 0] 82)).alloc (.map #[] 0)).alloc (.cells #[.map (some (w.heap.size + 1 + 1)), .int .i64 0] 82)) (w.heap.size + 1) 82 #[.map none, .int .i64 0]) := by
    have h0 := Ob.made (w.alloc (.cells #[.string p.id, .bool p.set, .int .i64 p.alg, .slice A1 n1 k1, .slice A2 n2 k2, .slice A3 n3 k3, .slice A4 n4 k4] 28)) 82 #[.map none, .int .i64 0]
    rw [size_al] at h0
    have h1 := h0.keep (Below.heap_alloc ((w.alloc (.cells #[.string p.id, .bool p.set, .int .i64 p.alg, .slice A1 n1 k1, .slice A2 n2 k2, .slice A3 n3 k3, .slice A4 n4 k4] 28)).alloc (.cells #[.map none, .int .i64 0] 82)) (.map #[] 0) _ (by simp))
    exact h1.keep (Below.heap_alloc _ _ _ (by first | (simp; done) | (simp; omega)))
  have D0 : Hid (Below w.heap.size w ((((w.alloc (.cells #[.string p.id, .bool p.set, .int .i64 p.alg, .slice A1 n1 k1, .slice A2 n2 k2, .slice A3 n3 k3, .slice A4 n4 k4] 28)).alloc (.cells #[.map none, .int .i64 0] 82)).alloc (.map #[] 0)).alloc (.cells #[.map (some (w.heap.size + 1 + 1)), .int .i64 0] 82))) := ((((Below.refl _ w).alloc (Nat.le_refl _) _).alloc (by simp) _).alloc (by first | (simp; done) | (simp; omega)) _).alloc (by first | (simp; done) | (simp; omega)) _
  have HIN := Lib.hid (HP.out.keep (Kept.below D0.out (R := fun b => b < w.heap.size) (fun _ h _ => h)) (fun _ h _ => h))
  have HC : Hid (Calls Tryz.prog 60 #[.pointer (some ⟨w.heap.size + 1 + 1 + 1, 0, none⟩), .agg #[.string p.id, .bool p.set, .int .i64 p.alg, .slice A1 n1 k1, .slice A2 n2 k2, .slice A3 n3 k3, .slice A4 n4 k4], .int .i64 1] ((((w.alloc (.cells #[.string p.id, .bool p.set, .int .i64 p.alg, .slice A1 n1 k1, .slice A2 n2 k2, .slice A3 n3 k3, .slice A4 n4 k4] 28)).alloc (.cells #[.map none, .int .i64 0] 82)).alloc (.map #[] 0)).alloc (.cells #[.map (some (w.heap.size + 1 + 1)), .int .i64 0] 82))
      fun e w' => e = .returned (.int .i64 (polS 4 p ⟨[], 0⟩).1) ∧ Only2 (w.heap.size + 1 + 1 + 1) (w.heap.size + 1 + 1) ((((w.alloc (.cells #[.string p.id, .bool p.set, .int .i64 p.alg, .slice A1 n1 k1, .slice A2 n2 k2, .slice A3 n3 k3, .slice A4 n4 k4] 28)).alloc (.cells #[.map none, .int .i64 0] 82)).alloc (.map #[] 0)).alloc (.cells #[.map (some (w.heap.size + 1 + 1)), .int .i64 0] 82)) w' ∧ WkE w' (w.heap.size + 1 + 1 + 1) (w.heap.size + 1 + 1) (polS 4 p ⟨[], 0⟩)) := by
    obtain ⟨h0, h1, h2, ⟨m, h3⟩, h4⟩ := HIN.out
    exact pol_four W0.out (by simp [idsB]) (fun b hb => ⟨by omega, by omega⟩) h0.1 h1 h2 h3 h4
  have HE : Hid (rightE p = (polS 4 p ⟨[], 0⟩).1 ∧ rulesN p = (polS 4 p ⟨[], 0⟩).2.n) := ⟨rfl, rfl⟩
  generalize polS 4 p ⟨[], 0⟩ = z at *
  go_enter Tryz.func41, Tryz.ntmps41
  go_wp2_with (first
    | (go_at_call 60; refine HC.out.mono ?_; rintro e w1 ⟨rfl, hb1, s', hs', hz'⟩; have S1 := Lib.hid hs'; have O1 := hs'.ob; have Z1 := Lib.hid hz'; have D1 := Lib.hid (D0.out.trans (hb1.below D0.out.size (by omega) (by omega))); have c0 := O1.cell 0; have c1 := O1.cell 1; have R1 := Lib.hid (R0.out.keep (hb1.heap R0.out.lt (by omega) (by omega))); have d0 := R1.out.cell 0; have d1 := R1.out.cell 1; have f0 := R1.out.frozen 0; have f1 := R1.out.frozen 1; clear hb1 hs' hz' O1))
  try simp only [Exit.inBlock, Exit.then]
  refine bodyPost_ret (walk_ret2 (a := .map (some (w.heap.size + 1 + 1))) (b := .int .i64 (s'.n : Int)) rfl rfl rfl (by simpa using (R1.out.put 0 (.map (some (w.heap.size + 1 + 1)))).put 1 (.int .i64 (s'.n : Int)))) rfl ?_
  refine ⟨w.heap.size + 1 + 1, s'.n, by rw [HE.out.1]; rfl, fun h => ?_, (D1.out.setCell (p := ⟨w.heap.size + 1, 0, none⟩) (by simp) _).setCell (p := ⟨w.heap.size + 1, 1, none⟩) (by simp) _⟩
  rw [Z1.out (by rw [← HE.out.1]; exact h), HE.out.2]

theorem right_pol (h : PolIn w R p A1 n1 k1 A2 n2 k2 A3 n3 k3 A4 n4 k4) :
    Calls Tryz.prog 23 #[.agg #[.string p.id, .bool p.set, .int .i64 p.alg, .slice A1 n1 k1, .slice A2 n2 k2, .slice A3 n3 k3, .slice A4 n4 k4]] w
      fun e w' => e = .returned (.int .i64 (rightE p)) ∧ Below w.heap.size w w' := by
  have HC := Lib.hid (through_any (h.then_ ((Below.refl _ w).alloc (Nat.le_refl _) (.cells #[.string p.id, .bool p.set, .int .i64 p.alg, .slice A1 n1 k1, .slice A2 n2 k2, .slice A3 n3 k3, .slice A4 n4 k4] 28))))
  clear h
  generalize rightE p = r at *
  go_enter Tryz.func23, Tryz.ntmps23
  go_wp2_with (first
    | (go_at_call 41; refine HC.out.mono ?_; rintro e w1 ⟨B, n, rfl, hn, hb1⟩; have D1 := Lib.hid (Below.lit hb1); clear hb1 hn))
  go_ret
  exact ⟨rfl, D1.out.alloc D1.out.size _⟩
end
end Go.Proofs.YtjpkemamfccfdaaGreatDoor
