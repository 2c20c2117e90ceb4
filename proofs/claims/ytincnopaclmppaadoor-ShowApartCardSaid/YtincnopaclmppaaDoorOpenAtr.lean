/- Values and attributes that come in. -/
import Derived.Test.YtincnopaclmppaaDoorOpenRows
namespace Go.Proofs.YtincnopaclmppaaDoor
set_option linter.unusedVariables false
open Go.RowKit Go.ChangeShapes Go.WideShapes

instance : Inhabited Atr := ⟨zeroA⟩
section
variable {H : Type} {enc : TypeId × Value → H} {w : World} {base : Nat} {spare : Nat → Bool} {held : Bool}

theorem open_atr_cells {m : Nat} {cs : List Value} {y : DataW H × List MemPlace} (hwt : Wt Tryd.prog 50 y.1) (h : DataW.trod enc Tryd.prog w base spare held m 50 cs = some y) : ∃ a : Atr, cs = a.cells ∧ a.ok := by
  obtain ⟨m', _, hlen, y0, y1, y2, ⟨q0, q1, q2⟩, g0, g1, g2⟩ := fields3 Tryd.underlying50 hwt h
  obtain ⟨v0, v1, v2, rfl⟩ := len3 (hlen.trans (show Tryd.prog.cellsOf 50 = 3 by kernel_rfl))
  have g0 : DataW.trod enc Tryd.prog w base spare held m' 3 (([v0, v1, v2] : List Value).drop 0 |>.take (Tryd.prog.cellsOf 3)) = some y0 := g0
  rw [show Tryd.prog.cellsOf 3 = 1 by kernel_rfl] at g0
  have g1 : DataW.trod enc Tryd.prog w base spare held m' 9 (([v0, v1, v2] : List Value).drop 1 |>.take (Tryd.prog.cellsOf 9)) = some y1 := g1
  rw [show Tryd.prog.cellsOf 9 = 1 by kernel_rfl] at g1
  have g2 : DataW.trod enc Tryd.prog w base spare held m' 4 (([v0, v1, v2] : List Value).drop 2 |>.take (Tryd.prog.cellsOf 4)) = some y2 := g2
  rw [show Tryd.prog.cellsOf 4 = 1 by kernel_rfl] at g2
  obtain ⟨x0, e0, _, w0⟩ := DataW.trod_int Tryd.underlying3 (show DataW.trod enc Tryd.prog w base spare held m' 3 [v0] = some y0 from g0)
  obtain ⟨x1, e1, _, w1⟩ := DataW.trod_string Tryd.underlying9 (show DataW.trod enc Tryd.prog w base spare held m' 9 [v1] = some y1 from g1)
  obtain ⟨x2, e2, _⟩ := DataW.trod_bool Tryd.underlying4 (show DataW.trod enc Tryd.prog w base spare held m' 4 [v2] = some y2 from g2)
  injection e0 with e0
  injection e1 with e1
  injection e2 with e2
  subst e0 e1 e2
  exact ⟨⟨x0, x1, x2⟩, rfl, wf_bounds w0, w1⟩
theorem open_vl_cells {m : Nat} {cs : List Value} {y : DataW H × List MemPlace} (hwt : Wt Tryd.prog 52 y.1) (h : DataW.trod enc Tryd.prog w base spare held m 52 cs = some y) : ∃ a : Vl, cs = a.cells ∧ a.ok := by
  obtain ⟨m', _, hlen, y0, y1, y2, ⟨q0, q1, q2⟩, g0, g1, g2⟩ := fields3 Tryd.underlying52 hwt h
  obtain ⟨v0, v1, v2, rfl⟩ := len3 (hlen.trans (show Tryd.prog.cellsOf 52 = 3 by kernel_rfl))
  have g0 : DataW.trod enc Tryd.prog w base spare held m' 3 (([v0, v1, v2] : List Value).drop 0 |>.take (Tryd.prog.cellsOf 3)) = some y0 := g0
  rw [show Tryd.prog.cellsOf 3 = 1 by kernel_rfl] at g0
  have g1 : DataW.trod enc Tryd.prog w base spare held m' 3 (([v0, v1, v2] : List Value).drop 1 |>.take (Tryd.prog.cellsOf 3)) = some y1 := g1
  rw [show Tryd.prog.cellsOf 3 = 1 by kernel_rfl] at g1
  have g2 : DataW.trod enc Tryd.prog w base spare held m' 9 (([v0, v1, v2] : List Value).drop 2 |>.take (Tryd.prog.cellsOf 9)) = some y2 := g2
  rw [show Tryd.prog.cellsOf 9 = 1 by kernel_rfl] at g2
  obtain ⟨x0, e0, _, w0⟩ := DataW.trod_int Tryd.underlying3 (show DataW.trod enc Tryd.prog w base spare held m' 3 [v0] = some y0 from g0)
  obtain ⟨x1, e1, _, w1⟩ := DataW.trod_int Tryd.underlying3 (show DataW.trod enc Tryd.prog w base spare held m' 3 [v1] = some y1 from g1)
  obtain ⟨x2, e2, _, w2⟩ := DataW.trod_string Tryd.underlying9 (show DataW.trod enc Tryd.prog w base spare held m' 9 [v2] = some y2 from g2)
  injection e0 with e0
  injection e1 with e1
  injection e2 with e2
  subst e0 e1 e2
  exact ⟨⟨x0, x1, x2⟩, rfl, wf_bounds w0, wf_bounds w1, w2⟩
set_option maxRecDepth 100000 in
theorem open_atr {r : Reach} {b0 : Nat} {v : Value} {d : DataW H} {p : List MemPlace} (hv : Value.okWide Tryd.prog w r b0 50 v) (hwt : Wt Tryd.prog 50 d) (h : DataW.Trod enc Tryd.prog w base spare held 50 v d p) : ∃ a : Atr, v = .agg #[.int .i64 a.cat, .string a.name, .bool a.must] ∧ a.ok := by
  obtain ⟨cs, m, rfl, hm⟩ := open_struct Tryd.underlying50 hv h
  obtain ⟨a, rfl, hok⟩ := open_atr_cells hwt hm
  exact ⟨a, rfl, hok⟩
end
end Go.Proofs.YtincnopaclmppaaDoor
