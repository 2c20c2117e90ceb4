/- Several texts in one: OpenPol. -/
import Derived.Test.YtadjfkgnoklmiaaVrpA
import Derived.Test.YtadjfkgnoklmiaaVrpF
import Derived.Deep.Slices
import Derived.Deep.Fields
import Derived.Lib.SmallJoins
import Derived.ProofKit
import Derived.OpenShut
import Derived.SizedLaws
/- Policies, and what they are of, that come in. -/
namespace Go.Proofs.Ytadjfkgnoklmiaa
set_option linter.unusedVariables false
open Go.RowKit Go.ChangeShapes Go.WideShapes

instance : Inhabited Mat := ⟨⟨zeroA, 0, zeroV⟩⟩
instance : Inhabited Nod := ⟨⟨0, zeroV, zeroA⟩⟩
instance : Inhabited Dut := ⟨⟨0, 0, ByteArray.empty⟩⟩
instance : Inhabited Rul := ⟨⟨ByteArray.empty, false, [], [], []⟩⟩
instance : Inhabited Pol := ⟨.mk ByteArray.empty false 0 [] [] [] []⟩

section
variable {H : Type} {enc : TypeId × Value → H} {w : World} {base : Nat} {spare : Nat → Bool} {held : Bool}

theorem bytes_dut : Try.prog.bytesOf 105 = 32 := by kernel_rfl
theorem bytes_nod : Try.prog.bytesOf 41 = 72 := by kernel_rfl
theorem bytes_mat : Try.prog.bytesOf 39 = 72 := by kernel_rfl
theorem bytes_s1 : Try.prog.bytesOf 81 = 24 := by kernel_rfl
theorem bytes_s2 : Try.prog.bytesOf 80 = 24 := by kernel_rfl
theorem bytes_rul : Try.prog.bytesOf 51 = 96 := by kernel_rfl
theorem bytes_pol : Try.prog.bytesOf 32 = 128 := by kernel_rfl
theorem open_dut_cells {m : Nat} {cs : List Value} {y : DataW H × List MemPlace} (hwt : Wt Try.prog 105 y.1) (h : DataW.trod enc Try.prog w base spare held m 105 cs = some y) : ∃ a : Dut, cs = a.cells ∧ a.ok := by
  obtain ⟨m', _, hlen, y0, y1, y2, ⟨q0, q1, q2⟩, g0, g1, g2⟩ := fields3 Try.underlying105 hwt h
  obtain ⟨v0, v1, v2, rfl⟩ := len3 (hlen.trans (show Try.prog.cellsOf 105 = 3 by kernel_rfl))
  have g0 : DataW.trod enc Try.prog w base spare held m' 3 (([v0, v1, v2] : List Value).drop 0 |>.take (Try.prog.cellsOf 3)) = some y0 := g0
  rw [show Try.prog.cellsOf 3 = 1 by kernel_rfl] at g0
  have g1 : DataW.trod enc Try.prog w base spare held m' 3 (([v0, v1, v2] : List Value).drop 1 |>.take (Try.prog.cellsOf 3)) = some y1 := g1
  rw [show Try.prog.cellsOf 3 = 1 by kernel_rfl] at g1
  have g2 : DataW.trod enc Try.prog w base spare held m' 9 (([v0, v1, v2] : List Value).drop 2 |>.take (Try.prog.cellsOf 9)) = some y2 := g2
  rw [show Try.prog.cellsOf 9 = 1 by kernel_rfl] at g2
  obtain ⟨x0, e0, _, w0⟩ := DataW.trod_int Try.underlying3 (show DataW.trod enc Try.prog w base spare held m' 3 [v0] = some y0 from g0)
  obtain ⟨x1, e1, _, w1⟩ := DataW.trod_int Try.underlying3 (show DataW.trod enc Try.prog w base spare held m' 3 [v1] = some y1 from g1)
  obtain ⟨x2, e2, _, w2⟩ := DataW.trod_string Try.underlying9 (show DataW.trod enc Try.prog w base spare held m' 9 [v2] = some y2 from g2)
  injection e0 with e0
  injection e1 with e1
  injection e2 with e2
  subst e0 e1 e2
  exact ⟨⟨x0, x1, x2⟩, rfl, wf_bounds w0, wf_bounds w1, w2⟩
theorem open_mat_cells {m : Nat} {cs : List Value} {y : DataW H × List MemPlace} (hwt : Wt Try.prog 39 y.1) (h : DataW.trod enc Try.prog w base spare held m 39 cs = some y) : ∃ a : Mat, cs = a.cells ∧ a.ok := by
  obtain ⟨m', _, hlen, y0, y1, y2, ⟨q0, q1, q2⟩, g0, g1, g2⟩ := fields3 Try.underlying39 hwt h
  obtain ⟨v0, v1, v2, v3, v4, v5, v6, rfl⟩ := len7 (hlen.trans (show Try.prog.cellsOf 39 = 7 by kernel_rfl))
  have g0 : DataW.trod enc Try.prog w base spare held m' 35 (([v0, v1, v2, v3, v4, v5, v6] : List Value).drop 0 |>.take (Try.prog.cellsOf 35)) = some y0 := g0
  rw [show Try.prog.cellsOf 35 = 3 by kernel_rfl] at g0
  obtain ⟨x0, e0, w0⟩ := open_atr_cells q0 (show DataW.trod enc Try.prog w base spare held m' 35 [v0, v1, v2] = some y0 from g0)
  simp [Atr.cells] at e0
  have g1 : DataW.trod enc Try.prog w base spare held m' 3 (([v0, v1, v2, v3, v4, v5, v6] : List Value).drop 3 |>.take (Try.prog.cellsOf 3)) = some y1 := g1
  rw [show Try.prog.cellsOf 3 = 1 by kernel_rfl] at g1
  obtain ⟨x1, e1, _, w1⟩ := DataW.trod_int Try.underlying3 (show DataW.trod enc Try.prog w base spare held m' 3 [v3] = some y1 from g1)
  injection e1 with e1
  have g2 : DataW.trod enc Try.prog w base spare held m' 37 (([v0, v1, v2, v3, v4, v5, v6] : List Value).drop 4 |>.take (Try.prog.cellsOf 37)) = some y2 := g2
  rw [show Try.prog.cellsOf 37 = 3 by kernel_rfl] at g2
  obtain ⟨x2, e2, w2⟩ := open_vl_cells q2 (show DataW.trod enc Try.prog w base spare held m' 37 [v4, v5, v6] = some y2 from g2)
  simp [Vl.cells] at e2
  obtain ⟨rfl, rfl, rfl⟩ := e0
  subst e1
  obtain ⟨rfl, rfl, rfl⟩ := e2
  exact ⟨⟨x0, x1, x2⟩, rfl, w0, wf_bounds w1, w2⟩
theorem open_nod_cells {m : Nat} {cs : List Value} {y : DataW H × List MemPlace} (hwt : Wt Try.prog 41 y.1) (h : DataW.trod enc Try.prog w base spare held m 41 cs = some y) : ∃ a : Nod, cs = a.cells ∧ a.ok := by
  obtain ⟨m', _, hlen, y0, y1, y2, ⟨q0, q1, q2⟩, g0, g1, g2⟩ := fields3 Try.underlying41 hwt h
  obtain ⟨v0, v1, v2, v3, v4, v5, v6, rfl⟩ := len7 (hlen.trans (show Try.prog.cellsOf 41 = 7 by kernel_rfl))
  have g0 : DataW.trod enc Try.prog w base spare held m' 3 (([v0, v1, v2, v3, v4, v5, v6] : List Value).drop 0 |>.take (Try.prog.cellsOf 3)) = some y0 := g0
  rw [show Try.prog.cellsOf 3 = 1 by kernel_rfl] at g0
  obtain ⟨x0, e0, _, w0⟩ := DataW.trod_int Try.underlying3 (show DataW.trod enc Try.prog w base spare held m' 3 [v0] = some y0 from g0)
  injection e0 with e0
  have g1 : DataW.trod enc Try.prog w base spare held m' 37 (([v0, v1, v2, v3, v4, v5, v6] : List Value).drop 1 |>.take (Try.prog.cellsOf 37)) = some y1 := g1
  rw [show Try.prog.cellsOf 37 = 3 by kernel_rfl] at g1
  obtain ⟨x1, e1, w1⟩ := open_vl_cells q1 (show DataW.trod enc Try.prog w base spare held m' 37 [v1, v2, v3] = some y1 from g1)
  simp [Vl.cells] at e1
  have g2 : DataW.trod enc Try.prog w base spare held m' 35 (([v0, v1, v2, v3, v4, v5, v6] : List Value).drop 4 |>.take (Try.prog.cellsOf 35)) = some y2 := g2
  rw [show Try.prog.cellsOf 35 = 3 by kernel_rfl] at g2
  obtain ⟨x2, e2, w2⟩ := open_atr_cells q2 (show DataW.trod enc Try.prog w base spare held m' 35 [v4, v5, v6] = some y2 from g2)
  simp [Atr.cells] at e2
  subst e0
  obtain ⟨rfl, rfl, rfl⟩ := e1
  obtain ⟨rfl, rfl, rfl⟩ := e2
  exact ⟨⟨x0, x1, x2⟩, rfl, wf_bounds w0, w1, w2⟩

theorem open_duts_f {m n c : Nat} {A : Option Addr} {x : DataW H × List MemPlace} (hwt : Wt Try.prog 30 x.1) (h : DataW.trod enc Try.prog w base spare held m 30 [.slice A n c] = some x) : ∃ l, Dus w (fun _ => True) A n c l :=
  open_rows Try.underlying30 (by kernel_rfl) (by omega) (by rw [bytes_dut]; omega) (fun m cs y _ _ q h => open_dut_cells q h) hwt h
theorem open_nods_f {m n c : Nat} {A : Option Addr} {x : DataW H × List MemPlace} (hwt : Wt Try.prog 42 x.1) (h : DataW.trod enc Try.prog w base spare held m 42 [.slice A n c] = some x) : ∃ l, Nds w (fun _ => True) A n c l :=
  open_rows Try.underlying42 (by kernel_rfl) (by omega) (by rw [bytes_nod]; omega) (fun m cs y _ _ q h => open_nod_cells q h) hwt h
theorem open_mats_f {m n c : Nat} {A : Option Addr} {x : DataW H × List MemPlace} (hwt : Wt Try.prog 81 x.1) (h : DataW.trod enc Try.prog w base spare held m 81 [.slice A n c] = some x) : ∃ l, Ms w (fun _ => True) A n c l :=
  open_rows Try.underlying81 (by kernel_rfl) (by omega) (by rw [bytes_mat]; omega) (fun m cs y _ _ q h => open_mat_cells q h) hwt h
theorem open_alls_f {m n c : Nat} {A : Option Addr} {x : DataW H × List MemPlace} (hwt : Wt Try.prog 80 x.1) (h : DataW.trod enc Try.prog w base spare held m 80 [.slice A n c] = some x) : ∃ l, Als w (fun _ => True) A n c l :=
  open_rows Try.underlying80 (by kernel_rfl) (by omega) (by rw [bytes_s1]; omega) (fun m cs y _ hl q h => by
    match cs, hl with
    | [v], _ =>
      obtain ⟨A', n', c', rfl⟩ := slice_cells Try.underlying81 h
      obtain ⟨l, hl⟩ := open_mats_f q h
      exact ⟨l, A', n', c', rfl, hl⟩) hwt h
theorem open_anys_f {m n c : Nat} {A : Option Addr} {x : DataW H × List MemPlace} (hwt : Wt Try.prog 27 x.1) (h : DataW.trod enc Try.prog w base spare held m 27 [.slice A n c] = some x) : ∃ l, Tg w (fun _ => True) A n c l :=
  open_rows Try.underlying27 (by kernel_rfl) (by omega) (by rw [bytes_s2]; omega) (fun m cs y _ hl q h => by
    match cs, hl with
    | [v], _ =>
      obtain ⟨A', n', c', rfl⟩ := slice_cells Try.underlying80 h
      obtain ⟨l, hl⟩ := open_alls_f q h
      exact ⟨l, A', n', c', rfl, hl⟩) hwt h
theorem open_rul_cells {m : Nat} {cs : List Value} {y : DataW H × List MemPlace} (hwt : Wt Try.prog 51 y.1) (h : DataW.trod enc Try.prog w base spare held m 51 cs = some y) : ∃ r : Rul, RulAt w (fun _ => True) cs r := by
  obtain ⟨m', _, hlen, y0, y1, y2, y3, y4, ⟨q0, q1, q2, q3, q4⟩, g0, g1, g2, g3, g4⟩ := fields5 Try.underlying51 hwt h
  obtain ⟨v0, v1, v2, v3, v4, rfl⟩ := len5 (hlen.trans (show Try.prog.cellsOf 51 = 5 by kernel_rfl))
  have g0 : DataW.trod enc Try.prog w base spare held m' 9 (([v0, v1, v2, v3, v4] : List Value).drop 0 |>.take (Try.prog.cellsOf 9)) = some y0 := g0
  have g1 : DataW.trod enc Try.prog w base spare held m' 4 (([v0, v1, v2, v3, v4] : List Value).drop 1 |>.take (Try.prog.cellsOf 4)) = some y1 := g1
  have g2 : DataW.trod enc Try.prog w base spare held m' 27 (([v0, v1, v2, v3, v4] : List Value).drop 2 |>.take (Try.prog.cellsOf 27)) = some y2 := g2
  have g3 : DataW.trod enc Try.prog w base spare held m' 42 (([v0, v1, v2, v3, v4] : List Value).drop 3 |>.take (Try.prog.cellsOf 42)) = some y3 := g3
  have g4 : DataW.trod enc Try.prog w base spare held m' 30 (([v0, v1, v2, v3, v4] : List Value).drop 4 |>.take (Try.prog.cellsOf 30)) = some y4 := g4
  rw [show Try.prog.cellsOf 9 = 1 by kernel_rfl] at g0
  rw [show Try.prog.cellsOf 4 = 1 by kernel_rfl] at g1
  rw [show Try.prog.cellsOf 27 = 1 by kernel_rfl] at g2
  rw [show Try.prog.cellsOf 42 = 1 by kernel_rfl] at g3
  rw [show Try.prog.cellsOf 30 = 1 by kernel_rfl] at g4
  have g2 : DataW.trod enc Try.prog w base spare held m' 27 [v2] = some y2 := g2
  have g3 : DataW.trod enc Try.prog w base spare held m' 42 [v3] = some y3 := g3
  have g4 : DataW.trod enc Try.prog w base spare held m' 30 [v4] = some y4 := g4
  obtain ⟨x0, e0, _, w0⟩ := DataW.trod_string Try.underlying9 (show DataW.trod enc Try.prog w base spare held m' 9 [v0] = some y0 from g0)
  obtain ⟨x1, e1, _⟩ := DataW.trod_bool Try.underlying4 (show DataW.trod enc Try.prog w base spare held m' 4 [v1] = some y1 from g1)
  injection e0 with e0
  injection e1 with e1
  subst e0 e1
  obtain ⟨A2, n2, c2, rfl⟩ := slice_cells Try.underlying27 g2
  obtain ⟨A3, n3, c3, rfl⟩ := slice_cells Try.underlying42 g3
  obtain ⟨A4, n4, c4, rfl⟩ := slice_cells Try.underlying30 g4
  obtain ⟨l2, h2⟩ := open_anys_f q2 g2
  obtain ⟨l3, h3⟩ := open_nods_f q3 g3
  obtain ⟨l4, h4⟩ := open_duts_f q4 g4
  exact ⟨⟨x0, x1, l2, l3, l4⟩, A2, n2, c2, A3, n3, c3, A4, n4, c4, rfl, w0, h2, h3, h4⟩
theorem open_ruls_f {m n c : Nat} {A : Option Addr} {x : DataW H × List MemPlace} (hwt : Wt Try.prog 28 x.1) (h : DataW.trod enc Try.prog w base spare held m 28 [.slice A n c] = some x) : ∃ l, Rus w (fun _ => True) A n c l :=
  open_rows Try.underlying28 (by kernel_rfl) (by omega) (by rw [bytes_rul]; omega) (fun m cs y _ _ q h => open_rul_cells q h) hwt h
theorem open_pol_cells : ∀ {m : Nat} {cs : List Value} {y : DataW H × List MemPlace}, Wt Try.prog 32 y.1 → DataW.trod enc Try.prog w base spare held m 32 cs = some y → ∃ p : Pol, PolAt w (fun _ => True) m cs p := by
  intro m
  induction m using Nat.strongRecOn with
  | ind m ih =>
  intro cs y hwt h
  obtain ⟨m', hm, hlen, y0, y1, y2, y3, y4, y5, y6, ⟨q0, q1, q2, q3, q4, q5, q6⟩, g0, g1, g2, g3, g4, g5, g6⟩ := fields7 Try.underlying32 hwt h
  obtain ⟨v0, v1, v2, v3, v4, v5, v6, rfl⟩ := len7 (hlen.trans (show Try.prog.cellsOf 32 = 7 by kernel_rfl))
  have g0 : DataW.trod enc Try.prog w base spare held m' 9 (([v0, v1, v2, v3, v4, v5, v6] : List Value).drop 0 |>.take (Try.prog.cellsOf 9)) = some y0 := g0
  rw [show Try.prog.cellsOf 9 = 1 by kernel_rfl] at g0
  have g0 : DataW.trod enc Try.prog w base spare held m' 9 [v0] = some y0 := g0
  have g1 : DataW.trod enc Try.prog w base spare held m' 4 (([v0, v1, v2, v3, v4, v5, v6] : List Value).drop 1 |>.take (Try.prog.cellsOf 4)) = some y1 := g1
  rw [show Try.prog.cellsOf 4 = 1 by kernel_rfl] at g1
  have g1 : DataW.trod enc Try.prog w base spare held m' 4 [v1] = some y1 := g1
  have g2 : DataW.trod enc Try.prog w base spare held m' 3 (([v0, v1, v2, v3, v4, v5, v6] : List Value).drop 2 |>.take (Try.prog.cellsOf 3)) = some y2 := g2
  rw [show Try.prog.cellsOf 3 = 1 by kernel_rfl] at g2
  have g2 : DataW.trod enc Try.prog w base spare held m' 3 [v2] = some y2 := g2
  have g3 : DataW.trod enc Try.prog w base spare held m' 27 (([v0, v1, v2, v3, v4, v5, v6] : List Value).drop 3 |>.take (Try.prog.cellsOf 27)) = some y3 := g3
  rw [show Try.prog.cellsOf 27 = 1 by kernel_rfl] at g3
  have g3 : DataW.trod enc Try.prog w base spare held m' 27 [v3] = some y3 := g3
  have g4 : DataW.trod enc Try.prog w base spare held m' 28 (([v0, v1, v2, v3, v4, v5, v6] : List Value).drop 4 |>.take (Try.prog.cellsOf 28)) = some y4 := g4
  rw [show Try.prog.cellsOf 28 = 1 by kernel_rfl] at g4
  have g4 : DataW.trod enc Try.prog w base spare held m' 28 [v4] = some y4 := g4
  have g5 : DataW.trod enc Try.prog w base spare held m' 29 (([v0, v1, v2, v3, v4, v5, v6] : List Value).drop 5 |>.take (Try.prog.cellsOf 29)) = some y5 := g5
  rw [show Try.prog.cellsOf 29 = 1 by kernel_rfl] at g5
  have g5 : DataW.trod enc Try.prog w base spare held m' 29 [v5] = some y5 := g5
  have g6 : DataW.trod enc Try.prog w base spare held m' 30 (([v0, v1, v2, v3, v4, v5, v6] : List Value).drop 6 |>.take (Try.prog.cellsOf 30)) = some y6 := g6
  rw [show Try.prog.cellsOf 30 = 1 by kernel_rfl] at g6
  have g6 : DataW.trod enc Try.prog w base spare held m' 30 [v6] = some y6 := g6
  obtain ⟨x0, e0, _, w0⟩ := DataW.trod_string Try.underlying9 g0
  obtain ⟨x1, e1, _⟩ := DataW.trod_bool Try.underlying4 g1
  obtain ⟨x2, e2, _, w2⟩ := DataW.trod_int Try.underlying3 g2
  injection e0 with e0
  injection e1 with e1
  injection e2 with e2
  subst e0 e1 e2
  obtain ⟨A3, n3, c3, rfl⟩ := slice_cells Try.underlying27 g3
  obtain ⟨A4, n4, c4, rfl⟩ := slice_cells Try.underlying28 g4
  obtain ⟨A5, n5, c5, rfl⟩ := slice_cells Try.underlying29 g5
  obtain ⟨A6, n6, c6, rfl⟩ := slice_cells Try.underlying30 g6
  obtain ⟨l3, h3⟩ := open_anys_f q3 g3
  obtain ⟨l4, h4⟩ := open_ruls_f q4 g4
  obtain ⟨l6, h6⟩ := open_duts_f q6 g6
  have hk : ∃ l, Rw 7 (PolAt w (fun _ => True) m') w (fun _ => True) A5 n5 c5 l :=
    open_rows Try.underlying29 (by kernel_rfl) (by omega) (by rw [bytes_pol]; omega) (fun q cs y hq _ hw h => by
      obtain ⟨p, hp⟩ := ih q (by omega) hw h
      exact ⟨p, PolAt.more (by omega) hp⟩) q5 g5
  obtain ⟨l5, h5⟩ := hk
  subst hm
  exact ⟨.mk x0 x1 x2 l3 l4 l5 l6, A3, n3, c3, A4, n4, c4, A5, n5, c5, A6, n6, c6, rfl, w0, wf_bounds w2, h3, h4, h5, h6⟩

set_option maxRecDepth 100000 in
theorem open_pol {r : Reach} {b0 : Nat} {v : Value} {d : DataW H} {p : List MemPlace} (hv : Value.okWide Try.prog w r b0 32 v) (hwt : Wt Try.prog 32 d) (h : DataW.Trod enc Try.prog w base spare held 32 v d p) :
    ∃ (P : Pol) (A1 : Option Addr) (n1 k1 : Nat) (A2 : Option Addr) (n2 k2 : Nat) (A3 : Option Addr) (n3 k3 : Nat) (A4 : Option Addr) (n4 k4 : Nat), v = .agg #[.string P.id, .bool P.set, .int .i64 P.alg, .slice A1 n1 k1, .slice A2 n2 k2, .slice A3 n3 k3, .slice A4 n4 k4] ∧ PolIn w (fun _ => True) P A1 n1 k1 A2 n2 k2 A3 n3 k3 A4 n4 k4 := by
  obtain ⟨cs, m, rfl, hm⟩ := open_struct Try.underlying32 hv h
  obtain ⟨P, hP⟩ := open_pol_cells hwt hm
  clear hm hv h
  match m, hP with
  | d + 1, ⟨A1, n1, k1, A2, n2, k2, A3, n3, k3, A4, n4, k4, e, h0, h00, h1, h2, h3, h4⟩ =>
    exact ⟨P, A1, n1, k1, A2, n2, k2, A3, n3, k3, A4, n4, k4, congrArg (fun x : List Value => Value.agg x.toArray) e, ⟨h0, h00⟩, h1, h2, ⟨d, h3⟩, h4⟩
end
end Go.Proofs.Ytadjfkgnoklmiaa
