/- What is asked to be made: as arguments, and the law's made (gen16ask.py). -/
import Derived.Test.YtipeefehhaffkaaDagCalls
import Derived.Test.YtipeefehhaffkaaWithin
import Derived.Test.YtipeefehhaffkaaOpenRows
import Derived.Test.YtipeefehhaffkaaOpenNums
namespace Go.Proofs.Ytipeefehhaffkaa
set_option linter.unusedVariables false
open Go.RowKit Go.ChangeShapes Go.WideShapes

/-- What is asked: numbers, and whether they stand as they are. -/
structure Ak where
  a : Int
  x : Int
  y : Int
  z : Int
  raw : Bool
instance : Inhabited Ak := ⟨⟨0, 0, 0, 0, false⟩⟩
def Ak.ok (k : Ak) : Prop := InI k.a ∧ InI k.x ∧ InI k.y ∧ InI k.z
def AkP (vs : List Value) (k : Ak) : Prop := vs = [.int .i64 k.a, .int .i64 k.x, .int .i64 k.y, .int .i64 k.z, .bool k.raw] ∧ k.ok
def Aks (w : World) (R : Nat → Prop) := Rw 5 AkP w R
theorem Aks.keep {w w' : World} {R R' : Nat → Prop} {A : Option Addr} {n c : Nat} {l : List Ak} (h : Aks w R A n c l) (hk : Kept R w w') (hR : ∀ b, R b → b < w.heap.size → R' b) : Aks w' R' A n c l := Rw.keep h hk hR fun _ _ _ h => h
theorem Aks.at_ {w : World} {R : Nat → Prop} {A : Option Addr} {n c : Nat} {l : List Ak} (h : Aks w R A n c l) {j : Nat} (hj : j < n) : ∃ b o k, A = some ⟨b, o, none⟩ ∧ b < w.heap.size ∧ l[j]? = some k ∧ k.ok ∧
    (w.cell? ⟨b, o + j * 5, none⟩ = some (.int .i64 k.a) ∧ w.cell? ⟨b, o + j * 5 + 1, none⟩ = some (.int .i64 k.x) ∧ w.cell? ⟨b, o + j * 5 + 2, none⟩ = some (.int .i64 k.y) ∧ w.cell? ⟨b, o + j * 5 + 3, none⟩ = some (.int .i64 k.z) ∧ w.cell? ⟨b, o + j * 5 + 4, none⟩ = some (.bool k.raw)) := by
  obtain ⟨b, o, m, vs, e, hb, hlt, hm, hl, hv, rfl, hok⟩ := Rw.at_ h hj
  exact ⟨b, o, m, e, hlt, hm, hok, hv 0 _ rfl, hv 1 _ rfl, hv 2 _ rfl, hv 3 _ rfl, hv 4 _ rfl⟩
section
variable {H : Type} {enc : TypeId × Value → H} {w : World} {base : Nat} {spare : Nat → Bool} {held : Bool}
theorem bytes_ak : Try.prog.bytesOf 44 = 40 := by kernel_rfl
theorem open_int1 {P : Program} {m : Nat} {e : TypeId} {v : Value} {y : DataW H × List MemPlace} (he : P.underlying e = some (.int .i64)) (h : DataW.trod enc P w base spare held m e [v] = some y) : ∃ z : Int, v = .int .i64 z ∧ InI z := by
  obtain ⟨x, hv, _, hw⟩ := DataW.trod_int he h
  exact ⟨x, by simpa using hv, wf_bounds hw⟩
theorem open_ak_cells {m : Nat} {cs : List Value} {y : DataW H × List MemPlace} (hwt : Wt Try.prog 44 y.1) (h : DataW.trod enc Try.prog w base spare held m 44 cs = some y) : ∃ k : Ak, AkP cs k := by
  obtain ⟨m', _, hlen, y0, y1, y2, ⟨q0, q1, q2⟩, g0, g1, g2⟩ := fields3 Try.underlying44 hwt h
  obtain ⟨v0, v1, v2, v3, v4, rfl⟩ := len5 (hlen.trans (show Try.prog.cellsOf 44 = 5 by kernel_rfl))
  have g0 : DataW.trod enc Try.prog w base spare held m' 3 (([v0, v1, v2, v3, v4] : List Value).drop 0 |>.take (Try.prog.cellsOf 3)) = some y0 := g0
  rw [show Try.prog.cellsOf 3 = 1 by kernel_rfl] at g0
  have g1 : DataW.trod enc Try.prog w base spare held m' 28 (([v0, v1, v2, v3, v4] : List Value).drop 1 |>.take (Try.prog.cellsOf 28)) = some y1 := g1
  rw [show Try.prog.cellsOf 28 = 3 by kernel_rfl] at g1
  have g1 : DataW.trod enc Try.prog w base spare held m' 28 [v1, v2, v3] = some y1 := g1
  have g2 : DataW.trod enc Try.prog w base spare held m' 4 (([v0, v1, v2, v3, v4] : List Value).drop 4 |>.take (Try.prog.cellsOf 4)) = some y2 := g2
  rw [show Try.prog.cellsOf 4 = 1 by kernel_rfl] at g2
  obtain ⟨x0, rfl, w0⟩ := open_int1 Try.underlying3 (show DataW.trod enc Try.prog w base spare held m' 3 [v0] = some y0 from g0)
  obtain ⟨b, e2, _⟩ := DataW.trod_bool Try.underlying4 (show DataW.trod enc Try.prog w base spare held m' 4 [v4] = some y2 from g2)
  injection e2 with e2
  subst e2
  obtain ⟨xs, m2, _, _, _, hl, hx⟩ := DataW.trod_array Try.underlying28 g1
  have hc : Try.prog.cellsOf 3 = 1 := by kernel_rfl
  have g : ∀ i, i < 3 → ∃ y, DataW.trod enc Try.prog w base spare held m2 3 (([v1, v2, v3].drop i).take 1) = some y := by
    intro i hi
    have := hx i hi
    rw [hc, Nat.mul_one, List.getElem?_eq_getElem (by omega)] at this
    exact ⟨_, this⟩
  obtain ⟨z1, k1⟩ := g 0 (by omega)
  obtain ⟨z2, k2⟩ := g 1 (by omega)
  obtain ⟨z3, k3⟩ := g 2 (by omega)
  obtain ⟨x1, rfl, w1⟩ := open_int1 Try.underlying3 (show DataW.trod enc Try.prog w base spare held m2 3 [v1] = some z1 from k1)
  obtain ⟨x2, rfl, w2⟩ := open_int1 Try.underlying3 (show DataW.trod enc Try.prog w base spare held m2 3 [v2] = some z2 from k2)
  obtain ⟨x3, rfl, w3⟩ := open_int1 Try.underlying3 (show DataW.trod enc Try.prog w base spare held m2 3 [v3] = some z3 from k3)
  exact ⟨⟨x0, x1, x2, x3, b⟩, rfl, w0, w1, w2, w3⟩
theorem open_asks16 {n c : Nat} {A : Option Addr} {d : DataW H} {p : List MemPlace} (hwt : Wt Try.prog 37 d) (h : DataW.Trod enc Try.prog w base spare held 37 (.slice A n c) d p) : ∃ l, Aks w (fun _ => True) A n c l := by
  obtain ⟨m, hm⟩ := h
  exact open_rows Try.underlying37 (by kernel_rfl) (by omega) (by rw [bytes_ak]; omega) (fun m cs y _ _ q h => open_ak_cells q h) hwt hm
end
theorem open_nums16 {H : Type} {enc : TypeId × Value → H} {w : World} {base n c : Nat} {spare : Nat → Bool} {held : Bool} {A : Option Addr} {d : DataW H} {p : List MemPlace} (_ : Wt Try.prog 33 d)
    (h : DataW.Trod enc Try.prog w base spare held 33 (.slice A n c) d p) : ∃ l, Sl w w.heap.size A n c (nv l) := open_nums h
/-- What the law makes of it. -/
def mdA (k : Ak) (n : Nat) : Br := if k.raw then ⟨k.a, k.x, k.y, k.z⟩ else ⟨withinOf k.a 0 7, withinOf k.x 0 (n + 3) - 4, withinOf k.y 0 (n + 3) - 4, withinOf k.z 0 (n + 3) - 4⟩
theorem mdA_ok {k : Ak} (h : k.ok) {n : Nat} (hn : n ≤ 2000) : (mdA k n).ok := by
  obtain ⟨h0, h1, h2, h3⟩ := h
  unfold mdA
  split
  · exact ⟨h0, h1, h2, h3⟩
  · have w0 := within_le (n := k.a) (lo := 0) (hi := 7) (by omega)
    have w1 := within_le (n := k.x) (lo := 0) (hi := (n : Int) + 3) (by omega)
    have w2 := within_le (n := k.y) (lo := 0) (hi := (n : Int) + 3) (by omega)
    have w3 := within_le (n := k.z) (lo := 0) (hi := (n : Int) + 3) (by omega)
    unfold Br.ok InI
    simp only
    omega
/-- The branch's cells, so many of its ways laid. -/
def mdC (b : Br) : Nat → Array Value
  | 0 => #[.int .i64 b.a, .int .i64 0, .int .i64 0, .int .i64 0]
  | 1 => #[.int .i64 b.a, .int .i64 b.x, .int .i64 0, .int .i64 0]
  | 2 => #[.int .i64 b.a, .int .i64 b.x, .int .i64 b.y, .int .i64 0]
  | _ => #[.int .i64 b.a, .int .i64 b.x, .int .i64 b.y, .int .i64 b.z]
theorem ob_made2 (w : World) (o : Obj) (T : TypeId) (cs : Array Value) : Ob ((w.alloc o).alloc (.cells cs T)) (w.heap.size + 1) T cs := by
  have := Ob.made (w.alloc o) T cs
  rwa [size_al] at this
theorem ob_made3 (w : World) (o o2 : Obj) (T : TypeId) (cs : Array Value) : Ob (((w.alloc o).alloc o2).alloc (.cells cs T)) (w.heap.size + 2) T cs := by
  have := Ob.made ((w.alloc o).alloc o2) T cs
  rwa [size_al, size_al] at this
theorem ob_alloc {w : World} {g : Nat} {T : TypeId} {cs : Array Value} (h : Ob w g T cs) (o : Obj) : Ob (w.alloc o) g T cs := h.below (below1 w o) h.lt
section
variable {w : World}
set_option maxRecDepth 100000 in
set_option maxHeartbeats 3200000 in
theorem made_any (k : Ak) (hk : k.ok) (n : Nat) (hn : n ≤ 2000) : Calls Try.prog 14 #[.agg #[.int .i64 k.a, .int .i64 k.x, .int .i64 k.y, .int .i64 k.z, .bool k.raw], .int .i64 (n : Int)] w fun e w' => e = .returned (mdA k n).val ∧ Below w.heap.size w w' := by
  obtain ⟨ka, kx, ky, kz, raw⟩ := k
  cases raw
  · have HE : Hid (mdA ⟨ka, kx, ky, kz, false⟩ n = ⟨withinOf ka 0 7, withinOf kx 0 (n + 3) - 4, withinOf ky 0 (n + 3) - 4, withinOf kz 0 (n + 3) - 4⟩) := rfl
    obtain ⟨hka, hkx, hky, hkz⟩ := hk
    simp only
    have wx := within_le (n := kx) (lo := 0) (hi := (n : Int) + 3) (by omega)
    have wy := within_le (n := ky) (lo := 0) (hi := (n : Int) + 3) (by omega)
    have wz := within_le (n := kz) (lo := 0) (hi := (n : Int) + 3) (by omega)
    have hn3 : IntKind.i64.wrap ((n : Int) + 3) = (n : Int) + 3 := by rw [IntKind.wrap_i64]; omega
    have hx4 : IntKind.i64.wrap (withinOf kx 0 ((n : Int) + 3) - 4) = withinOf kx 0 ((n : Int) + 3) - 4 := by rw [IntKind.wrap_i64]; omega
    have hy4 : IntKind.i64.wrap (withinOf ky 0 ((n : Int) + 3) - 4) = withinOf ky 0 ((n : Int) + 3) - 4 := by rw [IntKind.wrap_i64]; omega
    have hz4 : IntKind.i64.wrap (withinOf kz 0 ((n : Int) + 3) - 4) = withinOf kz 0 ((n : Int) + 3) - 4 := by rw [IntKind.wrap_i64]; omega
    have HX4 := Lib.hid hx4
    have HY4 := Lib.hid hy4
    have HZ4 := Lib.hid hz4
    have HN3 := Lib.hid hn3
    clear hx4 hy4 hz4 hn3 wx wy wz hka hkx hky hkz
    go_enter Try.func14, Try.ntmps14
    go_wp2_with fail
    refine (within_any (by omega) (by omega) (by omega)).mono ?_
    rintro e w0 ⟨rfl, hw0⟩
    rw [← hw0]
    clear hw0
    obtain ⟨a', ha'⟩ : ∃ a', withinOf ka 0 7 = a' := ⟨_, rfl⟩
    have HA' := Lib.hid ha'
    rw [ha']
    clear ha'
    go_wp2_with fail
    obtain ⟨V, hV⟩ : ∃ V, ((w.alloc (.cells #[.int .i64 ka, .int .i64 kx, .int .i64 ky, .int .i64 kz, .bool false] 44)).alloc (.cells #[.int .i64 0, .int .i64 0, .int .i64 0, .int .i64 0] 30)).alloc (.cells #[.int .i64 a', .int .i64 0, .int .i64 0, .int .i64 0] 30) = V := ⟨_, rfl⟩
    have O2 : Hid (Ob V w.heap.size 44 #[.int .i64 ka, .int .i64 kx, .int .i64 ky, .int .i64 kz, .bool false]) := by show Ob _ _ _ _; rw [← hV]; exact ob_alloc (ob_alloc (Ob.made _ _ _) _) _
    have O4 : Hid (Ob V (w.heap.size + 1) 30 #[.int .i64 0, .int .i64 0, .int .i64 0, .int .i64 0]) := by show Ob _ _ _ _; rw [← hV]; exact ob_alloc (ob_made2 _ _ _ _) _
    have O5 : Hid (Ob V (w.heap.size + 2) 30 #[.int .i64 a', .int .i64 0, .int .i64 0, .int .i64 0]) := by show Ob _ _ _ _; rw [← hV]; exact ob_made3 _ _ _ _ _
    have B : Hid (Below w.heap.size w V) := by show Below _ _ _; rw [← hV]; exact (below2 w _ _).alloc (by rw [size_al, size_al]; omega) _
    rw [hV]
    clear hV
    obtain ⟨g5, hg5⟩ : ∃ g, w.heap.size + 2 = g := ⟨_, rfl⟩
    obtain ⟨g4, hg4⟩ : ∃ g, w.heap.size + 1 = g := ⟨_, rfl⟩
    obtain ⟨g2, hg2⟩ : ∃ g, w.heap.size = g := ⟨_, rfl⟩
    have G5 : Hid (g2 ≠ g5 ∧ g4 ≠ g5 ∧ w.heap.size ≤ g4 ∧ w.heap.size ≤ g5) := by show _ ∧ _ ∧ _ ∧ _; omega
    rw [hg5] at O5 ⊢
    rw [hg4] at O4 ⊢
    rw [hg2] at O2
    try rw [hg2]
    clear hg2 hg4 hg5
    obtain ⟨b, hb⟩ : ∃ b : Br, b = ⟨a', withinOf kx 0 (n + 3) - 4, withinOf ky 0 (n + 3) - 4, withinOf kz 0 (n + 3) - 4⟩ := ⟨_, rfl⟩
    have HE2 : Hid (mdA ⟨ka, kx, ky, kz, false⟩ n = b) := by show _ = _; rw [HE.out, HA'.out, hb]
    have HB := Lib.hid hb
    have M5 : Hid (Ob V g5 30 (mdC b 0)) := by show Ob _ _ _ _; rw [HB.out]; exact O5.out
    clear hb O5
    go_loopw [18] (fun i wr => ∃ k : Nat, k ≤ 3 ∧ i = .int .i64 k ∧ Ob wr g5 30 (mdC b k) ∧ Only g5 V wr) (fun i _ => 3 - (intOf i).toNat)
    case atStart => exact ⟨0, by omega, rfl, M5.out, Only.refl⟩
    case round =>
      clear M5
      obtain ⟨w1, hw1⟩ : ∃ w1, w1 = wr := ⟨wr, rfl⟩
      subst hw1
      obtain ⟨k, hk, rfl, ho, hon⟩ := hrel
      have O5 := Lib.hid ho
      have ON := Lib.hid hon
      have Z := Lib.hid (O2.out.keep (hon.heap O2.out.lt G5.out.1))
      have Y := Lib.hid (O4.out.keep (hon.heap O4.out.lt G5.out.2.1))
      clear ho hon
      by_cases h3 : k = 3
      · subst h3
        have z0 := O5.out.cell 0
        have z1 := O5.out.cell 1
        have z2 := O5.out.cell 2
        have z3 := O5.out.cell 3
        have y0 := Y.out.cell 0
        have y1 := Y.out.cell 1
        have y2 := Y.out.cell 2
        have y3 := Y.out.cell 3
        have f0 := Y.out.frozen 0
        have f1 := Y.out.frozen 1
        have f2 := Y.out.frozen 2
        have f3 := Y.out.frozen 3
        simp [mdC] at z0 z1 z2 z3 y0 y1 y2 y3
        go_wp2_with fail
        try simp only [Exit.inBlock, Exit.then]
        have P : Hid (Ob ((((w1.setCell ⟨g4, 0, none⟩ (.int .i64 b.a)).setCell ⟨g4, 1, none⟩ (.int .i64 b.x)).setCell ⟨g4, 2, none⟩ (.int .i64 b.y)).setCell ⟨g4, 3, none⟩ (.int .i64 b.z)) g4 30 #[.int .i64 b.a, .int .i64 b.x, .int .i64 b.y, .int .i64 b.z]) := (((Y.out.put 0 (.int .i64 b.a)).put 1 (.int .i64 b.x)).put 2 (.int .i64 b.y)).put 3 (.int .i64 b.z)
        have B1 := Lib.hid (B.out.trans (ON.out.below B.out.size G5.out.2.2.2))
        have B2 := Lib.hid (B1.out.trans (((((Only.refl (w := w1) (r := g4)).setCell (p := ⟨g4, 0, none⟩) rfl (.int .i64 b.a)).setCell (p := ⟨g4, 1, none⟩) rfl (.int .i64 b.x)).setCell (p := ⟨g4, 2, none⟩) rfl (.int .i64 b.y)).setCell (p := ⟨g4, 3, none⟩) rfl (.int .i64 b.z) |>.below B1.out.size G5.out.2.2.1))
        refine bodyPost_ret (br_ret rfl rfl P.out) rfl ?_
        exact ⟨by rw [HE2.out]; rfl, B2.out⟩
      · rcases (show k = 0 ∨ k = 1 ∨ k = 2 by omega) with rfl | rfl | rfl
        · have z1 := Z.out.cell 1
          have q1 := O5.out.cell 1
          have r1 := O5.out.frozen 1
          have O6 := Lib.hid (O5.out.put 1 (.int .i64 (withinOf kx 0 ((n : Int) + 3) - 4)))
          have ON2 := Lib.hid (ON.out.setCell (p := ⟨g5, 1, none⟩) rfl (.int .i64 (withinOf kx 0 ((n : Int) + 3) - 4)))
          have HS : Hid ((mdC b 0).setIfInBounds 1 (.int .i64 (withinOf kx 0 ((n : Int) + 3) - 4)) = mdC b 1) := by show _ = _; rw [HB.out]; rfl
          have hn3 := HN3.out
          simp [mdC] at z1 q1
          go_wp2_with fail
          refine (within_any (by omega) (by omega) (by omega)).mono ?_
          rintro e w0 ⟨rfl, hw0⟩
          rw [← hw0]
          clear hw0
          have hx4 := HX4.out
          go_wp2_with fail
          go_roundw
          case rel => exact ⟨1, by omega, rfl, by rw [← HS.out]; exact O6.out, ON2.out⟩
          case measure => simp [intOf]
        · have z1 := Z.out.cell 2
          have q1 := O5.out.cell 2
          have r1 := O5.out.frozen 2
          have O6 := Lib.hid (O5.out.put 2 (.int .i64 (withinOf ky 0 ((n : Int) + 3) - 4)))
          have ON2 := Lib.hid (ON.out.setCell (p := ⟨g5, 2, none⟩) rfl (.int .i64 (withinOf ky 0 ((n : Int) + 3) - 4)))
          have HS : Hid ((mdC b 1).setIfInBounds 2 (.int .i64 (withinOf ky 0 ((n : Int) + 3) - 4)) = mdC b 2) := by show _ = _; rw [HB.out]; rfl
          have hn3 := HN3.out
          simp [mdC] at z1 q1
          go_wp2_with fail
          refine (within_any (by omega) (by omega) (by omega)).mono ?_
          rintro e w0 ⟨rfl, hw0⟩
          rw [← hw0]
          clear hw0
          have hx4 := HY4.out
          go_wp2_with fail
          go_roundw
          case rel => exact ⟨2, by omega, rfl, by rw [← HS.out]; exact O6.out, ON2.out⟩
          case measure => simp [intOf]
        · have z1 := Z.out.cell 3
          have q1 := O5.out.cell 3
          have r1 := O5.out.frozen 3
          have O6 := Lib.hid (O5.out.put 3 (.int .i64 (withinOf kz 0 ((n : Int) + 3) - 4)))
          have ON2 := Lib.hid (ON.out.setCell (p := ⟨g5, 3, none⟩) rfl (.int .i64 (withinOf kz 0 ((n : Int) + 3) - 4)))
          have HS : Hid ((mdC b 2).setIfInBounds 3 (.int .i64 (withinOf kz 0 ((n : Int) + 3) - 4)) = mdC b 3) := by show _ = _; rw [HB.out]; rfl
          have hn3 := HN3.out
          simp [mdC] at z1 q1
          go_wp2_with fail
          refine (within_any (by omega) (by omega) (by omega)).mono ?_
          rintro e w0 ⟨rfl, hw0⟩
          rw [← hw0]
          clear hw0
          have hx4 := HZ4.out
          go_wp2_with fail
          go_roundw
          case rel => exact ⟨3, by omega, rfl, by rw [← HS.out]; exact O6.out, ON2.out⟩
          case measure => simp [intOf]
  · go_enter Try.func14, Try.ntmps14
    go_wp2_with fail
    try simp only [Exit.inBlock, Exit.then]
    refine bodyPost_ret (br_ret rfl rfl (ob_made2 _ _ _ _)) rfl ?_
    exact ⟨rfl, below2 _ _ _⟩
end
end Go.Proofs.Ytipeefehhaffkaa
