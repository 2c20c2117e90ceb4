/- Several texts in one: OpenRows, OpenAtr, OpenPol, OpenRng, OpenAsk. -/
import Derived.Test.YtjpkemamfccfdaaAskB
import Derived.Test.YtjpkemamfccfdaaAskC
import Derived.Deep.Slices
import Derived.Deep.Fields
import Derived.Lib.SmallJoins
import Derived.ProofKit
import Derived.OpenShut
import Derived.SizedLaws
/- Rows of structs that come in: what any of them asks. -/
namespace Go.Proofs.Ytjpkemamfccfdaa
set_option linter.unusedVariables false
open Go.RowKit Go.ChangeShapes Go.WideShapes

section
variable {H : Type} {enc : TypeId × Value → H} {w : World} {base : Nat} {spare : Nat → Bool} {held : Bool}

/-- A datum whose strings, slices are no greater than may be. -/
def Wt (P : Program) (t : TypeId) (d : DataW H) : Prop := (d.weights P t).all (fun x => decide (x ≤ reachBytes)) = true
theorem wt_all {P : Program} {e : TypeId} : ∀ {l : List (DataW H)}, (DataW.weightsAll P e l).all (fun x => decide (x ≤ reachBytes)) = true → ∀ d ∈ l, Wt P e d
  | [], _, d, hd => by cases hd
  | x :: l, h, d, hd => by
    rw [DataW.weightsAll, List.all_append, Bool.and_eq_true] at h
    rcases List.mem_cons.1 hd with rfl | hd
    · exact h.1
    · exact wt_all h.2 d hd
theorem wt_slice {P : Program} {t e : TypeId} {a b : List (DataW H)} (ht : P.underlying t = some (.slice e)) (h : Wt P t (.slice a b)) : (a.length + b.length) * P.bytesOf e ≤ reachBytes ∧ ∀ d ∈ a, Wt P e d := by
  unfold Wt at h
  rw [DataW.weights] at h
  simp only [ht] at h
  rw [List.all_cons, List.all_append, Bool.and_eq_true, Bool.and_eq_true] at h
  exact ⟨by simpa using h.1, wt_all h.2.1⟩
theorem wt_each {P : Program} : ∀ {ts : List TypeId} {ds : List (DataW H)}, (DataW.weightsEach P ts ds).all (fun x => decide (x ≤ reachBytes)) = true → ∀ (i : Nat) t d, ts[i]? = some t → ds[i]? = some d → Wt P t d
  | [], _, _, _, _, _, ht, _ => by simp at ht
  | _ :: _, [], _, _, _, _, _, hd => by simp at hd
  | t :: ts, d :: ds, h, 0, t', d', ht, hd => by
    rw [DataW.weightsEach, List.all_append, Bool.and_eq_true] at h
    simp at ht hd
    subst ht hd
    exact h.1
  | t :: ts, d :: ds, h, i + 1, t', d', ht, hd => by
    rw [DataW.weightsEach, List.all_append, Bool.and_eq_true] at h
    exact wt_each h.2 i t' d' (by simpa using ht) (by simpa using hd)
theorem wt_struct {P : Program} {t : TypeId} {fs : Array Field} {parts : List (DataW H)} (ht : P.underlying t = some (.struct fs)) (h : Wt P t (.agg parts)) (i : Nat) (f : Field) (d : DataW H) (hf : fs[i]? = some f) (hd : parts[i]? = some d) : Wt P f.type d := by
  unfold Wt at h
  rw [DataW.weights] at h
  simp only [ht] at h
  exact wt_each h i f.type d (by simp [hf]) hd
theorem open_rows {P : Program} {α : Type} [Inhabited α] {e t : TypeId} {k fuel n c : Nat} {A : Option Addr} {x : DataW H × List MemPlace} {Pn : List Value → α → Prop} (ht : P.underlying t = some (.slice e)) (hC : P.cellsOf e = k) (hk : 0 < k)
    (hby : 0 < P.bytesOf e) (hel : ∀ m cs y, m < fuel → cs.length = k → Wt P e y.1 → DataW.trod enc P w base spare held m e cs = some y → ∃ z, Pn cs z) (hwt : Wt P t x.1) (h : DataW.trod enc P w base spare held fuel t [.slice A n c] = some x) : ∃ l, Rw k Pn w (fun _ => True) A n c l := by
  rcases DataW.trod_slice ht h with ⟨hcs, _⟩ | ⟨a, len, cap, elems, rest, m, hfu, hcs, hxe, hb, hl, hm, hlen, hx, _⟩
  · simp at hcs
    obtain ⟨rfl, rfl, rfl⟩ := hcs
    exact ⟨[], Rw.nil_ _ _ _ _⟩
  · simp at hcs
    obtain ⟨rfl, rfl, rfl⟩ := hcs
    subst hxe
    obtain ⟨hw1, hw2⟩ := wt_slice ht hwt
    have hbig : n ≤ 140737488351232 := by
      rw [List.length_map, List.length_map, hlen] at hw1
      have e1 : n * 1 ≤ (n + rest.length) * P.bytesOf e := Nat.mul_le_mul (by omega) hby
      have e2 : reachBytes = 140737488351232 := rfl
      omega
    have hall : ∀ i, i < n → ∃ z : α, ∃ cs : List Value, cs.length = k ∧ (∀ j, j < k → w.cell? ((a.add (i * k)).add j) = cs[j]?) ∧ Pn cs z := fun i hin => by
      have hi := hx i hin
      rw [hC, List.getElem?_eq_getElem (by omega)] at hi
      obtain ⟨cs, hc, hy⟩ := Option.bind_eq_some_iff.1 hi
      obtain ⟨_, hcl, hat⟩ := World.cells?_some hc
      obtain ⟨z, hz⟩ := hel m cs _ (by omega) hcl (hw2 _ (List.mem_map.2 ⟨_, List.getElem_mem (by omega), rfl⟩)) hy
      exact ⟨z, cs, hcl, hat, hz⟩
    obtain ⟨V, hV⟩ := Go.Deep.choose_lt hall
    refine ⟨(List.range n).map V, by simp, hl, ⟨hm, hbig⟩, ?_⟩
    by_cases h0 : n = 0
    · exact .inl h0
    · right
      obtain ⟨b, o, spot⟩ := a
      obtain ⟨cs0, hl0, hat0, _⟩ := hV 0 (by omega)
      have h00 := hat0 0 hk
      rw [List.getElem?_eq_getElem (by omega)] at h00
      have hspot : spot = none := by simpa [Addr.add] using World.cell?_spot h00
      subst hspot
      refine ⟨b, o, rfl, trivial, by have := cell_lt h00; simpa [Addr.add] using this, fun j x hj => ?_⟩
      rw [List.getElem?_map, Option.map_eq_some_iff] at hj
      obtain ⟨i, hi', rfl⟩ := hj
      have hjn : j < n := by have := (List.getElem?_eq_some_iff.1 hi').1; simpa using this
      have hij : i = j := by rw [List.getElem?_range hjn] at hi'; exact (Option.some.inj hi').symm
      subst hij
      obtain ⟨cs, hcl, hat, hz⟩ := hV i hjn
      refine ⟨cs, hcl, fun q v hq => ?_, hz⟩
      have hqk : q < k := by have := (List.getElem?_eq_some_iff.1 hq).1; omega
      have add : ∀ i k : Nat, ((⟨b, o, none⟩ : Addr).add i).add k = ⟨b, o + i + k, none⟩ := by
        intro i k
        by_cases hi0 : i = 0 <;> by_cases hk0 : k = 0 <;> simp [Addr.add, hi0, hk0]
      have := hat q hqk
      rw [add] at this
      rw [this, hq]

theorem len3 {α : Type} {cs : List α} (h : cs.length = 3) : ∃ v0 v1 v2, cs = [v0, v1, v2] := by
  match cs, h with
  | [v0, v1, v2], _ => exact ⟨v0, v1, v2, rfl⟩
theorem len5 {α : Type} {cs : List α} (h : cs.length = 5) : ∃ v0 v1 v2 v3 v4, cs = [v0, v1, v2, v3, v4] := by
  match cs, h with
  | [v0, v1, v2, v3, v4], _ => exact ⟨v0, v1, v2, v3, v4, rfl⟩
theorem len7 {α : Type} {cs : List α} (h : cs.length = 7) : ∃ v0 v1 v2 v3 v4 v5 v6, cs = [v0, v1, v2, v3, v4, v5, v6] := by
  match cs, h with
  | [v0, v1, v2, v3, v4, v5, v6], _ => exact ⟨v0, v1, v2, v3, v4, v5, v6, rfl⟩
theorem fields3 {P : Program} {e : TypeId} {f0 f1 f2 : Field} {fuel : Nat} {cs : List Value} {x : DataW H × List MemPlace} (he : P.underlying e = some (.struct #[f0, f1, f2])) (hwt : Wt P e x.1) (h : DataW.trod enc P w base spare held fuel e cs = some x) :
    ∃ m, fuel = m + 1 ∧ cs.length = P.cellsOf e ∧ ∃ y0 y1 y2, (Wt P f0.type y0.1 ∧ Wt P f1.type y1.1 ∧ Wt P f2.type y2.1) ∧ DataW.trod enc P w base spare held m f0.type ((cs.drop f0.offset).take (P.cellsOf f0.type)) = some y0 ∧ DataW.trod enc P w base spare held m f1.type ((cs.drop f1.offset).take (P.cellsOf f1.type)) = some y1 ∧ DataW.trod enc P w base spare held m f2.type ((cs.drop f2.offset).take (P.cellsOf f2.type)) = some y2 := by
  obtain ⟨ys, n', hn', hy, hlen, hyl, hf⟩ := DataW.trod_struct he h
  subst hy
  have hw := fun i f d => wt_struct he hwt i f d
  have ysn : ys.length = 3 := hyl
  match ys, ysn with
  | [y0, y1, y2], _ => exact ⟨n', hn', hlen, y0, y1, y2, ⟨hw 0 _ _ rfl rfl, hw 1 _ _ rfl rfl, hw 2 _ _ rfl rfl⟩, hf 0 _ rfl, hf 1 _ rfl, hf 2 _ rfl⟩
theorem fields5 {P : Program} {e : TypeId} {f0 f1 f2 f3 f4 : Field} {fuel : Nat} {cs : List Value} {x : DataW H × List MemPlace} (he : P.underlying e = some (.struct #[f0, f1, f2, f3, f4])) (hwt : Wt P e x.1) (h : DataW.trod enc P w base spare held fuel e cs = some x) :
    ∃ m, fuel = m + 1 ∧ cs.length = P.cellsOf e ∧ ∃ y0 y1 y2 y3 y4, (Wt P f0.type y0.1 ∧ Wt P f1.type y1.1 ∧ Wt P f2.type y2.1 ∧ Wt P f3.type y3.1 ∧ Wt P f4.type y4.1) ∧ DataW.trod enc P w base spare held m f0.type ((cs.drop f0.offset).take (P.cellsOf f0.type)) = some y0 ∧ DataW.trod enc P w base spare held m f1.type ((cs.drop f1.offset).take (P.cellsOf f1.type)) = some y1 ∧ DataW.trod enc P w base spare held m f2.type ((cs.drop f2.offset).take (P.cellsOf f2.type)) = some y2 ∧ DataW.trod enc P w base spare held m f3.type ((cs.drop f3.offset).take (P.cellsOf f3.type)) = some y3 ∧ DataW.trod enc P w base spare held m f4.type ((cs.drop f4.offset).take (P.cellsOf f4.type)) = some y4 := by
  obtain ⟨ys, n', hn', hy, hlen, hyl, hf⟩ := DataW.trod_struct he h
  subst hy
  have hw := fun i f d => wt_struct he hwt i f d
  have ysn : ys.length = 5 := hyl
  match ys, ysn with
  | [y0, y1, y2, y3, y4], _ => exact ⟨n', hn', hlen, y0, y1, y2, y3, y4, ⟨hw 0 _ _ rfl rfl, hw 1 _ _ rfl rfl, hw 2 _ _ rfl rfl, hw 3 _ _ rfl rfl, hw 4 _ _ rfl rfl⟩, hf 0 _ rfl, hf 1 _ rfl, hf 2 _ rfl, hf 3 _ rfl, hf 4 _ rfl⟩
theorem fields7 {P : Program} {e : TypeId} {f0 f1 f2 f3 f4 f5 f6 : Field} {fuel : Nat} {cs : List Value} {x : DataW H × List MemPlace} (he : P.underlying e = some (.struct #[f0, f1, f2, f3, f4, f5, f6])) (hwt : Wt P e x.1) (h : DataW.trod enc P w base spare held fuel e cs = some x) :
    ∃ m, fuel = m + 1 ∧ cs.length = P.cellsOf e ∧ ∃ y0 y1 y2 y3 y4 y5 y6, (Wt P f0.type y0.1 ∧ Wt P f1.type y1.1 ∧ Wt P f2.type y2.1 ∧ Wt P f3.type y3.1 ∧ Wt P f4.type y4.1 ∧ Wt P f5.type y5.1 ∧ Wt P f6.type y6.1) ∧ DataW.trod enc P w base spare held m f0.type ((cs.drop f0.offset).take (P.cellsOf f0.type)) = some y0 ∧ DataW.trod enc P w base spare held m f1.type ((cs.drop f1.offset).take (P.cellsOf f1.type)) = some y1 ∧ DataW.trod enc P w base spare held m f2.type ((cs.drop f2.offset).take (P.cellsOf f2.type)) = some y2 ∧ DataW.trod enc P w base spare held m f3.type ((cs.drop f3.offset).take (P.cellsOf f3.type)) = some y3 ∧ DataW.trod enc P w base spare held m f4.type ((cs.drop f4.offset).take (P.cellsOf f4.type)) = some y4 ∧ DataW.trod enc P w base spare held m f5.type ((cs.drop f5.offset).take (P.cellsOf f5.type)) = some y5 ∧ DataW.trod enc P w base spare held m f6.type ((cs.drop f6.offset).take (P.cellsOf f6.type)) = some y6 := by
  obtain ⟨ys, n', hn', hy, hlen, hyl, hf⟩ := DataW.trod_struct he h
  subst hy
  have hw := fun i f d => wt_struct he hwt i f d
  have ysn : ys.length = 7 := hyl
  match ys, ysn with
  | [y0, y1, y2, y3, y4, y5, y6], _ => exact ⟨n', hn', hlen, y0, y1, y2, y3, y4, y5, y6, ⟨hw 0 _ _ rfl rfl, hw 1 _ _ rfl rfl, hw 2 _ _ rfl rfl, hw 3 _ _ rfl rfl, hw 4 _ _ rfl rfl, hw 5 _ _ rfl rfl, hw 6 _ _ rfl rfl⟩, hf 0 _ rfl, hf 1 _ rfl, hf 2 _ rfl, hf 3 _ rfl, hf 4 _ rfl, hf 5 _ rfl, hf 6 _ rfl⟩
theorem slice_cells {P : Program} {t e : TypeId} {m : Nat} {v : Value} {y : DataW H × List MemPlace} (ht : P.underlying t = some (.slice e)) (h : DataW.trod enc P w base spare held m t [v] = some y) : ∃ A n c, v = .slice A n c := by
  rcases DataW.trod_slice ht h with ⟨hcs, _⟩ | ⟨a, len, cap, elems, rest, m, hfu, hcs, _⟩
  · exact ⟨none, 0, 0, by simpa using hcs⟩
  · exact ⟨some a, len, cap, by simpa using hcs⟩
theorem open_struct {P : Program} {t : TypeId} {fs : Array Field} {r : Reach} {b0 : Nat} {v : Value} {d : DataW H} {p : List MemPlace} (hs : P.underlying t = some (.struct fs)) (hv : Value.okWide P w r b0 t v) (h : DataW.Trod enc P w base spare held t v d p) :
    ∃ (cs : List Value) (m : Nat), v = .agg cs.toArray ∧ DataW.trod enc P w base spare held m t cs = some (d, p) := by
  obtain ⟨cs, rfl, hsz⟩ := WideShapes.okWide_struct hs hv
  obtain ⟨m, hm⟩ := h
  exact ⟨cs.toList, m, by simp, hm⟩
end
end Go.Proofs.Ytjpkemamfccfdaa
/- Values and attributes that come in. -/
namespace Go.Proofs.Ytjpkemamfccfdaa
set_option linter.unusedVariables false
open Go.RowKit Go.ChangeShapes Go.WideShapes

instance : Inhabited Atr := ⟨zeroA⟩
section
variable {H : Type} {enc : TypeId × Value → H} {w : World} {base : Nat} {spare : Nat → Bool} {held : Bool}

theorem open_atr_cells {m : Nat} {cs : List Value} {y : DataW H × List MemPlace} (hwt : Wt Try.prog 23 y.1) (h : DataW.trod enc Try.prog w base spare held m 23 cs = some y) : ∃ a : Atr, cs = a.cells ∧ a.ok := by
  obtain ⟨m', _, hlen, y0, y1, y2, ⟨q0, q1, q2⟩, g0, g1, g2⟩ := fields3 Try.underlying23 hwt h
  obtain ⟨v0, v1, v2, rfl⟩ := len3 (hlen.trans (show Try.prog.cellsOf 23 = 3 by kernel_rfl))
  have g0 : DataW.trod enc Try.prog w base spare held m' 3 (([v0, v1, v2] : List Value).drop 0 |>.take (Try.prog.cellsOf 3)) = some y0 := g0
  rw [show Try.prog.cellsOf 3 = 1 by kernel_rfl] at g0
  have g1 : DataW.trod enc Try.prog w base spare held m' 9 (([v0, v1, v2] : List Value).drop 1 |>.take (Try.prog.cellsOf 9)) = some y1 := g1
  rw [show Try.prog.cellsOf 9 = 1 by kernel_rfl] at g1
  have g2 : DataW.trod enc Try.prog w base spare held m' 4 (([v0, v1, v2] : List Value).drop 2 |>.take (Try.prog.cellsOf 4)) = some y2 := g2
  rw [show Try.prog.cellsOf 4 = 1 by kernel_rfl] at g2
  obtain ⟨x0, e0, _, w0⟩ := DataW.trod_int Try.underlying3 (show DataW.trod enc Try.prog w base spare held m' 3 [v0] = some y0 from g0)
  obtain ⟨x1, e1, _, w1⟩ := DataW.trod_string Try.underlying9 (show DataW.trod enc Try.prog w base spare held m' 9 [v1] = some y1 from g1)
  obtain ⟨x2, e2, _⟩ := DataW.trod_bool Try.underlying4 (show DataW.trod enc Try.prog w base spare held m' 4 [v2] = some y2 from g2)
  injection e0 with e0
  injection e1 with e1
  injection e2 with e2
  subst e0 e1 e2
  exact ⟨⟨x0, x1, x2⟩, rfl, wf_bounds w0, w1⟩
theorem open_vl_cells {m : Nat} {cs : List Value} {y : DataW H × List MemPlace} (hwt : Wt Try.prog 25 y.1) (h : DataW.trod enc Try.prog w base spare held m 25 cs = some y) : ∃ a : Vl, cs = a.cells ∧ a.ok := by
  obtain ⟨m', _, hlen, y0, y1, y2, ⟨q0, q1, q2⟩, g0, g1, g2⟩ := fields3 Try.underlying25 hwt h
  obtain ⟨v0, v1, v2, rfl⟩ := len3 (hlen.trans (show Try.prog.cellsOf 25 = 3 by kernel_rfl))
  have g0 : DataW.trod enc Try.prog w base spare held m' 3 (([v0, v1, v2] : List Value).drop 0 |>.take (Try.prog.cellsOf 3)) = some y0 := g0
  rw [show Try.prog.cellsOf 3 = 1 by kernel_rfl] at g0
  have g1 : DataW.trod enc Try.prog w base spare held m' 3 (([v0, v1, v2] : List Value).drop 1 |>.take (Try.prog.cellsOf 3)) = some y1 := g1
  rw [show Try.prog.cellsOf 3 = 1 by kernel_rfl] at g1
  have g2 : DataW.trod enc Try.prog w base spare held m' 9 (([v0, v1, v2] : List Value).drop 2 |>.take (Try.prog.cellsOf 9)) = some y2 := g2
  rw [show Try.prog.cellsOf 9 = 1 by kernel_rfl] at g2
  obtain ⟨x0, e0, _, w0⟩ := DataW.trod_int Try.underlying3 (show DataW.trod enc Try.prog w base spare held m' 3 [v0] = some y0 from g0)
  obtain ⟨x1, e1, _, w1⟩ := DataW.trod_int Try.underlying3 (show DataW.trod enc Try.prog w base spare held m' 3 [v1] = some y1 from g1)
  obtain ⟨x2, e2, _, w2⟩ := DataW.trod_string Try.underlying9 (show DataW.trod enc Try.prog w base spare held m' 9 [v2] = some y2 from g2)
  injection e0 with e0
  injection e1 with e1
  injection e2 with e2
  subst e0 e1 e2
  exact ⟨⟨x0, x1, x2⟩, rfl, wf_bounds w0, wf_bounds w1, w2⟩
set_option maxRecDepth 100000 in
theorem open_atr {r : Reach} {b0 : Nat} {v : Value} {d : DataW H} {p : List MemPlace} (hv : Value.okWide Try.prog w r b0 23 v) (hwt : Wt Try.prog 23 d) (h : DataW.Trod enc Try.prog w base spare held 23 v d p) : ∃ a : Atr, v = .agg #[.int .i64 a.cat, .string a.name, .bool a.must] ∧ a.ok := by
  obtain ⟨cs, m, rfl, hm⟩ := open_struct Try.underlying23 hv h
  obtain ⟨a, rfl, hok⟩ := open_atr_cells hwt hm
  exact ⟨a, rfl, hok⟩
end
end Go.Proofs.Ytjpkemamfccfdaa
/- Policies, and what they are of, that come in. -/
namespace Go.Proofs.Ytjpkemamfccfdaa
set_option linter.unusedVariables false
open Go.RowKit Go.ChangeShapes Go.WideShapes

instance : Inhabited Mat := ⟨⟨zeroA, 0, zeroV⟩⟩
instance : Inhabited Nod := ⟨⟨0, zeroV, zeroA⟩⟩
instance : Inhabited Dut := ⟨⟨0, 0, ByteArray.empty⟩⟩
instance : Inhabited Rul := ⟨⟨ByteArray.empty, false, [], [], []⟩⟩
instance : Inhabited Pol := ⟨.mk ByteArray.empty false 0 [] [] [] []⟩

section
variable {H : Type} {enc : TypeId × Value → H} {w : World} {base : Nat} {spare : Nat → Bool} {held : Bool}

theorem bytes_dut : Try.prog.bytesOf 116 = 32 := by kernel_rfl
theorem bytes_nod : Try.prog.bytesOf 113 = 72 := by kernel_rfl
theorem bytes_mat : Try.prog.bytesOf 28 = 72 := by kernel_rfl
theorem bytes_s1 : Try.prog.bytesOf 36 = 24 := by kernel_rfl
theorem bytes_s2 : Try.prog.bytesOf 37 = 24 := by kernel_rfl
theorem bytes_rul : Try.prog.bytesOf 111 = 96 := by kernel_rfl
theorem bytes_pol : Try.prog.bytesOf 74 = 128 := by kernel_rfl
theorem open_dut_cells {m : Nat} {cs : List Value} {y : DataW H × List MemPlace} (hwt : Wt Try.prog 116 y.1) (h : DataW.trod enc Try.prog w base spare held m 116 cs = some y) : ∃ a : Dut, cs = a.cells ∧ a.ok := by
  obtain ⟨m', _, hlen, y0, y1, y2, ⟨q0, q1, q2⟩, g0, g1, g2⟩ := fields3 Try.underlying116 hwt h
  obtain ⟨v0, v1, v2, rfl⟩ := len3 (hlen.trans (show Try.prog.cellsOf 116 = 3 by kernel_rfl))
  have g0 : DataW.trod enc Try.prog w base spare held m' 3 (([v0, v1, v2] : List Value).drop 0 |>.take (Try.prog.cellsOf 3)) = some y0 := g0
  rw [show Try.prog.cellsOf 3 = 1 by kernel_rfl] at g0
  have g1 : DataW.trod enc Try.prog w base spare held m' 3 (([v0, v1, v2] : List Value).drop 1 |>.take (Try.prog.cellsOf 3)) = some y1 := g1
  rw [show Try.prog.cellsOf 3 = 1 by kernel_rfl] at g1
  have g2 : DataW.trod enc Try.prog w base spare held m' 9 (([v0, v1, v2] : List Value).drop 2 |>.take (Try.prog.cellsOf 9)) = some y2 := g2
  rw [show Try.prog.cellsOf 9 = 1 by kernel_rfl] at g2
  obtain ⟨x0, e0, _, w0⟩ := DataW.trod_int Try.underlying3 (show DataW.trod enc Try.prog w base spare held m' 3 [v0] = some y0 from g0)
  obtain ⟨x1, e1, _, w1⟩ := DataW.trod_int Try.underlying3 (show DataW.trod enc Try.prog w base spare held m' 3 [v1] = some y1 from g1)
  obtain ⟨x2, e2, _, w2⟩ := DataW.trod_string Try.underlying9 (show DataW.trod enc Try.prog w base spare held m' 9 [v2] = some y2 from g2)
  injection e0 with e0
  injection e1 with e1
  injection e2 with e2
  subst e0 e1 e2
  exact ⟨⟨x0, x1, x2⟩, rfl, wf_bounds w0, wf_bounds w1, w2⟩
theorem open_mat_cells {m : Nat} {cs : List Value} {y : DataW H × List MemPlace} (hwt : Wt Try.prog 28 y.1) (h : DataW.trod enc Try.prog w base spare held m 28 cs = some y) : ∃ a : Mat, cs = a.cells ∧ a.ok := by
  obtain ⟨m', _, hlen, y0, y1, y2, ⟨q0, q1, q2⟩, g0, g1, g2⟩ := fields3 Try.underlying28 hwt h
  obtain ⟨v0, v1, v2, v3, v4, v5, v6, rfl⟩ := len7 (hlen.trans (show Try.prog.cellsOf 28 = 7 by kernel_rfl))
  have g0 : DataW.trod enc Try.prog w base spare held m' 23 (([v0, v1, v2, v3, v4, v5, v6] : List Value).drop 0 |>.take (Try.prog.cellsOf 23)) = some y0 := g0
  rw [show Try.prog.cellsOf 23 = 3 by kernel_rfl] at g0
  obtain ⟨x0, e0, w0⟩ := open_atr_cells q0 (show DataW.trod enc Try.prog w base spare held m' 23 [v0, v1, v2] = some y0 from g0)
  simp [Atr.cells] at e0
  have g1 : DataW.trod enc Try.prog w base spare held m' 3 (([v0, v1, v2, v3, v4, v5, v6] : List Value).drop 3 |>.take (Try.prog.cellsOf 3)) = some y1 := g1
  rw [show Try.prog.cellsOf 3 = 1 by kernel_rfl] at g1
  obtain ⟨x1, e1, _, w1⟩ := DataW.trod_int Try.underlying3 (show DataW.trod enc Try.prog w base spare held m' 3 [v3] = some y1 from g1)
  injection e1 with e1
  have g2 : DataW.trod enc Try.prog w base spare held m' 25 (([v0, v1, v2, v3, v4, v5, v6] : List Value).drop 4 |>.take (Try.prog.cellsOf 25)) = some y2 := g2
  rw [show Try.prog.cellsOf 25 = 3 by kernel_rfl] at g2
  obtain ⟨x2, e2, w2⟩ := open_vl_cells q2 (show DataW.trod enc Try.prog w base spare held m' 25 [v4, v5, v6] = some y2 from g2)
  simp [Vl.cells] at e2
  obtain ⟨rfl, rfl, rfl⟩ := e0
  subst e1
  obtain ⟨rfl, rfl, rfl⟩ := e2
  exact ⟨⟨x0, x1, x2⟩, rfl, w0, wf_bounds w1, w2⟩
theorem open_nod_cells {m : Nat} {cs : List Value} {y : DataW H × List MemPlace} (hwt : Wt Try.prog 113 y.1) (h : DataW.trod enc Try.prog w base spare held m 113 cs = some y) : ∃ a : Nod, cs = a.cells ∧ a.ok := by
  obtain ⟨m', _, hlen, y0, y1, y2, ⟨q0, q1, q2⟩, g0, g1, g2⟩ := fields3 Try.underlying113 hwt h
  obtain ⟨v0, v1, v2, v3, v4, v5, v6, rfl⟩ := len7 (hlen.trans (show Try.prog.cellsOf 113 = 7 by kernel_rfl))
  have g0 : DataW.trod enc Try.prog w base spare held m' 3 (([v0, v1, v2, v3, v4, v5, v6] : List Value).drop 0 |>.take (Try.prog.cellsOf 3)) = some y0 := g0
  rw [show Try.prog.cellsOf 3 = 1 by kernel_rfl] at g0
  obtain ⟨x0, e0, _, w0⟩ := DataW.trod_int Try.underlying3 (show DataW.trod enc Try.prog w base spare held m' 3 [v0] = some y0 from g0)
  injection e0 with e0
  have g1 : DataW.trod enc Try.prog w base spare held m' 25 (([v0, v1, v2, v3, v4, v5, v6] : List Value).drop 1 |>.take (Try.prog.cellsOf 25)) = some y1 := g1
  rw [show Try.prog.cellsOf 25 = 3 by kernel_rfl] at g1
  obtain ⟨x1, e1, w1⟩ := open_vl_cells q1 (show DataW.trod enc Try.prog w base spare held m' 25 [v1, v2, v3] = some y1 from g1)
  simp [Vl.cells] at e1
  have g2 : DataW.trod enc Try.prog w base spare held m' 23 (([v0, v1, v2, v3, v4, v5, v6] : List Value).drop 4 |>.take (Try.prog.cellsOf 23)) = some y2 := g2
  rw [show Try.prog.cellsOf 23 = 3 by kernel_rfl] at g2
  obtain ⟨x2, e2, w2⟩ := open_atr_cells q2 (show DataW.trod enc Try.prog w base spare held m' 23 [v4, v5, v6] = some y2 from g2)
  simp [Atr.cells] at e2
  subst e0
  obtain ⟨rfl, rfl, rfl⟩ := e1
  obtain ⟨rfl, rfl, rfl⟩ := e2
  exact ⟨⟨x0, x1, x2⟩, rfl, wf_bounds w0, w1, w2⟩

theorem open_duts_f {m n c : Nat} {A : Option Addr} {x : DataW H × List MemPlace} (hwt : Wt Try.prog 72 x.1) (h : DataW.trod enc Try.prog w base spare held m 72 [.slice A n c] = some x) : ∃ l, Dus w (fun _ => True) A n c l :=
  open_rows Try.underlying72 (by kernel_rfl) (by omega) (by rw [bytes_dut]; omega) (fun m cs y _ _ q h => open_dut_cells q h) hwt h
theorem open_nods_f {m n c : Nat} {A : Option Addr} {x : DataW H × List MemPlace} (hwt : Wt Try.prog 109 x.1) (h : DataW.trod enc Try.prog w base spare held m 109 [.slice A n c] = some x) : ∃ l, Nds w (fun _ => True) A n c l :=
  open_rows Try.underlying109 (by kernel_rfl) (by omega) (by rw [bytes_nod]; omega) (fun m cs y _ _ q h => open_nod_cells q h) hwt h
theorem open_mats_f {m n c : Nat} {A : Option Addr} {x : DataW H × List MemPlace} (hwt : Wt Try.prog 36 x.1) (h : DataW.trod enc Try.prog w base spare held m 36 [.slice A n c] = some x) : ∃ l, Ms w (fun _ => True) A n c l :=
  open_rows Try.underlying36 (by kernel_rfl) (by omega) (by rw [bytes_mat]; omega) (fun m cs y _ _ q h => open_mat_cells q h) hwt h
theorem open_alls_f {m n c : Nat} {A : Option Addr} {x : DataW H × List MemPlace} (hwt : Wt Try.prog 37 x.1) (h : DataW.trod enc Try.prog w base spare held m 37 [.slice A n c] = some x) : ∃ l, Als w (fun _ => True) A n c l :=
  open_rows Try.underlying37 (by kernel_rfl) (by omega) (by rw [bytes_s1]; omega) (fun m cs y _ hl q h => by
    match cs, hl with
    | [v], _ =>
      obtain ⟨A', n', c', rfl⟩ := slice_cells Try.underlying36 h
      obtain ⟨l, hl⟩ := open_mats_f q h
      exact ⟨l, A', n', c', rfl, hl⟩) hwt h
theorem open_anys_f {m n c : Nat} {A : Option Addr} {x : DataW H × List MemPlace} (hwt : Wt Try.prog 34 x.1) (h : DataW.trod enc Try.prog w base spare held m 34 [.slice A n c] = some x) : ∃ l, Tg w (fun _ => True) A n c l :=
  open_rows Try.underlying34 (by kernel_rfl) (by omega) (by rw [bytes_s2]; omega) (fun m cs y _ hl q h => by
    match cs, hl with
    | [v], _ =>
      obtain ⟨A', n', c', rfl⟩ := slice_cells Try.underlying37 h
      obtain ⟨l, hl⟩ := open_alls_f q h
      exact ⟨l, A', n', c', rfl, hl⟩) hwt h
theorem open_rul_cells {m : Nat} {cs : List Value} {y : DataW H × List MemPlace} (hwt : Wt Try.prog 111 y.1) (h : DataW.trod enc Try.prog w base spare held m 111 cs = some y) : ∃ r : Rul, RulAt w (fun _ => True) cs r := by
  obtain ⟨m', _, hlen, y0, y1, y2, y3, y4, ⟨q0, q1, q2, q3, q4⟩, g0, g1, g2, g3, g4⟩ := fields5 Try.underlying111 hwt h
  obtain ⟨v0, v1, v2, v3, v4, rfl⟩ := len5 (hlen.trans (show Try.prog.cellsOf 111 = 5 by kernel_rfl))
  have g0 : DataW.trod enc Try.prog w base spare held m' 9 (([v0, v1, v2, v3, v4] : List Value).drop 0 |>.take (Try.prog.cellsOf 9)) = some y0 := g0
  have g1 : DataW.trod enc Try.prog w base spare held m' 4 (([v0, v1, v2, v3, v4] : List Value).drop 1 |>.take (Try.prog.cellsOf 4)) = some y1 := g1
  have g2 : DataW.trod enc Try.prog w base spare held m' 34 (([v0, v1, v2, v3, v4] : List Value).drop 2 |>.take (Try.prog.cellsOf 34)) = some y2 := g2
  have g3 : DataW.trod enc Try.prog w base spare held m' 109 (([v0, v1, v2, v3, v4] : List Value).drop 3 |>.take (Try.prog.cellsOf 109)) = some y3 := g3
  have g4 : DataW.trod enc Try.prog w base spare held m' 72 (([v0, v1, v2, v3, v4] : List Value).drop 4 |>.take (Try.prog.cellsOf 72)) = some y4 := g4
  rw [show Try.prog.cellsOf 9 = 1 by kernel_rfl] at g0
  rw [show Try.prog.cellsOf 4 = 1 by kernel_rfl] at g1
  rw [show Try.prog.cellsOf 34 = 1 by kernel_rfl] at g2
  rw [show Try.prog.cellsOf 109 = 1 by kernel_rfl] at g3
  rw [show Try.prog.cellsOf 72 = 1 by kernel_rfl] at g4
  have g2 : DataW.trod enc Try.prog w base spare held m' 34 [v2] = some y2 := g2
  have g3 : DataW.trod enc Try.prog w base spare held m' 109 [v3] = some y3 := g3
  have g4 : DataW.trod enc Try.prog w base spare held m' 72 [v4] = some y4 := g4
  obtain ⟨x0, e0, _, w0⟩ := DataW.trod_string Try.underlying9 (show DataW.trod enc Try.prog w base spare held m' 9 [v0] = some y0 from g0)
  obtain ⟨x1, e1, _⟩ := DataW.trod_bool Try.underlying4 (show DataW.trod enc Try.prog w base spare held m' 4 [v1] = some y1 from g1)
  injection e0 with e0
  injection e1 with e1
  subst e0 e1
  obtain ⟨A2, n2, c2, rfl⟩ := slice_cells Try.underlying34 g2
  obtain ⟨A3, n3, c3, rfl⟩ := slice_cells Try.underlying109 g3
  obtain ⟨A4, n4, c4, rfl⟩ := slice_cells Try.underlying72 g4
  obtain ⟨l2, h2⟩ := open_anys_f q2 g2
  obtain ⟨l3, h3⟩ := open_nods_f q3 g3
  obtain ⟨l4, h4⟩ := open_duts_f q4 g4
  exact ⟨⟨x0, x1, l2, l3, l4⟩, A2, n2, c2, A3, n3, c3, A4, n4, c4, rfl, w0, h2, h3, h4⟩
theorem open_ruls_f {m n c : Nat} {A : Option Addr} {x : DataW H × List MemPlace} (hwt : Wt Try.prog 70 x.1) (h : DataW.trod enc Try.prog w base spare held m 70 [.slice A n c] = some x) : ∃ l, Rus w (fun _ => True) A n c l :=
  open_rows Try.underlying70 (by kernel_rfl) (by omega) (by rw [bytes_rul]; omega) (fun m cs y _ _ q h => open_rul_cells q h) hwt h
theorem open_pol_cells : ∀ {m : Nat} {cs : List Value} {y : DataW H × List MemPlace}, Wt Try.prog 74 y.1 → DataW.trod enc Try.prog w base spare held m 74 cs = some y → ∃ p : Pol, PolAt w (fun _ => True) m cs p := by
  intro m
  induction m using Nat.strongRecOn with
  | ind m ih =>
  intro cs y hwt h
  obtain ⟨m', hm, hlen, y0, y1, y2, y3, y4, y5, y6, ⟨q0, q1, q2, q3, q4, q5, q6⟩, g0, g1, g2, g3, g4, g5, g6⟩ := fields7 Try.underlying74 hwt h
  obtain ⟨v0, v1, v2, v3, v4, v5, v6, rfl⟩ := len7 (hlen.trans (show Try.prog.cellsOf 74 = 7 by kernel_rfl))
  have g0 : DataW.trod enc Try.prog w base spare held m' 9 (([v0, v1, v2, v3, v4, v5, v6] : List Value).drop 0 |>.take (Try.prog.cellsOf 9)) = some y0 := g0
  rw [show Try.prog.cellsOf 9 = 1 by kernel_rfl] at g0
  have g0 : DataW.trod enc Try.prog w base spare held m' 9 [v0] = some y0 := g0
  have g1 : DataW.trod enc Try.prog w base spare held m' 4 (([v0, v1, v2, v3, v4, v5, v6] : List Value).drop 1 |>.take (Try.prog.cellsOf 4)) = some y1 := g1
  rw [show Try.prog.cellsOf 4 = 1 by kernel_rfl] at g1
  have g1 : DataW.trod enc Try.prog w base spare held m' 4 [v1] = some y1 := g1
  have g2 : DataW.trod enc Try.prog w base spare held m' 3 (([v0, v1, v2, v3, v4, v5, v6] : List Value).drop 2 |>.take (Try.prog.cellsOf 3)) = some y2 := g2
  rw [show Try.prog.cellsOf 3 = 1 by kernel_rfl] at g2
  have g2 : DataW.trod enc Try.prog w base spare held m' 3 [v2] = some y2 := g2
  have g3 : DataW.trod enc Try.prog w base spare held m' 34 (([v0, v1, v2, v3, v4, v5, v6] : List Value).drop 3 |>.take (Try.prog.cellsOf 34)) = some y3 := g3
  rw [show Try.prog.cellsOf 34 = 1 by kernel_rfl] at g3
  have g3 : DataW.trod enc Try.prog w base spare held m' 34 [v3] = some y3 := g3
  have g4 : DataW.trod enc Try.prog w base spare held m' 70 (([v0, v1, v2, v3, v4, v5, v6] : List Value).drop 4 |>.take (Try.prog.cellsOf 70)) = some y4 := g4
  rw [show Try.prog.cellsOf 70 = 1 by kernel_rfl] at g4
  have g4 : DataW.trod enc Try.prog w base spare held m' 70 [v4] = some y4 := g4
  have g5 : DataW.trod enc Try.prog w base spare held m' 71 (([v0, v1, v2, v3, v4, v5, v6] : List Value).drop 5 |>.take (Try.prog.cellsOf 71)) = some y5 := g5
  rw [show Try.prog.cellsOf 71 = 1 by kernel_rfl] at g5
  have g5 : DataW.trod enc Try.prog w base spare held m' 71 [v5] = some y5 := g5
  have g6 : DataW.trod enc Try.prog w base spare held m' 72 (([v0, v1, v2, v3, v4, v5, v6] : List Value).drop 6 |>.take (Try.prog.cellsOf 72)) = some y6 := g6
  rw [show Try.prog.cellsOf 72 = 1 by kernel_rfl] at g6
  have g6 : DataW.trod enc Try.prog w base spare held m' 72 [v6] = some y6 := g6
  obtain ⟨x0, e0, _, w0⟩ := DataW.trod_string Try.underlying9 g0
  obtain ⟨x1, e1, _⟩ := DataW.trod_bool Try.underlying4 g1
  obtain ⟨x2, e2, _, w2⟩ := DataW.trod_int Try.underlying3 g2
  injection e0 with e0
  injection e1 with e1
  injection e2 with e2
  subst e0 e1 e2
  obtain ⟨A3, n3, c3, rfl⟩ := slice_cells Try.underlying34 g3
  obtain ⟨A4, n4, c4, rfl⟩ := slice_cells Try.underlying70 g4
  obtain ⟨A5, n5, c5, rfl⟩ := slice_cells Try.underlying71 g5
  obtain ⟨A6, n6, c6, rfl⟩ := slice_cells Try.underlying72 g6
  obtain ⟨l3, h3⟩ := open_anys_f q3 g3
  obtain ⟨l4, h4⟩ := open_ruls_f q4 g4
  obtain ⟨l6, h6⟩ := open_duts_f q6 g6
  have hk : ∃ l, Rw 7 (PolAt w (fun _ => True) m') w (fun _ => True) A5 n5 c5 l :=
    open_rows Try.underlying71 (by kernel_rfl) (by omega) (by rw [bytes_pol]; omega) (fun q cs y hq _ hw h => by
      obtain ⟨p, hp⟩ := ih q (by omega) hw h
      exact ⟨p, PolAt.more (by omega) hp⟩) q5 g5
  obtain ⟨l5, h5⟩ := hk
  subst hm
  exact ⟨.mk x0 x1 x2 l3 l4 l5 l6, A3, n3, c3, A4, n4, c4, A5, n5, c5, A6, n6, c6, rfl, w0, wf_bounds w2, h3, h4, h5, h6⟩

theorem open_duts {n c : Nat} {A : Option Addr} {d : DataW H} {p : List MemPlace} (hwt : Wt Try.prog 72 d) (h : DataW.Trod enc Try.prog w base spare held 72 (.slice A n c) d p) : ∃ l, Dus w (fun _ => True) A n c l := by
  obtain ⟨m, hm⟩ := h
  exact open_duts_f hwt hm
theorem open_nods {n c : Nat} {A : Option Addr} {d : DataW H} {p : List MemPlace} (hwt : Wt Try.prog 109 d) (h : DataW.Trod enc Try.prog w base spare held 109 (.slice A n c) d p) : ∃ l, Nds w (fun _ => True) A n c l := by
  obtain ⟨m, hm⟩ := h
  exact open_nods_f hwt hm
theorem open_tgt {n c : Nat} {A : Option Addr} {d : DataW H} {p : List MemPlace} (hwt : Wt Try.prog 34 d) (h : DataW.Trod enc Try.prog w base spare held 34 (.slice A n c) d p) : ∃ l, Tg w (fun _ => True) A n c l := by
  obtain ⟨m, hm⟩ := h
  exact open_anys_f hwt hm
set_option maxRecDepth 100000 in
theorem open_pol {r : Reach} {b0 : Nat} {v : Value} {d : DataW H} {p : List MemPlace} (hv : Value.okWide Try.prog w r b0 74 v) (hwt : Wt Try.prog 74 d) (h : DataW.Trod enc Try.prog w base spare held 74 v d p) :
    ∃ (P : Pol) (A1 : Option Addr) (n1 k1 : Nat) (A2 : Option Addr) (n2 k2 : Nat) (A3 : Option Addr) (n3 k3 : Nat) (A4 : Option Addr) (n4 k4 : Nat), v = .agg #[.string P.id, .bool P.set, .int .i64 P.alg, .slice A1 n1 k1, .slice A2 n2 k2, .slice A3 n3 k3, .slice A4 n4 k4] ∧ PolIn w (fun _ => True) P A1 n1 k1 A2 n2 k2 A3 n3 k3 A4 n4 k4 := by
  obtain ⟨cs, m, rfl, hm⟩ := open_struct Try.underlying74 hv h
  obtain ⟨P, hP⟩ := open_pol_cells hwt hm
  clear hm hv h
  match m, hP with
  | d + 1, ⟨A1, n1, k1, A2, n2, k2, A3, n3, k3, A4, n4, k4, e, h0, h00, h1, h2, h3, h4⟩ =>
    exact ⟨P, A1, n1, k1, A2, n2, k2, A3, n3, k3, A4, n4, k4, congrArg (fun x : List Value => Value.agg x.toArray) e, ⟨h0, h00⟩, h1, h2, ⟨d, h3⟩, h4⟩
end
end Go.Proofs.Ytjpkemamfccfdaa
/- Arguments that come in: a list of numbers, each of which an int holds. -/
namespace Go.Proofs.Ytjpkemamfccfdaa
set_option linter.unusedVariables false
open Go.RowKit Go.ChangeShapes Go.WideShapes

theorem open_numsw {H : Type} {enc : TypeId × Value → H} {w : World} {base n c : Nat} {spare : Nat → Bool} {held : Bool} {A : Option Addr} {d : DataW H} {p : List MemPlace} (hwt : Wt Try.prog 43 d)
    (h : DataW.Trod enc Try.prog w base spare held 43 (.slice A n c) d p) : ∃ l, Sl w w.heap.size A n c (nv l) := open_nums h
theorem open_intsr {H : Type} {enc : TypeId × Value → H} {w : World} {base n c : Nat} {spare : Nat → Bool} {held : Bool} {A : Option Addr} {d : DataW H} {p : List MemPlace} (hwt : Wt Try.prog 43 d)
    (h : DataW.Trod enc Try.prog w base spare held 43 (.slice A n c) d p) : ∃ l, Sl w w.heap.size A n c (nv l) ∧ ∀ x ∈ l, InI x := by
  obtain ⟨l, hl⟩ := open_nums h
  refine ⟨l, hl, fun x hx => ?_⟩
  obtain ⟨fuel, hf⟩ := h
  obtain ⟨j, hj, rfl⟩ := List.getElem_of_mem hx
  have hjn : j < n := by have := hl.nlen; omega
  rcases open_ints Try.underlying43 Try.underlying3 (by kernel_rfl) hf with ⟨hcs, _⟩ | ⟨a, len, cap, zs, hcs, _, hll, hm, hz, _, hcell, hwz⟩
  · simp [Value.cells] at hcs
    omega
  · simp [Value.cells] at hcs
    obtain ⟨rfl, rfl, rfl⟩ := hcs
    obtain ⟨b, o, x, e, _, hx2, hc⟩ := hl.num hjn
    injection e with e
    subst e
    have hzl : n ≤ zs.length := by rw [hz]; split <;> omega
    have hcj := hcell j (by omega)
    have ha : (⟨b, o, none⟩ : Addr).add j = ⟨b, o + j, none⟩ := by
      by_cases hj0 : j = 0 <;> simp [Addr.add, hj0]
    rw [ha, hc] at hcj
    rw [List.getElem?_eq_getElem hj] at hx2
    injection hx2 with hx2
    have hm' : zs.getD j 0 ∈ zs := by
      rw [List.getD, List.getElem?_eq_getElem (by omega : j < zs.length)]
      exact List.getElem_mem _
    have := hwz _ hm'
    injection hcj with hcj
    injection hcj with _ hcj
    rw [hx2, hcj]
    exact wf_bounds this
end Go.Proofs.Ytjpkemamfccfdaa
/- Requests that come in. -/
namespace Go.Proofs.Ytjpkemamfccfdaa
set_option linter.unusedVariables false
open Go.RowKit Go.ChangeShapes Go.WideShapes

instance : Inhabited Vl := ⟨⟨0, 0, ByteArray.empty⟩⟩
section
variable {H : Type} {enc : TypeId × Value → H} {w : World} {base : Nat} {spare : Nat → Bool} {held : Bool}
theorem bytes_val : Try.prog.bytesOf 25 = 32 := by kernel_rfl
theorem bytes_giv : Try.prog.bytesOf 48 = 48 := by kernel_rfl
theorem open_vls_f {m n c : Nat} {A : Option Addr} {x : DataW H × List MemPlace} (hwt : Wt Try.prog 45 x.1) (h : DataW.trod enc Try.prog w base spare held m 45 [.slice A n c] = some x) : ∃ l, Vls w (fun _ => True) A n c l :=
  open_rows Try.underlying45 (by kernel_rfl) (by omega) (by rw [bytes_val]; omega) (fun m cs y _ _ q h => open_vl_cells q h) hwt h
theorem open_giv_cells {m : Nat} {cs : List Value} {y : DataW H × List MemPlace} (hwt : Wt Try.prog 48 y.1) (h : DataW.trod enc Try.prog w base spare held m 48 cs = some y) : ∃ g : Giv, GivAt w (fun _ => True) cs g := by
  obtain ⟨m', _, hlen, y0, y1, y2, ⟨q0, q1, q2⟩, g0, g1, g2⟩ := fields3 Try.underlying48 hwt h
  obtain ⟨v0, v1, v2, rfl⟩ := len3 (hlen.trans (show Try.prog.cellsOf 48 = 3 by kernel_rfl))
  have g0 : DataW.trod enc Try.prog w base spare held m' 3 (([v0, v1, v2] : List Value).drop 0 |>.take (Try.prog.cellsOf 3)) = some y0 := g0
  rw [show Try.prog.cellsOf 3 = 1 by kernel_rfl] at g0
  have g1 : DataW.trod enc Try.prog w base spare held m' 9 (([v0, v1, v2] : List Value).drop 1 |>.take (Try.prog.cellsOf 9)) = some y1 := g1
  rw [show Try.prog.cellsOf 9 = 1 by kernel_rfl] at g1
  have g2 : DataW.trod enc Try.prog w base spare held m' 45 (([v0, v1, v2] : List Value).drop 2 |>.take (Try.prog.cellsOf 45)) = some y2 := g2
  rw [show Try.prog.cellsOf 45 = 1 by kernel_rfl] at g2
  obtain ⟨x0, e0, _, w0⟩ := DataW.trod_int Try.underlying3 (show DataW.trod enc Try.prog w base spare held m' 3 [v0] = some y0 from g0)
  obtain ⟨x1, e1, _, w1⟩ := DataW.trod_string Try.underlying9 (show DataW.trod enc Try.prog w base spare held m' 9 [v1] = some y1 from g1)
  injection e0 with e0
  injection e1 with e1
  subst e0 e1
  have g2 : DataW.trod enc Try.prog w base spare held m' 45 [v2] = some y2 := g2
  obtain ⟨A2, n2, c2, rfl⟩ := slice_cells Try.underlying45 g2
  obtain ⟨l2, h2⟩ := open_vls_f q2 g2
  exact ⟨⟨x0, x1, l2⟩, A2, n2, c2, rfl, ⟨wf_bounds w0, w1⟩, h2⟩
theorem open_givs_f {m n c : Nat} {A : Option Addr} {x : DataW H × List MemPlace} (hwt : Wt Try.prog 30 x.1) (h : DataW.trod enc Try.prog w base spare held m 30 [.slice A n c] = some x) : ∃ l, Gvs w (fun _ => True) A n c l :=
  open_rows Try.underlying30 (by kernel_rfl) (by omega) (by rw [bytes_giv]; omega) (fun m cs y _ _ q h => open_giv_cells q h) hwt h
theorem open_givs {n c : Nat} {A : Option Addr} {d : DataW H} {p : List MemPlace} (hwt : Wt Try.prog 30 d) (h : DataW.Trod enc Try.prog w base spare held 30 (.slice A n c) d p) : ∃ l, Gvs w (fun _ => True) A n c l := by
  obtain ⟨m, hm⟩ := h
  exact open_givs_f hwt hm
set_option maxRecDepth 100000 in
theorem open_giv {r : Reach} {b0 : Nat} {v : Value} {d : DataW H} {p : List MemPlace} (hv : Value.okWide Try.prog w r b0 48 v) (hwt : Wt Try.prog 48 d) (h : DataW.Trod enc Try.prog w base spare held 48 v d p) :
    ∃ (g : Giv) (A : Option Addr) (n c : Nat), v = .agg #[.int .i64 g.cat, .string g.name, .slice A n c] ∧ g.ok ∧ Vls w (fun _ => True) A n c g.bag := by
  obtain ⟨cs, m, rfl, hm⟩ := open_struct Try.underlying48 hv h
  obtain ⟨g, A, n, c, rfl, hok, hb⟩ := open_giv_cells hwt hm
  exact ⟨g, A, n, c, rfl, hok, hb⟩
end
end Go.Proofs.Ytjpkemamfccfdaa
